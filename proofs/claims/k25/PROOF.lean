import PyProof.Rows.All
import Wide.All
import OpenK.AllK
import Wide.FinOn
import Lean
import PyProof.EqAt
import PyProof.EqKinds
import PyProof.TupleCall
import PySem.SetOps
import PyProof.SetKind
import PyProof.TupleKey
import PyProof.DictKinds
import PyProof.Rows.SetFrom
import PyProof.WalksMore
import PyProof.SetRoads
import KE.KSortTup
import PyProof.CollectWalk
import PyProof.Rows.FStr
import PyProof.Rows.StrWeight2
import PyProof.Rows.StrNews
import PyProof.StrLawsTight
import PyProof.ExcArgsOwn
import PyProof.Rows.CountFlat
import PyProof.Rows.SeqMore2
import PyProof.ExcBaseAll.ValueError
import PyProof.ZipIter
import PyProof.CallFns
import PyProof.Draws
import PyProof.EnumMake
import PyProof.Rows.SortWalk
import PyProof.SeqI3
import PyProof.Rows.SortShell
import PyProof.Rows.BitMore
import PySem.Challenge.RW_rowsorder_k25_turns_together
set_option Elab.async false
set_option linter.all false
set_option maxRecDepth 100000
set_option maxHeartbeats 1000000
open List (mem_filter mem_range filterMap_cons mem_cons_self mem_cons_of_mem mem_cons mem_append mem_append_left getElem?_set_self getElem?_set_ne mem_filterMap mem_append_right size_toArray length_cons append_nil nodup_cons length_take getElem?_append_right getElem?_replicate getElem?_append_left getElem?_map mem_of_getElem? length_append length_map length_replicate map_cons length_set replicate_succ flatten_cons append_assoc foldl_cons length_singleton pairwise_iff_getElem length_erase_of_mem nodup_range mem_iff_getElem getElem?_eq_getElem take_of_length_le pairwise_map mem_map toList_toArray getElem?_toArray ext_getElem? nodup_nil getElem_mem mem_of_mem_take take_add_one mem_singleton length_filter_le getD_eq_getElem?_getD map_map lookup_cons map_congr_left any_cons not_mem_nil getElem?_eq_none set_eq_of_length_le getElem?_range map_append set_set all_eq_true idxOf_lt_length_iff nodup_iff_pairwise_ne length_range filter_eq_nil_iff filter_congr idxOf_append length_pos_iff mem_iff_getElem?)
open PySem.W (Frag)
open PySem.PyData (int)
section
set_option Elab.async false
namespace L2
open PySem PySem.Spec PyProof.Rows
abbrev Key:=Sum Int Str
def ER:Key->Value->Bool
 | .inl k,v=>Value.isInt k v
 | .inr x,v=>Value.isStrOf x v
def JP (w:World):Key->Int
 | .inl k=>hashInt k
 | .inr x=>hashStr w x
theorem cz:∀{k:Key} {v:Value},ER k v=true->(∃i t,k=Sum.inl i/\v=Value.int i t)\/(∃x t,k=Sum.inr x/\v=Value.str x t)
 | .inl i,v,h=>by
  obtain⟨t,e⟩:=Value.isInt_shape (k:=i) (v:=v) h
  exact .inl ⟨i,t,rfl,e⟩
 | .inr x,v,h=>by
  obtain⟨t,e⟩:=Value.isStrOf_shape (x:=x) (v:=v) h
  exact .inr ⟨x,t,rfl,e⟩
theorem Fh (a b:Int):decide ((Sum.inl a:Key)=Sum.inl b)=(a == b):=by
 by_cases e:a=b
 ·subst e;simp
 ·have h:¬(Sum.inl a:Key)=Sum.inl b:=fun q=>e (Sum.inl.inj q)
  rw[decide_eq_false h]
  exact (beq_eq_false_iff_ne.mpr e).symm
theorem Gh (a b:Str):decide ((Sum.inr a:Key)=Sum.inr b)=decide (a=b):=by
 by_cases e:a=b
 ·subst e;simp
 ·have h:¬(Sum.inr a:Key)=Sum.inr b:=fun q=>e (Sum.inr.inj q)
  rw[decide_eq_false h,decide_eq_false e]
theorem Gn (a:Int)(b:Str):decide ((Sum.inl a:Key)=Sum.inr b)=false:=decide_eq_false (fun q=>nomatch q)
theorem FG (a:Str)(b:Int):decide ((Sum.inr a:Key)=Sum.inl b)=false:=decide_eq_false (fun q=>nomatch q)
def uC (prog:Program)(w:World):PySem.KeyKind prog w Key where
 is:=ER
 hash:=JP w
 inj:=fun v a b ha hb=>by
  rcases cz ha with⟨i,t,rfl,rfl⟩ | ⟨x,t,rfl,rfl⟩
  ·rcases cz hb with⟨j,u,rfl,e⟩ | ⟨y,u,rfl,e⟩
   ·injection e with e1 _;rw[e1]
   ·exact nomatch e
  ·rcases cz hb with⟨j,u,rfl,e⟩ | ⟨y,u,rfl,e⟩
   ·exact nomatch e
   ·injection e with e1 _;rw[e1]
 byValue:=fun k v h=>by
  rcases cz h with⟨i,t,rfl,rfl⟩ | ⟨x,t,rfl,rfl⟩ <;> rfl
 pyHash:=fun hv h=>by
  rcases cz hv with⟨i,t,rfl,rfl⟩ | ⟨x,t,rfl,rfl⟩
  ·exact wpAny_pyHash_int h
  ·exact wpAny_pyHash_str h
 eqBool:=fun hu hv h=>by
  rcases cz hu with⟨i,t,rfl,rfl⟩ | ⟨x,t,rfl,rfl⟩
  ·rcases cz hv with⟨j,u,rfl,rfl⟩ | ⟨y,u,rfl,rfl⟩
   ·rw[Fh] at h;exact wpAny_eqBool_int h
   ·rw[Gn] at h;exact SeqAt.EqAt.int_str i t y u _ _ _ _ h
  ·rcases cz hv with⟨j,u,rfl,rfl⟩ | ⟨y,u,rfl,rfl⟩
   ·rw[FG] at h;exact SeqAt.EqAt.str_int x t j u _ _ _ _ h
   ·rw[Gh] at h;exact wpAny_eqBool_str h
 «strs»:=fun k x t v h=>by
  rcases cz h with⟨i,u,rfl,e⟩ | ⟨y,u,rfl,e⟩
  ·exact nomatch e
  ·injection e with e1 _
   subst e1
   cases v <;> rfl
inductive V where
 |non |bl (b:Bool) |int (i:Int) |str (x:Str) |byt (b:Array UInt8) |flt (b:UInt64) |ref (a:Addr) |ty (n:String)
 deriving DecidableEq
def RelV:V->Value->Prop
 | .non,u=>u=Value.none
 | .bl b,u=>u=Value.bool b
 | .int i,u=>∃t,u=Value.int i t
 | .str x,u=>∃t,u=Value.str x t
 | .byt b,u=>∃t,u=Value.bytes b t
 | .flt b,u=>∃t,u=Value.float b t
 | .ref a,u=>u=Value.ref a
 | .ty n,u=>u=Value.type n
abbrev Vals:List V->List Value->Prop:=Paired RelV
theorem Vals.length {xs:List V}{us:List Value}(r:Vals xs us):xs.length=us.length:=Paired.length r
theorem Vals.get:∀{xs:List V} {us:List Value} {i:Nat} {x:V},Vals xs us->xs[i]? =some x->∃u,us[i]? =some u/\RelV x u
 |_,_,_,_,.nil,e=>by simp at e
 |_,_,0,_,.cons r _,e=>by simp at e;subst e;exact⟨_,rfl,r⟩
 |_,_,i + 1,x,.cons _ t,e=>by
  obtain⟨u,h1,h2⟩:=Vals.get (i:=i) (x:=x) t (by simpa using e)
  exact⟨u,by simpa using h1,h2⟩
theorem Vals.set {x:V}{u:Value}(r:RelV x u):∀{xs:List V} {us:List Value} (i:Nat),Vals xs us->Vals (xs.set i x) (us.set i u)
 |_,_,_,.nil=>.nil
 |_,_,0,.cons _ t=>.cons r t
 |_,_,i + 1,.cons q t=>.cons q (Vals.set r i t)
theorem Vals.append:∀{xs ys:List V} {us ws:List Value},Vals xs us->Vals ys ws->Vals (xs ++ ys) (us ++ ws)
 |_,_,_,_,.nil,s=>s
 |_,_,_,_,.cons r t,s=>.cons r (Vals.append t s)
theorem Vals.take:∀{xs:List V} {us:List Value} (n:Nat),Vals xs us->Vals (xs.take n) (us.take n)
 |_,_,0,_=>.nil
 |_,_,_ + 1,.nil=>.nil
 |_,_,n + 1,.cons r t=>.cons r (Vals.take n t)
theorem Vals.drop:∀{xs:List V} {us:List Value} (n:Nat),Vals xs us->Vals (xs.drop n) (us.drop n)
 |_,_,0,r=>r
 |_,_,_ + 1,.nil=>.nil
 |_,_,n + 1,.cons _ t=>Vals.drop n t
def Gy:Option V->Option Value->Prop
 |some v,some u=>RelV v u
 |none,none=>True
 |_,_=>False
def KV {κ:Type}:List (κ×V)->List (κ×Value)->Prop:=Paired fun (p:κ×V) (q:κ×Value)=>p.1=q.1/\RelV p.2 q.2
def kV:Key->V
 | .inl i=>.int i
 | .inr x=>.str x
inductive HO where
 |lst (xs:List V)
 |tup (xs:List V)
 |dK (kvs:List (Key×V)) |dT (kvs:List (List Key×V))
 |set (S:Int->Bool) (n:Nat)
 |ins (C dx:Addr) (fs:List (Str×V))
 |own (x:Addr)
 |xd (fs:List (Str×V))
 |met (f x:Addr)
 |dm (lo hi:Int)
 |bp (o:Obj) (u:HO)
 |tbl (ps:Array Value)
 |ext (φ:Heap->Prop)
abbrev Hp:=Addr->Option HO
def upd (H:Hp)(a:Addr)(o:HO):Hp:=fun b=>if b=a then some o else H b
theorem aC {H:Hp}{a:Addr}{o:HO}:upd H a o a=some o:=by unfold upd;rw[if_pos rfl]
theorem aE {H:Hp}{a b:Addr}{o:HO}(h:b≠a):upd H a o b=H b:=by unfold upd;rw[if_neg h]
theorem Et {H:Hp}{a b:Addr}{o u:HO}(h:H a=some o)(h':H b=some u)(d:o≠u):a≠b:=by
 intro e;subst e;rw[h] at h';exact d (Option.some.inj h')
theorem aO {H:Hp}{a b:Addr}{o:HO}(h:H a=some o)(h':H b=none):a≠b:=by
 intro e;subst e;rw[h] at h';cases h'
section
variable (P:Program)(w:World)
def uw (h:Heap)(a:Addr)(items:Array Value):Prop:=∃o,h.get? a=some o/\o.cls=.type "tuple"/\∃n,o.data=.seq items n/\o.dict=none
theorem uw.isTup {h:Heap}{a:Addr}{items:Array Value}(x:uw h a items):IsTup h a items:=let ⟨o,e,c,n,d,_⟩:=x;⟨o,e,c,n,d⟩
theorem uw.new (h:Heap)(items:Array Value):uw (h.push {cls:=.type "tuple",data:=.seq items}) h.objs.size items:=⟨_,Heap.get?_push_size _ rfl,rfl,_,rfl,rfl⟩
def cL (H:Hp)(h:Heap)(a:Addr):HO->Prop
 | .lst xs=>xs.length<=sizeLine/\∃(its:List Value) (n:Nat),Vals xs its/\h.get? a=some {cls:=.type "list",data:=.seq its.toArray n}
 | .tup xs=>xs.length<=sizeLine/\∃its:List Value,Vals xs its/\uw h a its.toArray
 | .dK kvs=>kvs.length<=sizeLine/\(a == sysModules)=false/\∃vs,KV kvs vs/\h.DictOf (uC P w) a vs
 | .dT kvs=>kvs.length<=sizeLine/\(a == sysModules)=false/\∃xs:List (List Key×Addr×Value),
   Paired (fun (p:List Key×V) (q:List Key×Addr×Value)=>p.1=q.1/\H q.2.1=some (.tup (p.1.map kV))/\RelV p.2 q.2.2) kvs xs/\
   ∃o es ep,h.get? a=some o/\o.ExactDict/\o.data=.dict es ep/\es.toList=xs.map (entryOfKey (tupleKind (uC P w)))/\(xs.map (·.1)).Nodup
 | .set S n=>h.SetOf (intKind P w) a S n
 | .ins C dx fs=>H dx=some (.own a)/\fs.length<=1000/\dx≠a/\h.get? a=some (PySem.W.instObj C dx)/\
   ∃mA,h.Ns1 dx mA/\(∀f,Gy (fs.lookup f) (mA f))/\PySem.Within mA (fs.map (·.1))
 | .own _=>∃o,h.get? a=some o
 | .xd fs=>∃mA,h.Ns1 a mA/\∀f,Gy (fs.lookup f) (mA f)
 | .dm lo hi=>∃t u v,h.get? a=some {cls:=.type "range",data:=.fields #[.int lo t,.int hi u,.int 1 v]}
 | .bp o u=>h.get? a=some o/\cL H h a u
 | .tbl ps=>h.get? a=some {cls:=.none,data:=.fields ps}
 | .met f x=>h.get? a=some (PySem.W.methodObj (.ref f) (.ref x))
 | .ext φ=>φ h/\(∃o,h.get? a=some o)/\∀h1 h2:Heap,φ h1->(∀o,h1.get? a=some o->h2.get? a=some o)->φ h2
def mR (H:Hp)(h:Heap):Prop:=∀a o,H a=some o->cL P w H h a o
end
section
variable {P:Program}{w:World}{H H':Hp}{h h':Heap}{a:Addr}{o:HO}
theorem cL.lt (x:cL P w H h a o):a < h.objs.size:=by
 cases o with
 |lst xs=>obtain⟨_,_,_,_,e⟩:=x;exact Heap.lt_size e
 |tup xs=>obtain⟨_,_,_,p⟩:=x;exact p.isTup.lt
 |dK kvs=>obtain⟨_,_,_,_,o,_,_,e,_⟩:=x;exact Heap.lt_size e
 |dT kvs=>obtain⟨_,_,_,_,o,_,_,e,_⟩:=x;exact Heap.lt_size e
 |set S n=>obtain⟨o,_,_,_,e,_⟩:=x;exact Heap.lt_size e
 |ins C dx fs=>obtain⟨_,_,_,e,_⟩:=x;exact Heap.lt_size e
 |own y=>obtain⟨_,e⟩:=x;exact Heap.lt_size e
 |xd fs=>obtain⟨_,⟨_,_,_,e,_⟩,_⟩:=x;exact Heap.lt_size e
 |dm lo hi=>obtain⟨_,_,_,e⟩:=x;exact Heap.lt_size e
 |bp ob u=>obtain⟨e,_⟩:=x;exact Heap.lt_size e
 |tbl ps=>exact Heap.lt_size (show h.get? a=some _ from x)
 |met f y=>exact Heap.lt_size (show h.get? a=some _ from x)
 |ext φ=>obtain⟨_,⟨_,e⟩,_⟩:=x;exact Heap.lt_size e
theorem Paired.mapP {α β:Type}{F G:α->β->Prop}:∀{l₁:List α} {l₂:List β},Paired F l₁ l₂->(∀a b,F a b->G a b)->Paired G l₁ l₂
 |_,_,.nil,_=>.nil
 |_,_,.cons r t,f=>.cons (f _ _ r) (Paired.mapP t f)
theorem cL.stay (x:cL P w H h a o)(k:∀b u,(b=a\/H b=some (.own a))->h.get? b=some u->h'.get? b=some u)
  (ho:∀b,H b=some (.own a)->H' b=some (.own a)) (ht:∀b xs,H b=some (.tup xs)->H' b=some (.tup xs)):cL P w H' h' a o:=by
 induction o with
 |lst xs=>obtain⟨z,its,n,r,e⟩:=x;exact⟨z,its,n,r,k _ _ (.inl rfl) e⟩
 |tup xs=>obtain⟨z,its,r,ob,e,c⟩:=x;exact⟨z,its,r,ob,k _ _ (.inl rfl) e,c⟩
 |dK kvs=>obtain⟨z,y,vs,r,ob,es,ep,e,c⟩:=x;exact⟨z,y,vs,r,ob,es,ep,k _ _ (.inl rfl) e,c⟩
 |dT kvs=>
  obtain⟨z,y,xs,r,ob,es,ep,e,c⟩:=x
  exact⟨z,y,xs,Paired.mapP r fun p q z=>⟨z.1,ht _ _ z.2.1,z.2.2⟩,ob,es,ep,k _ _ (.inl rfl) e,c⟩
 |set S n=>obtain⟨ob,es,ep,t,e,c⟩:=x;exact⟨ob,es,ep,t,k _ _ (.inl rfl) e,c⟩
 |ins C dx fs=>
  obtain⟨d,z,ne,e,mA,⟨od,es,ep,e2,c⟩,r⟩:=x
  exact⟨ho _ d,z,ne,k _ _ (.inl rfl) e,mA,⟨od,es,ep,k _ _ (.inr d) e2,c⟩,r⟩
 |own y=>obtain⟨ob,e⟩:=x;exact⟨ob,k _ _ (.inl rfl) e⟩
 |xd fs=>obtain⟨mA,⟨od,es,ep,e,c⟩,r⟩:=x;exact⟨mA,⟨od,es,ep,k _ _ (.inl rfl) e,c⟩,r⟩
 |dm lo hi=>obtain⟨t,u,v,e⟩:=x;exact⟨t,u,v,k _ _ (.inl rfl) e⟩
 |bp ob u ih=>obtain⟨e,q⟩:=x;exact⟨k _ _ (.inl rfl) e,ih q⟩
 |tbl ps=>
  have e:h.get? a=some {cls:=.none,data:=.fields ps}:=x
  show h'.get? a=some {cls:=.none,data:=.fields ps}
  exact k a _ (.inl rfl) e
 |met f y=>
  have e:h.get? a=some (PySem.W.methodObj (.ref f) (.ref y)):=x
  show h'.get? a=some (PySem.W.methodObj (.ref f) (.ref y))
  exact k a _ (.inl rfl) e
 |ext φ=>obtain⟨p,⟨o,e⟩,st⟩:=x;exact⟨st _ _ p fun o q=>k _ _ (.inl rfl) q,⟨o,k _ _ (.inl rfl) e⟩,st⟩
theorem mR.lt (x:mR P w H h)(e:H a=some o):a < h.objs.size:=(x a o e).lt
theorem mR.fresh (x:mR P w H h)(e:h.objs.size<=a):H a=none:=by
 cases q:H a with
 |none=>rfl
 |some u=>exact absurd (Nat.lt_of_lt_of_le (x.lt q) e) (Nat.lt_irrefl _)
theorem mR.kept (x:mR P w H h)(k:∀b u,h.get? b=some u->h'.get? b=some u):mR P w H h':=fun a o e=>
 (x a o e).stay (fun b u _ q=>k b u q) (fun _ q=>q) fun _ _ q=>q
theorem mR.laid (x:mR P w H h)(k:∀b u,h.get? b=some u->h'.get? b=some u)(hp:h.objs.size<=a)(new:cL P w (upd H a o) h' a o):mR P w (upd H a o) h':=fun b u e=>by
 have hn:=x.fresh hp
 by_cases hb:b=a
 ·subst hb;rw[aC] at e;cases e;exact new
 ·rw[aE hb] at e
  exact (x b u e).stay (fun c v _ q=>k c v q) (fun c q=>by rw[aE (aO q hn)];exact q) fun c xs q=>by rw[aE (aO q hn)];exact q
end
def Rd (H:Hp)(a:Addr)(u:HO):Prop:=H a=some u\/∃o,H a=some (.bp o u)
theorem Rd.ok {P:Program}{w:World}{H:Hp}{h:Heap}{a:Addr}{u:HO}(r:Rd H a u)(x:mR P w H h):cL P w H h a u:=by
 rcases r with r | ⟨o,r⟩
 ·exact x a u r
 ·obtain⟨_,q⟩:=x a _ r
  exact q
def Jb:Option HO->Prop
 |some (.lst _)=>True
 |some (.dK _)=>True
 |some (.dT _)=>True
 |some (.set _ _)=>True
 |some (.ins _ _ _)=>True
 |some (.ext _)=>True
 |_=>False
section
variable {P:Program}{w:World}{H:Hp}{h h':Heap}{x e:Addr}{o':HO}
theorem mR.write (ok:mR P w H h)(mu:Jb (H x))(he:e=x\/H e=some (.own x))(k:∀b u,b≠e->h.get? b=some u->h'.get? b=some u)(heo:∃u,h'.get? e=some u)
  (new:cL P w (upd H x o') h' x o'):mR P w (upd H x o') h':=fun b u q=>by
 have nown:∀c y,H c=some (.own y)->c≠x:=fun c y r z=>by subst z;rw[r] at mu;exact mu
 have ntup:∀c xs,H c=some (.tup xs)->c≠x:=fun c xs r z=>by subst z;rw[r] at mu;exact mu
 by_cases hb:b=x
 ·subst hb;rw[aC] at q;cases q;exact new
 ·rw[aE hb] at q
  by_cases hbe:b=e
  ·have q':H b=some (.own x):=by
    rcases he with z |z
    ·exact absurd (hbe.trans z) hb
    ·rw[hbe];exact z
   rw[q] at q';cases q'
   obtain⟨v,hv⟩:=heo
   exact⟨v,by rw[hbe];exact hv⟩
  ·refine (ok b u q).stay (fun c v hc r=>k c v ?_ r) (fun c r=>by rw[aE (nown c b r)];exact r) fun c xs r=>by rw[aE (ntup c xs r)];exact r
   rcases hc with rfl |hc
   ·exact hbe
   ·rintro rfl
    rcases he with z |z
    ·exact nown c b hc z
    ·rw[hc] at z;cases z;exact hb rfl
end
structure Un (fs ex:List Addr)(H H':Hp)(h h':Heap):Prop where
 keep:∀b o,h.get? b=some o->H b=none->b∉fs->b∉ex->h'.get? b=some o
 slot:∀b o,h.get? b=some o->H b=none->b∈fs->b∉ex->∃sl,h'.get? b=some {o with slots:=sl}
 free:∀b o,h.get? b=some o->H b=none->b∉ex->H' b=none
 there:∀b o,h.get? b=some o->b∉ex->∃o',h'.get? b=some o'
 tups:∀b xs,H b=some (.tup xs)->H' b=some (.tup xs)
 frzs:∀b o u,H b=some (.bp o u)->H' b=some (.bp o u)
 tbls:∀b ps,H b=some (.tbl ps)->∃more,H' b=some (.tbl (ps ++ more))
section
variable {fs fs' ex ex':List Addr}{H H1 H2:Hp}{h h1 h2 h':Heap}{a x e:Addr}{o:HO}
theorem Un.any (u:Un fs ex H H1 h h1){b:Addr}{ob:Obj}(q:h.get? b=some ob)(n:H b=none)(hx:b∉ex):∃sl,h1.get? b=some {ob with slots:=sl}:=by
 by_cases hb:b∈fs
 ·exact u.slot b ob q n hb hx
 ·exact⟨ob.slots,u.keep b ob q n hb hx⟩
theorem Un.kept (k:∀b u,h.get? b=some u->h'.get? b=some u):Un fs ex H H h h':=
 ⟨fun b ob q _ _ _=>k b ob q,fun b ob q _ _ _=>⟨ob.slots,k b ob q⟩,fun _ _ _ n _=>n,fun b ob q _=>⟨ob,k b ob q⟩,fun _ _ q=>q,fun _ _ _ q=>q,fun _ ps q=>⟨#[],by rw[q];simp⟩⟩
theorem Un.refl:Un fs ex H H h h:=Un.kept fun _ _ q=>q
theorem Un.laid (k:∀b u,h.get? b=some u->h'.get? b=some u)(hp:h.objs.size<=a)(hn:H a=none):Un fs ex H (upd H a o) h h' where
 keep:=fun b u q _ _ _=>k b u q
 slot:=fun b u q _ _ _=>⟨u.slots,k b u q⟩
 free:=fun b u q n _=>by rw[aE (Nat.ne_of_lt (Nat.lt_of_lt_of_le (Heap.lt_size q) hp))];exact n
 there:=fun b u q _=>⟨u,k b u q⟩
 tups:=fun b xs q=>by rw[aE (aO q hn)];exact q
 frzs:=fun b u xs q=>by rw[aE (aO q hn)];exact q
 tbls:=fun b ps q=>⟨#[],by rw[aE (aO q hn),q];simp⟩
theorem Un.write (mu:Jb (H x))(he:e=x\/H e=some (.own x))(k:∀b u,b≠e->h.get? b=some u->h'.get? b=some u)(heo:∃u,h'.get? e=some u):Un fs ex H (upd H x o) h h':=by
 have hx:∀b,H b=none->b≠x:=fun b n z=>by subst z;rw[n] at mu;exact mu
 have hb:∀b,H b=none->b≠e:=fun b n z=>by
  subst z
  rcases he with r |r
  ·exact hx b n r
  ·rw[n] at r;cases r
 have hm:∀b u,H b=some u->¬Jb (some u)->b≠x:=fun b u q nm z=>by subst z;rw[q] at mu;exact nm mu
 refine⟨fun b u q n _ _=>k b u (hb b n) q,fun b u q n _ _=>⟨u.slots,k b u (hb b n) q⟩,fun b u q n _=>by rw[aE (hx b n)];exact n,fun b u q _=>?_,
  fun b xs q=>by rw[aE (hm b _ q fun z=>z)];exact q,fun b u xs q=>by rw[aE (hm b _ q fun z=>z)];exact q,fun b ps q=>⟨#[],by rw[aE (hm b _ q fun z=>z),q];simp⟩⟩
 by_cases hbe:b=e
 ·subst hbe;exact heo
 ·exact⟨u,k b u hbe q⟩
end
def IU (h:Heap)(H:Hp):List Addr:=(List.range h.objs.size).filter fun a=>(H a).isSome
def um (h:Heap)(H:Hp):Heap:=PySem.W.hideAll h (IU h H)
theorem Ab (h:Heap)(H:Hp):(um h H).objs.size=h.objs.size:=PySem.W.hideAll_size _ _
theorem BE {h:Heap}{H:Hp}{b:Addr}{o:Obj}(e:h.get? b=some o)(n:H b=none):(um h H).get? b=some o:=
 PySem.W.hideAll_get _ e fun hm=>by
  have q:(H b).isSome=true:=(mem_filter.mp hm).2
  rw[n] at q;simp at q
theorem C3 {h:Heap}{H:Hp}{b:Addr}{o:Obj}(e:(um h H).get? b=some o):h.get? b=some o/\H b=none:=by
 have e':h.get? b=some o:=PySem.W.of_hideAll (IU h H) e
 refine⟨e',?_⟩
 cases q:H b with
 |none=>rfl
 |some x=>
  have hm:b∈IU h H:=mem_filter.mpr ⟨mem_range.mpr (Heap.lt_size e'),by simp[q]⟩
  have z:(um h H).get? b=none:=PySem.W.hideAll_none (IU h H) hm
  rw[z] at e;cases e
def DS (g h:Heap)(L:Addr):List (Addr×Obj):=(List.range h.objs.size).filterMap fun a=>if a=L\/(g.get? a).isSome=true then none else (h.get? a).map fun o=>(a,o)
def rest (g h:Heap)(L d:Addr):List (Addr×Obj):=(DS g h L).filter fun p=>decide (p.1≠d)
structure Mod (K:Frag)(mg:Str->Option Value)(base:Heap):Prop where
 kin:K.In base
 glob:base.Ns mainGlobals mg
 blt:∃mb,base.Ns builtinsNs mb/\∀x:Str,x≠"__name__"->mb x=bootBuiltins x
 nolimit:base.NoLimit
 sys:∃mm,base.Ns sysModules mm
structure Cx where
 prog:Program
 w:World
 K:Frag
 mg:Str->Option Value
 base:Heap
 A:Around
 N:List Str
 s₀:Shared
 H₀:Hp
 env:Env
 outer:List Env
 stack:List Env
 ex:List Addr
 fn:Str->Bool
 calm:Bool
 pn:List (Addr×Obj)
 xe:Value->Shared->Prop
def jU (l:List Env):List Addr:=l.filterMap (·.frame)
abbrev Cx.fs (X:Cx):List Addr:=jU X.outer
def zI (sc:Scope)(x:Str):Prop:=sc.names.lookup x=some .local\/sc.names.lookup x=some .cell\/sc.names.lookup x=some .free
def Loc (sc:Scope)(x:Str):Prop:=sc.names.lookup x=some .local\/sc.names.lookup x=some .cell
def Look (env:Env)(h:Heap)(m:Str->Option Value)(x:Str)(u:Value):Prop:=
 (env.kindOf x=some .local/\m x=some u)\/((env.kindOf x=some .cell\/env.kindOf x=some .free)/\∃c,env.cells.lookup x=some c/\h.IsCell c (some u))
structure Cx.Ok (X:Cx):Prop where
 mod:Mod X.K X.mg X.base
 kind:X.env.scope.kind=.function
 glob:X.env.globals=mainGlobals
 blt:X.env.builtins=builtinsNs
 above:X.s₀.heap.objs.size<=X.env.locals
 inj:∀x y c,X.env.cells.lookup x=some c->X.env.cells.lookup y=some c->x=y
 has:∀x,(X.env.kindOf x=some .cell\/X.env.kindOf x=some .free)->∃c,X.env.cells.lookup x=some c
 cab:∀x c,X.fn x=true->X.env.cells.lookup x=some c->X.s₀.heap.objs.size<=c
 hd:X.calm=true->X.A.handled=none
 frames:X.A.frames=some X.stack
 stk:X.stack=X.outer\/(X.stack=X.env :: X.outer/\X.env.frame=some X.env.locals)
 exf:∀b∈X.ex,b≠X.env.locals/\∀x c,X.env.cells.lookup x=some c->c≠b
 bs:∀b o,X.base.get? b=some o->X.s₀.heap.get? b=some o/\X.H₀ b=none
 bsz:X.base.objs.size<=X.s₀.heap.objs.size
 noex:∀b o,X.base.get? b=some o->b∉X.ex
 exfs:∀b∈X.ex,b∉X.fs
 funs:X.s₀.heap.FunFrames X.base X.outer
 frf:∀b∈X.fs,X.H₀ b=none
structure Inv (X:Cx)(pins:List (Addr×Obj))(σ:List (Option V))(H:Hp)(s:Shared):Prop where
 ok:X.Ok
 os:s.os=X.s₀.os
 bare:AllBare s.gens
 base:Un X.fs X.ex X.H₀ H X.s₀.heap s.heap
 loc:∃m,s.heap.Ns X.env.locals m/\∀(i:Nat) (x:Str) (v:V),X.N[i]? =some x->σ[i]? =some (some v)->zI X.env.scope x->∃u,RelV v u/\Look X.env s.heap m x u
 cell:∀x c,X.env.cells.lookup x=some c->∃v,s.heap.IsCell c v
 free:H X.env.locals=none
 freeC:∀x c,X.env.cells.lookup x=some c->H c=none
 pin:∀p∈X.pn ++ pins,s.heap.get? p.1=some p.2/\H p.1=none/\p.1≠X.env.locals/\p.1∉X.fs/\∀v,p.2.data≠.cell v
 hok:mR X.prog X.w H s.heap
 len:σ.length=X.N.length
section
variable {X:Cx}{pins:List (Addr×Obj)}{σ:List (Option V)}{H H':Hp}{s:Shared}{h':Heap}
theorem Cx.Ok.nofr (ok:X.Ok){b:Addr}{o:Obj}(e:X.base.get? b=some o):b∉X.fs:=fun hb=>by
 have:=(ok.funs.mem hb).1
 rw[e] at this;cases this
theorem Inv.bs (I:Inv X pins σ H s):∀b o,X.base.get? b=some o->s.heap.get? b=some o/\H b=none:=fun b o e=>
 ⟨I.base.keep b o (I.ok.bs b o e).1 (I.ok.bs b o e).2 (I.ok.nofr e) (I.ok.noex b o e),I.base.free b o (I.ok.bs b o e).1 (I.ok.bs b o e).2 (I.ok.noex b o e)⟩
theorem Inv.bk (I:Inv X pins σ H s):∀b o,X.base.get? b=some o->s.heap.get? b=some o:=fun b o e=>(I.bs b o e).1
theorem Inv.mod (I:Inv X pins σ H s):Mod X.K X.mg X.base:=I.ok.mod
theorem Inv.kIn (I:Inv X pins σ H s):X.K.In s.heap:=I.ok.mod.kin.keeps I.bk
theorem Inv.lt (I:Inv X pins σ H s):X.env.locals < s.heap.objs.size:=let ⟨_,hn,_⟩:=I.loc;hn.lt
theorem Inv.sz (I:Inv X pins σ H s):X.s₀.heap.objs.size<=s.heap.objs.size:=Nat.le_trans I.ok.above (Nat.le_of_lt I.lt)
theorem Inv.nofs (I:Inv X pins σ H s){a:Addr}(h:s.heap.objs.size<=a):a∉X.fs:=fun hb=>by
 obtain⟨_,o,ho,_⟩:=I.ok.funs.mem hb
 exact absurd (Nat.lt_of_lt_of_le (Heap.lt_size ho) (Nat.le_trans I.sz h)) (Nat.lt_irrefl _)
theorem Inv.cne (I:Inv X pins σ H s):∀x c,X.env.cells.lookup x=some c->c≠X.env.locals:=fun x c e z=>by
 obtain⟨v,o,ho,hd⟩:=I.cell x c e
 obtain⟨m,⟨o',es,ep,ho',hd',_⟩,_⟩:=I.loc
 rw[z,ho'] at ho;cases ho;rw[hd'] at hd;cases hd
theorem Inv.funs (I:Inv X pins σ H s):s.heap.FunFrames X.base X.outer:=by
 have all:∀(l:List Env),(∀b∈jU l,b∈X.fs)->X.s₀.heap.FunFrames X.base l->s.heap.FunFrames X.base l:=by
  intro l
  induction l with
  |nil=>intro _ _;trivial
  |cons env r ih=>
   intro hs hl
   obtain⟨hk,⟨L,o,hf,hn,ho,hd⟩,hr⟩:=hl
   have hL:L∈X.fs:=hs L (by unfold jU;rw[filterMap_cons,hf];exact mem_cons_self)
   obtain⟨sl,e⟩:=I.base.slot L o ho (I.ok.frf L hL) hL fun z=>I.ok.exfs L z hL
   exact⟨hk,⟨L,_,hf,hn,e,hd⟩,ih (fun b hb=>hs b (by unfold jU;rw[filterMap_cons,hf];exact mem_cons_of_mem _ hb)) hr⟩
 exact all X.outer (fun _ hb=>hb) I.ok.funs
theorem Inv.stack (I:Inv X pins σ H s):s.heap.FunFrames X.base X.stack:=by
 rcases I.ok.stk with e | ⟨e,hf⟩
 ·rw[e];exact I.funs
 ·rw[e]
  obtain⟨m,hn,_⟩:=I.loc
  refine .cons (by rw[I.ok.kind];decide) hf hn ?_ I.funs
  exact Heap.get?_none_of_le (Nat.le_trans I.ok.bsz I.ok.above)
theorem Inv.stkSub (I:Inv X pins σ H s):∀b∈jU X.stack,b∈X.env.locals :: X.fs:=fun b hb=>by
 rcases I.ok.stk with e | ⟨e,hf⟩
 ·rw[e] at hb;exact mem_cons_of_mem _ hb
 ·rw[e] at hb
  unfold jU at hb
  rw[filterMap_cons,hf] at hb
  exact hb
theorem Inv.stkFree (I:Inv X pins σ H s):∀b∈jU X.stack,H b=none:=fun b hb=>by
 rcases mem_cons.mp (I.stkSub b hb) with e |hb
 ·rw[e];exact I.free
 ·obtain⟨_,o,ho,_⟩:=I.ok.funs.mem hb
  exact I.base.free b o ho (I.ok.frf b hb) fun z=>I.ok.exfs b z hb
theorem Inv.step {g':Array GenState}{t':Nat}{d':Drawn}{ch:List Addr}(I:Inv X pins σ H s)
  (hch:∀b∈ch,(b∈X.ex\/X.s₀.heap.objs.size<=b)/\b≠X.env.locals/\(∀x c,X.env.cells.lookup x=some c->c≠b)/\∀p∈X.pn ++ pins,p.1≠b)
  (keep:∀b o,b≠X.env.locals->b∉X.fs->b∉ch->s.heap.get? b=some o->H b=none->h'.get? b=some o)
  (slot:∀b o,b≠X.env.locals->b∈X.fs->b∉ch->s.heap.get? b=some o->H b=none->∃sl,h'.get? b=some {o with slots:=sl}) (free:∀b o,b∉ch->s.heap.get? b=some o->H b=none->H' b=none)
  (there:∀b o,b∉ch->s.heap.get? b=some o->∃o',h'.get? b=some o')
  (tups:∀b xs,H b=some (.tup xs)->H' b=some (.tup xs)) (frzs:∀b o u,H b=some (.bp o u)->H' b=some (.bp o u)) (tbls:∀b ps,H b=some (.tbl ps)->∃more,H' b=some (.tbl (ps ++ more)))
  (ns:∀m,s.heap.Ns X.env.locals m->h'.Ns X.env.locals m) (hok:mR X.prog X.w H' h') (hg:AllBare g') :
  Inv X pins σ H' {s with heap:=h',gens:=g',drawn:=d',toks:=t'}:=by
 have neL:∀b o,X.s₀.heap.get? b=some o->b≠X.env.locals:=fun b o e=>Nat.ne_of_lt (Nat.lt_of_lt_of_le (Heap.lt_size e) I.ok.above)
 have neC:∀b o,X.s₀.heap.get? b=some o->b∉X.ex->b∉ch:=fun b o e hx hb=>by
  rcases (hch b hb).1 with z |z
  ·exact hx z
  ·exact absurd (Nat.lt_of_lt_of_le (Heap.lt_size e) z) (Nat.lt_irrefl _)
 have cellK:∀x c,X.env.cells.lookup x=some c->∀v,s.heap.IsCell c v->h'.IsCell c v:=fun x c e v ⟨o,ho,hd⟩=>by
  have nch:c∉ch:=fun z=>(hch c z).2.2.1 x c e rfl
  by_cases hc:c∈X.fs
  ·obtain⟨sl,q⟩:=slot c o (I.cne x c e) hc nch ho (I.freeC x c e)
   exact⟨_,q,hd⟩
  ·exact⟨o,keep c o (I.cne x c e) hc nch ho (I.freeC x c e),hd⟩
 refine⟨I.ok,I.os,hg,⟨fun b o e n hb hx=>?_,fun b o e n hb hx=>?_,fun b o e n hx=>?_,fun b o e hx=>?_,fun b xs e=>tups b xs (I.base.tups b xs e),fun b o xs e=>frzs b o xs (I.base.frzs b o xs e),fun b ps e=>?_⟩,?_,fun x c e=>?_,?_,fun x c e=>?_,fun p hp=>?_,hok,I.len⟩
 ·exact keep b o (neL b o e) hb (neC b o e hx) (I.base.keep b o e n hb hx) (I.base.free b o e n hx)
 ·obtain⟨sl,e1⟩:=I.base.slot b o e n hb hx
  obtain⟨sl',e2⟩:=slot b _ (neL b o e) hb (neC b o e hx) e1 (I.base.free b o e n hx)
  exact⟨sl',e2⟩
 ·obtain⟨o',e1⟩:=I.base.there b o e hx
  exact free b o' (neC b o e hx) e1 (I.base.free b o e n hx)
 ·obtain⟨o',e1⟩:=I.base.there b o e hx
  exact there b o' (neC b o e hx) e1
 ·obtain⟨m1,e1⟩:=I.base.tbls b ps e
  obtain⟨m2,e2⟩:=tbls b _ e1
  exact⟨m1 ++ m2,by rw[e2,Array.append_assoc]⟩
 ·obtain⟨m,hn,hl⟩:=I.loc
  refine⟨m,ns m hn,fun i x v e1 e2 e3=>?_⟩
  obtain⟨u,r,l⟩:=hl i x v e1 e2 e3
  refine⟨u,r,?_⟩
  rcases l with l | ⟨k,c,e,z⟩
  ·exact .inl l
  ·exact .inr ⟨k,c,e,cellK x c e _ z⟩
 ·obtain⟨v,z⟩:=I.cell x c e
  exact⟨v,cellK x c e v z⟩
 ·obtain⟨m,⟨o,_,_,ho,_⟩,_⟩:=I.loc
  exact free _ o (fun z=>(hch _ z).2.1 rfl) ho I.free
 ·obtain⟨v,o,ho,hd⟩:=I.cell x c e
  exact free c o (fun z=>(hch c z).2.2.1 x c e rfl) ho (I.freeC x c e)
 ·obtain⟨e,n,ne,nf,d⟩:=I.pin p hp
  have nch:p.1∉ch:=fun z=>(hch p.1 z).2.2.2 p hp rfl
  exact⟨keep p.1 p.2 ne nf nch e n,free p.1 p.2 nch e n,ne,nf,d⟩
theorem Inv.un {t':Nat}(I:Inv X pins σ H s)(u:Un X.fs [] H H' s.heap h')(hok:mR X.prog X.w H' h'):Inv X pins σ H' {s with heap:=h',toks:=t'}:=by
 obtain⟨m,⟨o,es,ep,ho,r⟩,_⟩:=id I.loc
 obtain⟨sl,hL⟩:=u.any ho I.free (by simp)
 exact I.step (g':=s.gens) (d':=s.drawn) (ch:=[]) (fun _ z=>nomatch z) (fun b o _ hb _ e n=>u.keep b o e n hb (by simp)) (fun b o _ hb _ e n=>u.slot b o e n hb (by simp)) (fun b o _ e n=>u.free b o e n (by simp)) (fun b o _ e=>u.there b o e (by simp)) u.tups u.frzs u.tbls (fun m' hm=>by
  obtain⟨o',es',ep',ho',r'⟩:=hm
  rw[ho] at ho';cases ho'
  exact⟨_,es',ep',hL,r'⟩) hok I.bare
theorem Inv.call {g':Array GenState}{t':Nat}{d':Drawn}{ch:List Addr}(I:Inv X pins σ H s)(u:Un (jU X.stack) ch H H' s.heap h')(hok:mR X.prog X.w H' h')(hg:AllBare g')
  (hch:∀b∈ch,(b∈X.ex\/X.s₀.heap.objs.size<=b)/\b≠X.env.locals/\(∀x c,X.env.cells.lookup x=some c->c≠b)/\∀p∈X.pn ++ pins,p.1≠b) :
  Inv X pins σ H' {s with heap:=h',gens:=g',drawn:=d',toks:=t'}:=by
 obtain⟨m,⟨o,es,ep,ho,r⟩,_⟩:=id I.loc
 obtain⟨sl,hL⟩:=u.any ho I.free fun z=>(hch _ z).2.1 rfl
 exact I.step (ch:=ch) hch (fun b o hL hb hc e n=>u.keep b o e n (fun z=>(mem_cons.mp (I.stkSub b z)).elim hL hb) hc) (fun b o _ _ hc e n=>u.any e n hc) (fun b o hc e n=>u.free b o e n hc) (fun b o hc e=>u.there b o e hc) u.tups u.frzs u.tbls (fun m' hm=>by
  obtain⟨o',es',ep',ho',r'⟩:=hm
  rw[ho] at ho';cases ho'
  exact⟨_,es',ep',hL,r'⟩) hok hg
theorem Inv.turned {t':Nat}{it:Addr}(I:Inv X pins σ H s)(k:∀b o,b≠it->s.heap.get? b=some o->h'.get? b=some o)(hn:H it=none)(hL:it≠X.env.locals)
  (h1:it∈X.ex\/X.s₀.heap.objs.size<=it) (h2:∀x c,X.env.cells.lookup x=some c->c≠it) (h3:∀p∈X.pn ++ pins,p.1≠it):Inv X pins σ H {s with heap:=h',toks:=t'}:=by
 have nit:∀b u,H b=some u->b≠it:=fun b u e z=>by rw[z,hn] at e;cases e
 refine I.step (g':=s.gens) (d':=s.drawn) (ch:=[it]) (fun b hb=>?_) (fun b o _ _ hc e _=>k b o (fun z=>hc (by simp[z])) e) (fun b o _ _ hc e _=>⟨o.slots,k b o (fun z=>hc (by simp[z])) e⟩) (fun _ _ _ _ n=>n)
  (fun b o hc e=>⟨o,k b o (fun z=>hc (by simp[z])) e⟩) (fun _ _ e=>e) (fun _ _ _ e=>e) (fun b ps e=>⟨#[],by rw[e];simp⟩) (fun m hm=>?_) (fun b u e=>?_) I.bare
 ·have e:b=it:=by simpa using hb
  subst e
  exact⟨h1,hL,h2,h3⟩
 ·obtain⟨o,es,ep,ho,r⟩:=hm
  exact⟨o,es,ep,k _ o (Ne.symm hL) ho,r⟩
 ·refine (I.hok b u e).stay (fun c v hc q=>k c v ?_ q) (fun _ q=>q) fun _ _ q=>q
  rcases hc with z |z
  ·rw[z];exact nit b u e
  ·exact nit c _ z
theorem Inv.tok (I:Inv X pins σ H s)(t:Nat):Inv X pins σ H {s with toks:=t}:=I.un (h':=s.heap) (t':=t) Un.refl I.hok
theorem Inv.kept {t':Nat}(I:Inv X pins σ H s)(k:∀b u,s.heap.get? b=some u->h'.get? b=some u):Inv X pins σ H {s with heap:=h',toks:=t'}:=I.un (Un.kept k) (I.hok.kept k)
theorem Inv.laid {a:Addr}{o:HO}{t':Nat}(I:Inv X pins σ H s)(k:∀b u,s.heap.get? b=some u->h'.get? b=some u)(hp:s.heap.objs.size<=a)(new:cL X.prog X.w (upd H a o) h' a o) :
  Inv X pins σ (upd H a o) {s with heap:=h',toks:=t'}:=I.un (Un.laid k hp (I.hok.fresh hp)) (I.hok.laid k hp new)
theorem Inv.write {x e:Addr}{o:HO}{t':Nat}(I:Inv X pins σ H s)(mu:Jb (H x))(he:e=x\/H e=some (.own x))(k:∀b u,b≠e->s.heap.get? b=some u->h'.get? b=some u)(heo:∃u,h'.get? e=some u)
  (new:cL X.prog X.w (upd H x o) h' x o):Inv X pins σ (upd H x o) {s with heap:=h',toks:=t'}:=I.un (Un.write mu he k heo) (I.hok.write mu he k heo new)
theorem Inv.pins_of {pins':List (Addr×Obj)}(I:Inv X pins σ H s)(h:∀p∈pins',s.heap.get? p.1=some p.2/\H p.1=none/\p.1≠X.env.locals/\p.1∉X.fs/\∀v,p.2.data≠.cell v):Inv X pins' σ H s:=
 ⟨I.ok,I.os,I.bare,I.base,I.loc,I.cell,I.free,I.freeC,fun p hp=>(mem_append.mp hp).elim (fun z=>I.pin p (mem_append_left _ z)) (h p),I.hok,I.len⟩
theorem wy {N:List Str}(hN:N.Nodup){i j:Nat}{x:Str}(a:N[i]? =some x)(b:N[j]? =some x):i=j:=by
 obtain⟨h1,e1⟩:=List.getElem?_eq_some_iff.mp a
 obtain⟨h2,e2⟩:=List.getElem?_eq_some_iff.mp b
 exact (List.getElem_inj hN).mp (e1.trans e2.symm)
theorem sD {M:Model}{A:Around}{E:Value->Shared->Prop}{i:Nat}{x:Str}{v:V}{u:Value}{Q:Unit->Shared->Prop}(I:Inv X pins σ H s)(hN:X.N.Nodup)(hi:X.N[i]? =some x)(hx:Loc X.env.scope x)(r:RelV v u)
  (h:∀s',Inv X pins (σ.set i (some v)) H s'->(∃a,Heap.SameBut a s.heap s'.heap/\(a=X.env.locals\/X.env.cells.lookup x=some a))->Q () s') (hf:X.fn x=true\/X.env.scope.names.lookup x=some .local:=by first |exact .inl rfl |exact .inr rfl |assumption):wpAny M A (storeName X.env x u) Q E s:=by
 obtain⟨m,hn,hl⟩:=id I.loc
 have hcls:(X.env.scope.kind == .class || (X.env.scope.kind == .module && X.env.locals != X.env.globals))=false:=by rw[I.ok.kind];rfl
 have hiσ:i < σ.length:=by rw[I.len];exact (List.getElem?_eq_some_iff.mp hi).1
 have cne:=I.cne
 have tracked:∀{a:Addr} {h':Heap},(∃o,s.heap.get? a=some o/\H a=none)->Heap.SameBut a s.heap h'->mR X.prog X.w H h':=fun {a h'} ha hs b ob e=>by
  obtain⟨_,_,hfree⟩:=ha
  refine (I.hok b ob e).stay (fun c w' hc q=>(hs.2 c ?_).trans q) (fun _ q=>q) fun _ _ q=>q
  rintro rfl
  rcases hc with rfl |hc
  ·rw[hfree] at e;cases e
  ·rw[hfree] at hc;cases hc
 rcases hx with hk |hk
 ·refine wpAny_storeName_local hk hn (fun h' hn' hs=>?_) hcls
  obtain⟨oL,_,_,hoL,_⟩:=id hn
  refine h _ ⟨I.ok,I.os,I.bare,⟨fun b o e n hb hx=>?_,fun b o e n hb hx=>?_,I.base.free,fun b o e hx=>?_,I.base.tups,I.base.frzs,I.base.tbls⟩,⟨_,hn',fun j y v' e1 e2 e3=>?_⟩,fun y c e=>?_,I.free,I.freeC,fun p hp=>?_,tracked ⟨oL,hoL,I.free⟩ hs,by simpa using I.len⟩ ⟨_,hs,.inl rfl⟩
  ·exact (hs.2 b (Nat.ne_of_lt (Nat.lt_of_lt_of_le (Heap.lt_size e) I.ok.above))).trans (I.base.keep b o e n hb hx)
  ·obtain⟨sl,e1⟩:=I.base.slot b o e n hb hx
   exact⟨sl,(hs.2 b (Nat.ne_of_lt (Nat.lt_of_lt_of_le (Heap.lt_size e) I.ok.above))).trans e1⟩
  ·obtain⟨o',e1⟩:=I.base.there b o e hx
   exact⟨o',(hs.2 b (Nat.ne_of_lt (Nat.lt_of_lt_of_le (Heap.lt_size e) I.ok.above))).trans e1⟩
  ·by_cases hj:j=i
   ·subst hj
    rw[hi] at e1;cases e1
    rw[getElem?_set_self hiσ] at e2
    cases e2
    exact⟨u,r,.inl ⟨hk,by simp⟩⟩
   ·rw[getElem?_set_ne (Ne.symm hj)] at e2
    obtain⟨u',r',q⟩:=hl j y v' e1 e2 e3
    refine⟨u',r',?_⟩
    rcases q with⟨k,e⟩ | ⟨k,c,e,z⟩
    ·refine .inl ⟨k,?_⟩
     have:y≠x:=fun e=>hj (wy hN e1 (e▸hi))
     simp[this,e]
    ·exact .inr ⟨k,c,e,z.sameBut hs (cne y c e)⟩
  ·obtain⟨w',z⟩:=I.cell y c e
   exact⟨w',z.sameBut hs (cne y c e)⟩
  ·obtain⟨e,n,ne,nf,d⟩:=I.pin p hp
   exact⟨(hs.2 p.1 ne).trans e,n,ne,nf,d⟩
 ·have hfn:X.fn x=true:=by
   rcases hf with z |z
   ·exact z
   ·rw[z] at hk;cases hk
  obtain⟨c,hc⟩:=I.ok.has x (.inl hk)
  obtain⟨w',z⟩:=I.cell x c hc
  refine wpAny_storeName_cell I.ok.kind hk hc z (fun h' hc' hs=>?_)
  obtain⟨oc,hoc,hocd⟩:=id z
  refine h {s with heap:=h'} ⟨I.ok,I.os,I.bare,⟨fun b o e n hb hx=>?_,fun b o e n hb hx=>?_,I.base.free,fun b o e hx=>?_,I.base.tups,I.base.frzs,I.base.tbls⟩,⟨m,hn.sameBut hs (Ne.symm (cne x c hc)),fun j y v' e1 e2 e3=>?_⟩,fun y c' e=>?_,I.free,I.freeC,fun p hp=>?_,tracked ⟨oc,hoc,I.freeC x c hc⟩ hs,by simpa using I.len⟩ ⟨c,hs,.inr hc⟩
  ·exact (hs.2 b (Nat.ne_of_lt (Nat.lt_of_lt_of_le (Heap.lt_size e) (I.ok.cab x c hfn hc)))).trans (I.base.keep b o e n hb hx)
  ·obtain⟨sl,e1⟩:=I.base.slot b o e n hb hx
   exact⟨sl,(hs.2 b (Nat.ne_of_lt (Nat.lt_of_lt_of_le (Heap.lt_size e) (I.ok.cab x c hfn hc)))).trans e1⟩
  ·obtain⟨o',e1⟩:=I.base.there b o e hx
   exact⟨o',(hs.2 b (Nat.ne_of_lt (Nat.lt_of_lt_of_le (Heap.lt_size e) (I.ok.cab x c hfn hc)))).trans e1⟩
  ·by_cases hj:j=i
   ·subst hj
    rw[hi] at e1;cases e1
    rw[getElem?_set_self hiσ] at e2
    cases e2
    exact⟨u,r,.inr ⟨.inl hk,c,hc,hc'⟩⟩
   ·rw[getElem?_set_ne (Ne.symm hj)] at e2
    obtain⟨u',r',q⟩:=hl j y v' e1 e2 e3
    refine⟨u',r',?_⟩
    rcases q with q | ⟨k,c',e,z'⟩
    ·exact .inl q
    ·refine .inr ⟨k,c',e,z'.sameBut hs ?_⟩
     rintro rfl
     exact hj (wy hN e1 (I.ok.inj _ _ _ e hc▸hi))
  ·by_cases hcc:c'=c
   ·subst hcc;exact⟨_,hc'⟩
   ·obtain⟨w2,z2⟩:=I.cell y c' e
    exact⟨w2,z2.sameBut hs hcc⟩
  ·obtain⟨e,n,ne,nf,d⟩:=I.pin p hp
   refine⟨(hs.2 p.1 ?_).trans e,n,ne,nf,d⟩
   intro q
   rw[q,hoc] at e
   have q':oc=p.2:=Option.some.inj e
   exact d w' (by rw[<-q'];exact hocd)
theorem uN {M:Model}{A:Around}{E:Value->Shared->Prop}{i:Nat}{x:Str}{v:V}{u:Value}{Q:Unit->Shared->Prop}(I:Inv X pins σ H s)(hN:X.N.Nodup)(hi:X.N[i]? =some x)(hx:Loc X.env.scope x)(r:RelV v u)
  (h:∀s',Inv X pins (σ.set i (some v)) H s'->Q () s') (hf:X.fn x=true\/X.env.scope.names.lookup x=some .local:=by first |exact .inl rfl |exact .inr rfl |assumption):wpAny M A (storeName X.env x u) Q E s:=
 sD I hN hi hx r (fun s' I' _=>h s' I') hf
theorem Inv.call' {s':Shared}{ch:List Addr}(I:Inv X pins σ H s)(ho:s'.os=s.os)(u:Un (jU X.stack) ch H H' s.heap s'.heap)(hok:mR X.prog X.w H' s'.heap)(hg:AllBare s'.gens)
  (hch:∀b∈ch,(b∈X.ex\/X.s₀.heap.objs.size<=b)/\b≠X.env.locals/\(∀x c,X.env.cells.lookup x=some c->c≠b)/\∀p∈X.pn ++ pins,p.1≠b):Inv X pins σ H' s':=by
 obtain⟨h',g',d',t',o'⟩:=s'
 have e:o'=s.os:=ho
 subst e
 exact I.call (g':=g') (t':=t') (d':=d') u hok hg hch
end
abbrev XK:=Value->Option Addr->Hp->Prop
abbrev St:=List (Option V)
abbrev VK:=V->Hp->Prop
abbrev TE:=St->Hp->VK->Prop
abbrev TT:=St->Hp->(Bool->Hp->Prop)->Prop
abbrev TA:=St->Hp->(List V->Hp->Prop)->Prop
structure Ends where
 nx:St->Hp->Prop
 rt:VK
 bk:St->Hp->Prop:=fun _ _=>False
 ct:St->Hp->Prop:=fun _ _=>False
abbrev TS:=Ends->St->Hp->Prop
def EP (X:Cx)(pins:List (Addr×Obj))(σ:St)(Q:VK)(u:Value)(s':Shared):Prop:=∃v H',Inv X pins σ H' s'/\RelV v u/\Q v H'
def TP (X:Cx)(pins:List (Addr×Obj))(σ:St)(Q:Bool->Hp->Prop)(b:Bool)(s':Shared):Prop:=∃H',Inv X pins σ H' s'/\Q b H'
def AP (X:Cx)(pins:List (Addr×Obj))(σ:St)(Q:List V->Hp->Prop)(us:List Value)(s':Shared):Prop:=∃vs H',Inv X pins σ H' s'/\Vals vs us/\Q vs H'
def SP (X:Cx)(pins:List (Addr×Obj))(D:Ends)(f:Flow)(s':Shared):Prop:=
 match f with
 | .next=>∃σ' H',Inv X pins σ' H' s'/\D.nx σ' H'
 | .brk=>∃σ' H',Inv X pins σ' H' s'/\D.bk σ' H'
 | .cont=>∃σ' H',Inv X pins σ' H' s'/\D.ct σ' H'
 | .ret u=>∃v σ' H',Inv X pins σ' H' s'/\RelV v u/\D.rt v H'
def PE (X:Cx)(e:Expr)(t:TE):Prop:=
 ∀(pins:List (Addr×Obj)) (s:Shared) (σ:St) (H:Hp) (Q:VK),Inv X pins σ H s->t σ H Q->wpAny (model X.prog X.w) X.A (eval e X.env) (EP X pins σ Q) X.xe s
def PT (X:Cx)(e:Expr)(t:TT):Prop:=
 ∀(pins:List (Addr×Obj)) (s:Shared) (σ:St) (H:Hp) (Q:Bool->Hp->Prop),Inv X pins σ H s->t σ H Q->wpAny (model X.prog X.w) X.A (isTrue e X.env (eval e X.env)) (TP X pins σ Q) X.xe s
def PW (X:Cx)(e:Expr)(t:TT):Prop:=
 ∀(whole:Sem Value) (pins:List (Addr×Obj)) (s:Shared) (σ:St) (H:Hp) (Q:Bool->Hp->Prop),Inv X pins σ H s->t σ H Q->wpAny (model X.prog X.w) X.A (isTrue e X.env whole) (TP X pins σ Q) X.xe s
theorem PW.pt {X:Cx}{e:Expr}{t:TT}(h:PW X e t):PT X e t:=h _
def PA (X:Cx)(es:List Expr)(t:TA):Prop:=
 ∀(pos:Pos) (pins:List (Addr×Obj)) (s:Shared) (σ:St) (H:Hp) (Q:List V->Hp->Prop),Inv X pins σ H s->t σ H Q->wpAny (model X.prog X.w) X.A (spliced (backTo pos (starEach es X.env))) (AP X pins σ Q) X.xe s
def PS (X:Cx)(st:Stmt)(t:TS):Prop:=
 ∀(pins:List (Addr×Obj)) (s:Shared) (σ:St) (H:Hp) (D:Ends),Inv X pins σ H s->t D σ H->wpAny (model X.prog X.w) X.A (exec st X.env) (SP X pins D) X.xe s
def sf (X:Cx)(st:List Stmt)(t:TS):Prop:=
 ∀(pins:List (Addr×Obj)) (s:Shared) (σ:St) (H:Hp) (D:Ends),Inv X pins σ H s->t D σ H->wpAny (model X.prog X.w) X.A (execs st X.env) (SP X pins D) X.xe s
theorem cS {α:Type}{t:Sem α}{Q Q':α->Shared->Prop}{M:Model}{A:Around}{E:Value->Shared->Prop}{s:Shared}(h:wpAny M A t Q E s)(hQ:∀a s,Q a s->Q' a s):wpAny M A t Q' E s:=wpAny_mono h hQ fun _ _ x=>x
section
variable {X:Cx}
theorem bin {a b:Expr}{ta tb:TE}(ha:PE X a ta)(hb:PE X b tb){pins:List (Addr×Obj)}{s:Shared}{σ:St}{H:Hp}{R:V->V->Hp->Prop}(I:Inv X pins σ H s)(h:ta σ H fun x H1=>tb σ H1 fun y H2=>R x y H2)
  {α:Type} {Q:α->Shared->Prop} {f:Value->Value->Sem α}
  (hf:∀v u s2 x y H2,Inv X pins σ H2 s2->RelV x v->RelV y u->R x y H2->wpAny (model X.prog X.w) X.A (f v u) Q X.xe s2) :
  wpAny (model X.prog X.w) X.A (eval a X.env) (fun v s₁=>wpAny (model X.prog X.w) X.A (eval b X.env) (fun u s₂=>wpAny (model X.prog X.w) X.A (f v u) Q X.xe s₂) X.xe s₁) X.xe s:=by
 refine cS (ha pins s σ H _ I h) fun v s1 ⟨x,H1,I1,r1,q1⟩=>?_
 refine cS (hb pins s1 σ H1 _ I1 q1) fun u s2 ⟨y,H2,I2,r2,q2⟩=>?_
 exact hf v u s2 x y H2 I2 r1 r2 q2
def DH (i:Nat):TE:=fun σ H Q=>∃v,σ[i]? =some (some v)/\Q v H
def tC (v:V):TE:=fun _ H Q=>Q v H
theorem jJ {i:Nat}{x:Str}{pos:Pos}(hN:X.N[i]? =some x)(hv:zI X.env.scope x)(hd:(x == ("__debug__":Str))=false:=by decide)(hcd:(x == ("__classdict__":Str))=false:=by decide):PE X (.Name x pos) (DH i):=by
 intro pins s σ H Q I h
 obtain⟨v,e,h⟩:=h
 obtain⟨m,hn,hl⟩:=I.loc
 obtain⟨u,r,l⟩:=hl i x v hN e hv
 have fin:EP X pins σ Q u s:=⟨v,H,I,r,h⟩
 rcases l with⟨hk,hm⟩ | ⟨hk,c,hc,hcell⟩
 ·exact wpAny_Name (wpAny_loadName_local I.ok.kind hk hn hm fin) hd
 ·rcases hk with hk |hk
  ·exact wpAny_Name (wpAny_loadName_cell I.ok.kind hk hc hcell fin) hd
  ·exact wpAny_Name (wpAny_loadName_free I.ok.kind hk hc hcell fin hcd) hd
theorem xu {i j pos}:PE X (.Constant (.int i) j pos) (tC (.int i)):=fun _ _ _ H _ I h=>wpAny_Constant_int ⟨.int i,H,I.tok _,⟨_,rfl⟩,h⟩
theorem yL {b j pos}:PE X (.Constant (.bool b) j pos) (tC (.bl b)):=fun _ _ _ H _ I h=>Constant_bool ⟨.bl b,H,I,rfl,h⟩
theorem GG {x j pos}:PE X (.Constant (.str x) j pos) (tC (.str x)):=fun _ _ _ H _ I h=>Calls.Constant_str ⟨.str x,H,I.tok _,⟨_,rfl⟩,h⟩
def Gl (X:Cx)(x:Str):Prop:=X.env.kindOf x=some .globalImplicit
theorem ua {E:Value->Shared->Prop}{pins:List (Addr×Obj)}{s:Shared}{σ:St}{H:Hp}{x:Str}{u:Value}{pos:Pos}{Q:Value->Shared->Prop}(I:Inv X pins σ H s)(hg:Gl X x)(hm:X.mg x=some u)(h:Q u s)
  (hd:(x == ("__debug__":Str))=false:=by decide):wpAny (model X.prog X.w) X.A (eval (.Name x pos) X.env) Q E s:=
 Calls.Name_function_global I.ok.kind hg (Calls.loadGlobal_global (by rw[I.ok.glob];exact I.mod.glob.keeps I.bk) hm h) hd
theorem n6 {E:Value->Shared->Prop}{pins:List (Addr×Obj)}{s:Shared}{σ:St}{H:Hp}{x:Str}{u:Value}{pos:Pos}{Q:Value->Shared->Prop}(I:Inv X pins σ H s)(hg:Gl X x)(hm:X.mg x=none)(hv:bootBuiltins x=some u)(h:Q u s)
  (hn:x≠"__name__":=by decide) (hd:(x == ("__debug__":Str))=false:=by decide):wpAny (model X.prog X.w) X.A (eval (.Name x pos) X.env) Q E s:=by
 obtain⟨mb,h1,h2⟩:=I.mod.blt
 exact Calls.Name_function_global I.ok.kind hg (Calls.loadGlobal_builtin (by rw[I.ok.glob];exact I.mod.glob.keeps I.bk) hm (by rw[I.ok.blt];exact h1.keeps I.bk) ((h2 x hn).trans hv) h) hd
theorem C8 {x:Str}{v:V}{u:Value}{pos:Pos}(hg:Gl X x)(hm:X.mg x=some u)(r:RelV v u)(hd:(x == ("__debug__":Str))=false:=by decide):PE X (.Name x pos) (tC v):=
 fun _ _ _ H _ I h=>ua I hg hm ⟨v,H,I,r,h⟩ hd
theorem DP {x:Str}{v:V}{u:Value}{pos:Pos}(hg:Gl X x)(hm:X.mg x=none)(hv:bootBuiltins x=some u)(r:RelV v u)(hn:x≠"__name__":=by decide)(hd:(x == ("__debug__":Str))=false:=by decide):PE X (.Name x pos) (tC v):=
 fun _ _ _ H _ I h=>n6 I hg hm hv ⟨v,H,I,r,h⟩ hn hd
variable {a b:Expr}{ta tb:TE}{pos:Pos}
def PC (X:Cx)(op:CmpOp)(a b:Expr)(t:TE):Prop:=
 ∀(pins:List (Addr×Obj)) (s:Shared) (σ:St) (H:Hp) (Q:VK),Inv X pins σ H s->t σ H Q->
  wpAny (model X.prog X.w) X.A (eval a X.env) (fun v s₁=>wpAny (model X.prog X.w) X.A (eval b X.env) (fun u s₂=>wpAny (model X.prog X.w) X.A (compareOp op v u) (EP X pins σ Q) X.xe s₂) X.xe s₁) X.xe s
theorem Av (b:Expr){op:CmpOp}(h:op≠.In)(h2:op≠.NotIn):behindInMarks op b=false:=by
 have e1:(op == CmpOp.In)=false:=by cases op <;> first |rfl |exact absurd rfl h
 have e2:(op == CmpOp.NotIn)=false:=by cases op <;> first |rfl |exact absurd rfl h2
 cases b <;> simp[behindInMarks,e1,e2]
def tB (t:TE):TT:=fun σ H Q=>t σ H fun x H1=>∃c,x=.bl c/\Q c H1
theorem JC {op:CmpOp}{t:TE}(h:PC X op a b t)(h1:behindInMarks op b=false:=by first |exact Av _ (by decide) (by decide) |rfl):PT X (.Compare a [op] [b] pos) (tB t):=by
 intro pins s σ H Q I hw
 refine wpAny_isTrue_Compare1 (cS (h pins s σ H _ I hw) fun v s1 h1=>cS h1 fun u s2 h2=>cS h2 fun c s3 ⟨x,H1,I1,r1,q1⟩=>?_) h1
 obtain⟨d,rfl,q⟩:=q1
 cases r1
 exact wpAny_truthy_bool ⟨H1,I1,q⟩
theorem wG {e:Expr}{t:TE}(h:PE X e t)(he:∀whole,isTrue e X.env whole=(do let v <-whole;standAt e.pos;holding [v] (truthy v)):=by intro _;rfl):PT X e (tB t):=by
 intro pins s σ H Q I hw
 refine isTrue_plain (cS (h pins s σ H _ I hw) fun v s1 ⟨x,H1,I1,r1,q1⟩=>?_) (he _)
 obtain⟨d,rfl,q⟩:=q1
 cases r1
 exact wpAny_truthy_bool ⟨H1,I1,q⟩
variable {tA tB':TT}{rest:List Expr}
def JO (t u:TT):TT:=fun σ H Q=>t σ H fun c H1=>if c=true then u σ H1 Q else Q false H1
def Ky (t u:TT):TT:=fun σ H Q=>t σ H fun c H1=>if c=true then Q true H1 else u σ H1 Q
def Jv (t:TT):TT:=fun σ H Q=>t σ H fun c H1=>Q (!c) H1
theorem y0 (ha:PT X a tA):PW X (.BoolOp .And [a] pos) tA:=by
 intro wh pins s σ H Q I h
 refine isTrue_and (cS (ha pins s σ H Q I h) fun c s1 e=>?_)
 cases c with
 |true=>exact isTrue_and_nil e
 |false=>exact e
theorem GC (ha:PT X a tA):PW X (.BoolOp .Or [a] pos) tA:=by
 intro wh pins s σ H Q I h
 refine isTrue_or (cS (ha pins s σ H Q I h) fun c s1 e=>?_)
 cases c with
 |false=>exact isTrue_or_nil e
 |true=>exact e
theorem BS (ha:PT X a tA)(hb:PW X (.BoolOp .And (b :: rest) pos) tB'):PW X (.BoolOp .And (a :: b :: rest) pos) (JO tA tB'):=by
 intro wh pins s σ H Q I h
 refine isTrue_and (cS (ha pins s σ H _ I h) fun c s1 ⟨H1,I1,q1⟩=>?_)
 cases c with
 |true=>exact hb wh pins s1 σ H1 Q I1 q1
 |false=>exact⟨H1,I1,q1⟩
theorem HB (ha:PT X a tA)(hb:PW X (.BoolOp .Or (b :: rest) pos) tB'):PW X (.BoolOp .Or (a :: b :: rest) pos) (Ky tA tB'):=by
 intro wh pins s σ H Q I h
 refine isTrue_or (cS (ha pins s σ H _ I h) fun c s1 ⟨H1,I1,q1⟩=>?_)
 cases c with
 |true=>exact⟨H1,I1,q1⟩
 |false=>exact hb wh pins s1 σ H1 Q I1 q1
theorem GB (ha:PT X a tA):PT X (.UnaryOp .Not a pos) (Jv tA):=by
 intro pins s σ H Q I h
 exact isTrue_not (ha pins s σ H (fun c H1=>Q (!c) H1) I h)
def Hv (ta tb:TE):TE:=fun σ H Q=>ta σ H fun x H1=>∃c,x=.bl c/\if c=true then tb σ H1 Q else Q (.bl false) H1
def Jg (ta tb:TE):TE:=fun σ H Q=>ta σ H fun x H1=>∃c,x=.bl c/\if c=true then Q (.bl true) H1 else tb σ H1 Q
def He (ta:TE):TE:=fun σ H Q=>ta σ H fun x H1=>∃c,x=.bl c/\Q (.bl (!c)) H1
theorem Gu {op}{t:TE}(h:PE X a t):PE X (.BoolOp op [a] pos) t:=fun pins s σ H Q I hw=>BoolOp_one (h pins s σ H Q I hw)
theorem Fl (ha:PE X a ta)(hb:PE X (.BoolOp .And (b :: rest) pos) tb):PE X (.BoolOp .And (a :: b :: rest) pos) (Hv ta tb):=by
 intro pins s σ H Q I h
 refine BoolOp_and (cS (ha pins s σ H _ I h) fun v s1 ⟨x,H1,I1,r1,q1⟩=>?_)
 obtain⟨c,rfl,q1⟩:=q1
 cases r1
 refine wpAny_truthy_bool ?_
 cases c with
 |true=>exact hb pins s1 σ H1 Q I1 q1
 |false=>exact⟨.bl false,H1,I1,rfl,q1⟩
theorem HG (ha:PE X a ta)(hb:PE X (.BoolOp .Or (b :: rest) pos) tb):PE X (.BoolOp .Or (a :: b :: rest) pos) (Jg ta tb):=by
 intro pins s σ H Q I h
 refine BoolOp_or (cS (ha pins s σ H _ I h) fun v s1 ⟨x,H1,I1,r1,q1⟩=>?_)
 obtain⟨c,rfl,q1⟩:=q1
 cases r1
 refine wpAny_truthy_bool ?_
 cases c with
 |false=>exact hb pins s1 σ H1 Q I1 q1
 |true=>exact⟨.bl true,H1,I1,rfl,q1⟩
theorem Gg (ha:PE X a ta):PE X (.UnaryOp .Not a pos) (He ta):=by
 intro pins s σ H Q I h
 refine UnaryOp_ (cS (ha pins s σ H _ I h) fun v s1 ⟨x,H1,I1,r1,q1⟩=>?_)
 obtain⟨c,rfl,q1⟩:=q1
 cases r1
 exact not_of (wpAny_truthy_bool ⟨.bl (!c),H1,I1,rfl,q1⟩)
def KD (t:TT)(ta tb:TE):TE:=fun σ H Q=>t σ H fun c H1=>if c=true then ta σ H1 Q else tb σ H1 Q
theorem Bq {c:Expr}(hc:PT X c tA)(ha:PE X a ta)(hb:PE X b tb):PE X (.IfExp c a b pos) (KD tA ta tb):=by
 intro pins s σ H Q I h
 refine wpAny_IfExp (cS (hc pins s σ H _ I h) fun d s1 ⟨H1,I1,q1⟩=>?_)
 cases d with
 |true=>exact ha pins s1 σ H1 Q I1 q1
 |false=>exact hb pins s1 σ H1 Q I1 q1
end
def hX (K:Frag)(H:Hp)(a:Addr)(xs:List V):Prop:=
 Rd H a (.lst xs)\/
  ∃(o:Obj) (its:Array Value) (n:Nat),K.lookup a=some o/\o.cls=.type "list"/\o.dict=none/\o.data=.seq its n/\its.size<=sizeLine/\Vals xs its.toList
def gJ (K:Frag)(H:Hp)(a:Addr)(xs:List V):Prop:=
 Rd H a (.tup xs)\/
  ∃(o:Obj) (its:Array Value) (n:Nat),K.lookup a=some o/\o.cls=.type "tuple"/\o.data=.seq its n/\its.size<=sizeLine/\Vals xs its.toList/\o.dict=none
def Kd:Value->Option V
 | .none=>some .non
 | .bool b=>some (.bl b)
 | .int i _=>some (.int i)
 | .str x _=>some (.str x)
 | .bytes b _=>some (.byt b)
 | .float b _=>some (.flt b)
 | .ref a=>some (.ref a)
 | .type n=>some (.ty n)
 |_=>none
theorem RelV.abs {x:V}{u:Value}(r:RelV x u):Kd u=some x:=by
 cases x with
 |non=>cases r;rfl
 |bl _=>cases r;rfl
 |int _=>obtain⟨t,rfl⟩:=r;rfl
 |str _=>obtain⟨t,rfl⟩:=r;rfl
 |byt _=>obtain⟨t,rfl⟩:=r;rfl
 |flt _=>obtain⟨t,rfl⟩:=r;rfl
 |ref _=>cases r;rfl
 |ty _=>cases r;rfl
theorem RelV.inj {x y:V}{u:Value}(r:RelV x u)(q:RelV y u):x=y:=Option.some.inj (r.abs.symm.trans q.abs)
theorem Vals.inj:∀{xs ys:List V} {us:List Value},Vals xs us->Vals ys us->xs=ys
 |_,_,_,.nil,.nil=>rfl
 |_,_,_,.cons r t,.cons r' t'=>by rw[r.inj r',Vals.inj t t']
section
variable {X:Cx}{pins:List (Addr×Obj)}{σ:St}{H:Hp}{s:Shared}{a:Addr}{xs ys:List V}
theorem Inv.list (I:Inv X pins σ H s)(h:hX X.K H a xs):∃its:List Value,Vals xs its/\PlainL s.heap a its.toArray/\xs.length<=sizeLine:=by
 rcases h with h | ⟨o,its,n,hk,hc,hd,hs,hz,r⟩
 ·obtain⟨z,its,n,r,e⟩:=h.ok I.hok
  exact⟨its,r,⟨_,n,e,rfl,rfl,rfl⟩,z⟩
 ·refine⟨its.toList,r,⟨o,n,I.kIn a o hk,hc,hd,by simpa using hs⟩,?_⟩
  have e:=r.length
  simp only[Array.length_toList] at e
  omega
theorem Inv.tuple (I:Inv X pins σ H s)(h:gJ X.K H a xs):∃its:List Value,Vals xs its/\IsTup s.heap a its.toArray/\xs.length<=sizeLine:=by
 rcases h with h | ⟨o,its,n,hk,hc,hs,hz,r,_⟩
 ·obtain⟨z,its,r,p⟩:=h.ok I.hok
  exact⟨its,r,p.isTup,z⟩
 ·refine⟨its.toList,r,⟨o,I.kIn a o hk,hc,n,by simpa using hs⟩,?_⟩
  have e:=r.length
  simp only[Array.length_toList] at e
  omega
theorem Inv.list_inj (I:Inv X pins σ H s)(h:hX X.K H a xs)(h':hX X.K H a ys):xs=ys:=by
 obtain⟨its,r,⟨o,n,e,_,_,d⟩,_⟩:=I.list h
 obtain⟨its',r',⟨o',n',e',_,_,d'⟩,_⟩:=I.list h'
 rw[e] at e';cases e'
 rw[d] at d'
 injection d' with d1 _
 have:its=its':=by simpa using congrArg Array.toList d1
 subst this
 exact r.inj r'
theorem Inv.tuple_inj (I:Inv X pins σ H s)(h:gJ X.K H a xs)(h':gJ X.K H a ys):xs=ys:=by
 obtain⟨its,r,⟨o,e,_,n,d⟩,_⟩:=I.tuple h
 obtain⟨its',r',⟨o',e',_,n',d'⟩,_⟩:=I.tuple h'
 rw[e] at e';cases e'
 rw[d] at d'
 injection d' with d1 _
 have:its=its':=by simpa using congrArg Array.toList d1
 subst this
 exact r.inj r'
end
abbrev Cx.wish (X:Cx)(E:Value->Shared->Prop):Cx:={X with xe:=E}
abbrev Cx.nox (X:Cx):Cx:=X.wish fun _ _=>False
theorem Cx.Ok.wish {X:Cx}(ok:X.Ok)(E:Value->Shared->Prop):(X.wish E).Ok:=
 ⟨ok.mod,ok.kind,ok.glob,ok.blt,ok.above,ok.inj,ok.has,ok.cab,ok.hd,ok.frames,ok.stk,ok.exf,ok.bs,ok.bsz,ok.noex,ok.exfs,ok.funs,ok.frf⟩
theorem Cx.Ok.unwish {X:Cx}{E:Value->Shared->Prop}(ok:(X.wish E).Ok):X.Ok:=
 ⟨ok.mod,ok.kind,ok.glob,ok.blt,ok.above,ok.inj,ok.has,ok.cab,ok.hd,ok.frames,ok.stk,ok.exf,ok.bs,ok.bsz,ok.noex,ok.exfs,ok.funs,ok.frf⟩
section
variable {X:Cx}{pins:List (Addr×Obj)}{σ:St}{H:Hp}{s:Shared}{E:Value->Shared->Prop}
theorem Inv.wish (I:Inv X pins σ H s)(E:Value->Shared->Prop):Inv (X.wish E) pins σ H s:=⟨I.ok.wish E,I.os,I.bare,I.base,I.loc,I.cell,I.free,I.freeC,I.pin,I.hok,I.len⟩
theorem Inv.unwish (I:Inv (X.wish E) pins σ H s):Inv X pins σ H s:=⟨I.ok.unwish,I.os,I.bare,I.base,I.loc,I.cell,I.free,I.freeC,I.pin,I.hok,I.len⟩
theorem SP.unwish {D:Ends}{f:Flow}{s':Shared}(h:SP (X.wish E) pins D f s'):SP X pins D f s':=by
 cases f with
 |next=>obtain⟨σ',H',I,q⟩:=h;exact⟨σ',H',I.unwish,q⟩
 |brk=>obtain⟨σ',H',I,q⟩:=h;exact⟨σ',H',I.unwish,q⟩
 |cont=>obtain⟨σ',H',I,q⟩:=h;exact⟨σ',H',I.unwish,q⟩
 |ret u=>obtain⟨v,σ',H',I,r,q⟩:=h;exact⟨v,σ',H',I.unwish,r,q⟩
theorem sf.nox {st:List Stmt}{t:TS}(h:sf X.nox st t):sf X st t:=fun pins s σ H D I hw=>
 wpAny_mono (h pins s σ H D (I.wish _) hw) (fun _ _ q=>q.unwish) fun _ _ z=>False.elim z
end
section
variable {X:Cx}{st:Stmt}{rest:List Stmt}{t u:TS}{e:Expr}{te:TE}{pos:Pos}
def Ig:TS:=fun D σ H=>D.nx σ H
def Jm (t u:TS):TS:=fun D σ H=>t {D with nx:=u D} σ H
theorem yS:sf X [] Ig:=fun _ _ σ H _ I h=>wpAny_execs_nil ⟨σ,H,I,h⟩
theorem iW (h1:PS X st t)(h2:sf X rest u):sf X (st :: rest) (Jm t u):=by
 intro pins s σ H D I h
 refine wpAny_execs_cons (cS (h1 pins s σ H {D with nx:=u D} I h) fun f s1 q=>?_)
 cases f with
 |next=>
  obtain⟨σ',H',I',q⟩:=q
  exact h2 pins s1 σ' H' D I' q
 |ret v=>exact q
 |brk=>exact q
 |cont=>exact q
theorem jl (h1:PS X st t):sf X [st] t:=by
 intro pins s σ H D I h
 refine wpAny_execs_cons (cS (h1 pins s σ H D I h) fun f s1 q=>?_)
 cases f with
 |next=>exact wpAny_execs_nil q
 |ret v=>exact q
 |brk=>exact q
 |cont=>exact q
theorem Inv.quiet {pins:List (Addr×Obj)}{σ:St}{H:Hp}{s:Shared}(I:Inv X pins σ H s):interactive X.env=false:=by simp[interactive,I.ok.kind]
def HP (te:TE):TS:=fun D σ H=>te σ H fun _ H1=>D.nx σ H1
theorem o8 (he:PE X e te)(hs:swapsWith e none pos.line X.env=pure false:=by rfl):PS X (.Expr e pos) (HP te):=by
 intro pins s σ H D I h
 exact wpAny_Expr_any (cS (he pins s σ H _ I h) fun v s1 ⟨x,H1,I1,r1,q1⟩=>⟨σ,H1,I1,q1⟩) I.quiet hs
def JN (te:TE):TS:=fun D σ H=>te σ H D.rt
theorem nW (he:PE X e te):PS X (.Return (some e) pos) (JN te):=by
 intro pins s σ H D I h
 exact wpAny_Return_some (cS (he pins s σ H _ I h) fun v s1 ⟨x,H1,I1,r1,q1⟩=>⟨x,σ,H1,I1,r1,q1⟩)
def Kb (c:TT)(t u:TS):TS:=fun D σ H=>c σ H fun b H1=>if b=true then t D σ H1 else u D σ H1
theorem EF {c:Expr}{a b:List Stmt}{tc:TT}(hc:PT X c tc)(ha:sf X a t)(hb:sf X b u):PS X (.If c a b pos) (Kb tc t u):=by
 intro pins s σ H D I h
 refine wpAny_If (cS (hc pins s σ H _ I h) fun d s1 ⟨H1,I1,q1⟩=>?_)
 cases d with
 |true=>exact ha pins s1 σ H1 D I1 q1
 |false=>exact hb pins s1 σ H1 D I1 q1
end
abbrev TG:=V->St->Hp->(St->Hp->Prop)->Prop
abbrev Gq:=List V->St->Hp->(St->Hp->Prop)->Prop
def PG (X:Cx)(target:Expr)(t:TG):Prop:=
 ∀(pins:List (Addr×Obj)) (s:Shared) (σ:St) (H:Hp) (v:V) (u:Value) (Q:St->Hp->Prop),Inv X pins σ H s->RelV v u->t v σ H Q->
  wpAny (model X.prog X.w) X.A (assign target X.env u) (fun _ s'=>∃σ' H',Inv X pins σ' H' s'/\Q σ' H') X.xe s
def Je (X:Cx)(ts:List Expr)(t:Gq):Prop:=
 ∀(pins:List (Addr×Obj)) (s:Shared) (σ:St) (H:Hp) (vs:List V) (us:List Value) (Q:St->Hp->Prop),Inv X pins σ H s->Vals vs us->t vs σ H Q->
  wpAny (model X.prog X.w) X.A (assignInOrder ((assignEach ts X.env).map (·.2)) us) (fun _ s'=>∃σ' H',Inv X pins σ' H' s'/\Q σ' H') X.xe s
abbrev FY:=V->V->V->Hp->(Hp->Prop)->Prop
def tR (X:Cx)(t:FY):Prop:=
 ∀(pins:List (Addr×Obj)) (s:Shared) (σ:St) (H:Hp) (o i v:V) (ov iv u:Value) (Q:Hp->Prop),Inv X pins σ H s->RelV o ov->RelV i iv->RelV v u->t o i v H Q->
  wpAny (model X.prog X.w) X.A (setItem ov iv u) (fun _ s'=>∃H',Inv X pins σ H' s'/\Q H') X.xe s
section
variable {X:Cx}{pos:Pos}
def mr (i:Nat):TG:=fun v σ H Q=>Q (σ.set i (some v)) H
theorem de {i:Nat}{x:Str}(hN:X.N.Nodup)(hi:X.N[i]? =some x)(hx:Loc X.env.scope x)(hf:X.fn x=true\/X.env.scope.names.lookup x=some .local:=by first |exact .inl rfl |exact .inr rfl |assumption):PG X (.Name x pos) (mr i):=by
 intro pins s σ H v u Q I r h
 exact wpAny_assign_Name (uN I hN hi hx r (fun s' I'=>⟨_,H,I',h⟩) hf)
def DD:Gq:=fun vs σ H Q=>vs= []/\Q σ H
def p4 (t:TG)(u:Gq):Gq:=fun vs σ H Q=>∃v r,vs=v :: r/\t v σ H fun σ' H'=>u r σ' H' Q
theorem nF:Je X [] DD:=by
 intro pins s σ H vs us Q I r h
 obtain⟨e,h⟩:=h
 subst e
 cases r
 exact assignInOrder_nil ⟨σ,H,I,h⟩
theorem dP {e:Expr}{es:List Expr}{t:TG}{u:Gq}(h1:PG X e t)(h2:Je X es u)
  (hs:(assignEach (e :: es) X.env).map (·.2)=assign e X.env :: (assignEach es X.env).map (·.2):=by rfl):Je X (e :: es) (p4 t u):=by
 intro pins s σ H vs us Q I r h
 obtain⟨v,vr,e1,h⟩:=h
 subst e1
 cases r with
 |cons r rr=>
  rw[hs]
  refine assignInOrder_cons (cS (h1 pins s σ H _ _ _ I r h) fun _ s1 ⟨σ1,H1,I1,q1⟩=>?_)
  exact h2 pins s1 σ1 H1 _ _ Q I1 rr q1
def Dy (K:Frag)(n:Nat)(t:Gq):TG:=fun v σ H Q=>∃a xs,v=.ref a/\gJ K H a xs/\xs.length=n/\t xs σ H Q
theorem pU {es:List Expr}{k:Nat}{t:Gq}{n:Nat}(hc:X.calm=true)(h:Je X es t)
  (hn:(assignEach es X.env).length=n:=by rfl) (hst:(assignEach es X.env).findIdx? (·.1)=none:=by rfl):PG X (.Tuple es k pos) (Dy X.K n t):=by
 intro pins s σ H v u Q I r hw
 obtain⟨a,xs,e1,hq,hl,hw⟩:=hw
 subst e1
 cases r
 obtain⟨its,rv,ht,hz⟩:=I.tuple hq
 refine assign_Tuple_tuple (I.ok.hd hc) ht (by simp[hn,<-hl,rv.length]) hst fun h' hx=>?_
 have I1:Inv X pins σ H {s with heap:=h'}:=I.kept (t':=s.toks) fun b o e=>hx b o (Nat.ne_of_lt (Heap.lt_size e)) e
 exact h pins _ σ H xs _ Q I1 (by simpa using rv) hw
def JH (to ti:TE)(t:FY):TG:=fun v σ H Q=>to σ H fun o H1=>ti σ H1 fun i H2=>t o i v H2 fun H3=>Q σ H3
theorem uK {o i:Expr}{to ti:TE}{t:FY}(ho:PE X o to)(hi:PE X i ti)(hs:tR X t)
  (ha:∀v,assign (.Subscript o i pos) X.env v=(do
   let ov <-holding [v] (eval o X.env)
   let iv <-holding [v,ov] (eval i X.env)
   standAt pos
   holding [v,ov,iv] (setItem ov iv v)
   release [v,ov,iv] []):=by intro _;rfl):PG X (.Subscript o i pos) (JH to ti t):=by
 intro pins s σ H v u Q I r h
 rw[ha]
 refine wpAny_bind (wpAny_holding (cS (ho pins s σ H _ I h) fun ov s1 ⟨x,H1,I1,r1,q1⟩=>?_))
 refine wpAny_bind (wpAny_holding (cS (hi pins s1 σ H1 _ I1 q1) fun iv s2 ⟨y,H2,I2,r2,q2⟩=>?_))
 refine wpAny_bind (wpAny_standAt (wpAny_bind (wpAny_holding (cS (hs pins s2 σ H2 x y v ov iv u _ I2 r1 r2 r q2) fun _ s3 ⟨H3,I3,q3⟩=>?_))))
 exact wpAny_release ⟨σ,H3,I3,q3⟩
def Il (te:TE)(g:TG):TS:=fun D σ H=>te σ H fun x H1=>g x σ H1 D.nx
theorem pX {tg e:Expr}{te:TE}{g:TG}(he:PE X e te)(hg:PG X tg g)(hs:swapsWithSole [tg] e pos.line X.env=pure false:=by rfl)(hw:swappedStores [tg] e X.env=pure none:=by rfl)
  (h1:(assignEach [tg] X.env).map (·.2)= [assign tg X.env]:=by rfl):PS X (.Assign [tg] e pos) (Il te g):=by
 intro pins s σ H D I h
 refine wpAny_Assign_stores (cS (he pins s σ H _ I h) fun v s1 ⟨x,H1,I1,r1,q1⟩=>?_) hs hw
 rw[h1]
 exact cS (hg pins s1 σ H1 x v _ I1 r1 q1) fun _ s2 q=>q
theorem qD {i:Nat}{x:Str}{e:Expr}{te:TE}{pos':Pos}(hN:X.N.Nodup)(hi:X.N[i]? =some x)(hx:Loc X.env.scope x)(he:PE X e te)(hs:swapsWith e (some (.Name x pos')) pos.line X.env=pure false:=by rfl)(hf:X.fn x=true\/X.env.scope.names.lookup x=some .local:=by first |exact .inl rfl |exact .inr rfl |assumption) :
  PS X (.Assign [.Name x pos'] e pos) (Il te (mr i)):=by
 intro pins s σ H D I h
 refine wpAny_Assign_Name (cS (he pins s σ H _ I h) fun v s1 ⟨y,H1,I1,r1,q1⟩=>?_) hs
 exact uN I1 hN hi hx r1 (fun s2 I2=>⟨_,H1,I2,q1⟩) hf
end
section
variable {X:Cx}{pos:Pos}
def Gx (c:TT)(tb:TS):TS:=fun D σ H=>∃W:Nat->St->Hp->Prop,(∃m,W m σ H)/\∀m σ H,W m σ H->
 c σ H fun b H1=>if b=true then ∃N:St->Hp->Prop,(∀σ' H',N σ' H'->∃m',m' < m/\W m' σ' H')/\tb {D with nx:=N,ct:=N,bk:=D.nx} σ H1 else D.nx σ H1
theorem BX {c:Expr}{body:List Stmt}{tc:TT}{tb:TS}(hp:PassesOwn (model X.prog X.w) X.A X.env X.xe)(hc:PT X c tc)(hb:sf X body tb):PS X (.While c body [] pos) (Gx tc tb):=by
 intro pins s σ H D I h
 obtain⟨W,⟨m0,w0⟩,turn⟩:=h
 refine wpAny_While (codeAny_whileLoop (fun n s'=>∃σ' H',Inv X pins σ' H' s'/\W n σ' H') ?_ m0 ⟨σ,H,I,w0⟩)
 rintro n s1 ⟨σ1,H1,I1,w1⟩
 refine wpAny_passesOwn hp (cS (hc pins s1 σ1 H1 _ I1 (turn n σ1 H1 w1)) fun b s2 ⟨H2,I2,q2⟩=>?_)
 cases b with
 |true=>
  obtain⟨N,hN,q2⟩:=q2
  rw[if_pos rfl]
  refine wpAny_passesOwn hp (cS (hb pins s2 σ1 H2 _ I2 q2) fun f s3 q3=>?_)
  cases f with
  |next=>
   obtain⟨σ3,H3,I3,n3⟩:=q3
   obtain⟨m',hm,w3⟩:=hN σ3 H3 n3
   exact⟨m',hm,σ3,H3,I3,w3⟩
  |cont=>
   obtain⟨σ3,H3,I3,n3⟩:=q3
   obtain⟨m',hm,w3⟩:=hN σ3 H3 n3
   exact⟨m',hm,σ3,H3,I3,w3⟩
  |brk=>exact q3
  |ret v=>exact q3
 |false=>
  rw[if_neg Bool.false_ne_true]
  exact wpAny_execs_nil ⟨σ1,H2,I2,q2⟩
end
structure It where
 go:Nat->Hp->Prop
 yld:Nat->Hp->V->Hp->Prop
 stop:Nat->Hp->Prop
def o5 (X:Cx)(pins:List (Addr×Obj))(H:Hp)(b:Addr):Prop:=
 H b=none/\b≠X.env.locals/\b∉X.fs/\(b∈X.ex\/X.s₀.heap.objs.size<=b)/\(∀x c,X.env.cells.lookup x=some c->c≠b)/\∀p∈X.pn ++ pins,p.1≠b
theorem Inv.fpOk {X:Cx}{pins:List (Addr×Obj)}{σ:St}{H H':Hp}{s:Shared}{b:Addr}(I:Inv X pins σ H s)(hb:s.heap.objs.size<=b)(hn:H' b=none):o5 X pins H' b:=by
 refine⟨hn,Nat.ne_of_gt (Nat.lt_of_lt_of_le I.lt hb),I.nofs hb,.inr (Nat.le_trans I.sz hb),fun x c e z=>?_,fun p hp z=>?_⟩
 ·obtain⟨v,q⟩:=I.cell x c e
  exact absurd (Nat.lt_of_lt_of_le q.lt (by rw[z];exact hb)) (Nat.lt_irrefl _)
 ·exact absurd (Nat.lt_of_lt_of_le (Heap.lt_size (I.pin p hp).1) (by rw[z];exact hb)) (Nat.lt_irrefl _)
structure Turn (P:Program)(w:World)(K:Frag)(tg:Expr)(J:It)(fp:List Addr)(it:Addr)(tn:Nat->Heap->Prop):Prop where
 mem:it∈fp
 obj:∀i h,tn i h->∀b∈fp,∃o,h.get? b=some o/\∀v,o.data≠.cell v
 keep:∀i h h',tn i h->(∀b∈fp,∀o,h.get? b=some o->h'.get? b=some o)->tn i h'
 item:∀(X:Cx),X.prog=P->X.w=w->X.K=K->X.calm=true->∀(i:Nat) (pins:List (Addr×Obj)) (s:Shared) (σ:St) (H:Hp) (E:Value->Shared->Prop),Inv X pins σ H s->(∀b∈fp,o5 X pins H b)->tn i s.heap->J.go i H->
  wpAny (model P w) X.A (pyNext (.ref it)) (fun r s1=>∃u,r=some u/\
   wpAny (model P w) X.A (letOwnedTupleGo tg (.ref it) u) (fun _ s2=>∃x H',Inv X pins σ H' s2/\RelV x u/\J.yld i H x H'/\tn (i + 1) s2.heap/\∀b∈fp,H' b=none) E s1) E s
 done:∀(X:Cx),X.prog=P->X.w=w->X.K=K->X.calm=true->∀(i:Nat) (pins:List (Addr×Obj)) (s:Shared) (σ:St) (H:Hp) (E:Value->Shared->Prop),Inv X pins σ H s->(∀b∈fp,o5 X pins H b)->tn i s.heap->J.stop i H->
  wpAny (model P w) X.A (pyNext (.ref it)) (fun r s1=>r=none/\Inv X pins σ H s1) E s
 self:∀(A:Around) (i:Nat) (s:Shared) (Q:Value->Shared->Prop) (E:Value->Shared->Prop),tn i s.heap->Q (.ref it) s->wpAny (model P w) A (pyIter (.ref it)) Q E s
abbrev TI:=St->Hp->(It->Hp->Prop)->Prop
def Km (X:Cx)(pins:List (Addr×Obj))(σ:St)(tg:Expr)(R:It->Hp->Prop)(itv:Value)(s2:Shared):Prop:=
 ∃(it:Addr) (fp:List Addr) (tn:Nat->Heap->Prop) (J:It) (H':Hp),itv=.ref it/\Inv X pins σ H' s2/\Turn X.prog X.w X.K tg J fp it tn/\tn 0 s2.heap/\(∀b∈fp,o5 X pins H' b)/\R J H'
def PI (X:Cx)(tg iter:Expr)(wi:TI):Prop:=
 ∀(pins:List (Addr×Obj)) (s:Shared) (σ:St) (H:Hp) (R:It->Hp->Prop),Inv X pins σ H s->wi σ H R->
  wpAny (model X.prog X.w) X.A (eval iter X.env) (fun v s1=>wpAny (model X.prog X.w) X.A (pyIter v) (Km X pins σ tg R) X.xe s1) X.xe s
theorem AZ {M:Model}{A:Around}{E:Value->Shared->Prop}{s:Shared}{tg:Expr}{it:Addr}{u:Value}{o:Obj}{n:String}{vs:Array Value}{Q:Unit->Shared->Prop}(ho:s.heap.get? it=some o)(hc:o.cls=.type n)(hd:o.data=.fields vs)
  (hn: ["enumerate","zip","dict_itemiterator","dict_reverseitemiterator","odict_iterator","itertools.zip_longest","itertools.pairwise"].contains n=false) (hQ:Q () s):wpAny M A (letOwnedTupleGo tg (.ref it) u) Q E s:=by
 unfold letOwnedTupleGo
 cases tg <;> first
  |exact wpAny_pure hQ
  | (cases u <;> first
    |exact wpAny_pure hQ
    | (refine wpAny_bind (wpAny_load ho ?_)
       rw[hc,hd]
       show wpAny M A (if (["enumerate","zip","dict_itemiterator","dict_reverseitemiterator","odict_iterator","itertools.zip_longest","itertools.pairwise"].contains n && vs[0]? == some (rawInt _))=true then _ else _) Q E s
       rw[if_neg (by intro h;rw[hn,Bool.false_and] at h;cases h)]
       exact wpAny_pure hQ))
def Ae (K:Frag)(a:Addr):It:=
 ⟨fun i H=>∃xs x,hX K H a xs/\xs[i]? =some x,fun i H x H'=>H'=H/\∀xs,hX K H a xs->xs[i]? =some x,fun i H=>∃xs,hX K H a xs/\xs.length<=i⟩
def EB (K:Frag)(a:Addr):It:=
 ⟨fun i H=>∃xs x,gJ K H a xs/\xs[i]? =some x,fun i H x H'=>H'=H/\∀xs,gJ K H a xs->xs[i]? =some x,fun i H=>∃xs,gJ K H a xs/\xs.length<=i⟩
def zE (lo:Int)(n:Nat):It:=⟨fun i _=>i < n,fun i H x H'=>H'=H/\x=.int (lo + i),fun i _=>n<=i⟩
theorem oz {P:Program}{w:World}{K:Frag}{tg:Expr}(a it:Addr):Turn P w K tg (Ae K a) [it] it (fun i h=>h.IsListIter it a i) where
 mem:=by simp
 obj:=fun i h st b hb=>by
  have e:b=it:=by simpa using hb
  subst e
  obtain⟨o,e,c,d⟩:=st
  exact⟨o,e,fun v z=>by rw[d] at z;cases z⟩
 keep:=fun i h h' st k=>st.at fun o e=>k it (by simp) o e
 item:=by
  intro X hP hw hK hc i pins s σ H E I hf st hg
  subst hP hw hK
  obtain⟨xs,x,hq,hx⟩:=hg
  obtain⟨its,rv,p,hz⟩:=I.list hq
  obtain⟨u,hu,ru⟩:=rv.get hx
  obtain⟨f0,f1,f2,f3,f4,f5⟩:=hf it (by simp)
  refine wpAny_pyNext_list_item st p.isList (x:=u) (by simpa using hu) fun h' st' sb=>?_
  have I1:Inv X pins σ H {s with heap:=h'}:=I.turned (t':=s.toks) (fun b o hb e=>(sb.2 b hb).trans e) f0 f1 f3 f4 f5
  obtain⟨o,e,c,d⟩:=id st'
  exact⟨u,rfl,AZ (s:={s with heap:=h'}) e c d (by decide) ⟨x,H,I1,ru,⟨rfl,fun ys hy=>by rw[I.list_inj hy hq];exact hx⟩,st',fun b hb=>(hf b hb).1⟩⟩
 done:=by
  intro X hP hw hK hc i pins s σ H E I hf st hg
  subst hP hw hK
  obtain⟨xs,hq,hx⟩:=hg
  obtain⟨its,rv,p,hz⟩:=I.list hq
  obtain⟨f0,f1,f2,f3,f4,f5⟩:=hf it (by simp)
  have hl:=rv.length
  exact wpAny_pyNext_list_end (I.ok.hd hc) st p.isList (by simp;omega) fun h' eb=>⟨rfl,I.turned (t':=s.toks) (fun b o hb e=>eb b o hb e) f0 f1 f3 f4 f5⟩
 self:=fun _ _ _ _ _ st h=>wpAny_pyIter_listiter st h
theorem pJ {P:Program}{w:World}{K:Frag}{tg:Expr}(a it:Addr):Turn P w K tg (EB K a) [it] it (fun i h=>h.IsTupleIter it a i) where
 mem:=by simp
 obj:=fun i h st b hb=>by
  have e:b=it:=by simpa using hb
  subst e
  obtain⟨o,e,c,d⟩:=st
  exact⟨o,e,fun v z=>by rw[d] at z;cases z⟩
 keep:=fun i h h' st k=>st.at fun o e=>k it (by simp) o e
 item:=by
  intro X hP hw hK hc i pins s σ H E I hf st hg
  subst hP hw hK
  obtain⟨xs,x,hq,hx⟩:=hg
  obtain⟨its,rv,p,hz⟩:=I.tuple hq
  obtain⟨u,hu,ru⟩:=rv.get hx
  obtain⟨f0,f1,f2,f3,f4,f5⟩:=hf it (by simp)
  refine wpAny_pyNext_tuple_item st (show s.heap.IsTuple a its.toArray from p) (x:=u) (by simpa using hu) fun h' st' sb=>?_
  have I1:Inv X pins σ H {s with heap:=h'}:=I.turned (t':=s.toks) (fun b o hb e=>(sb.2 b hb).trans e) f0 f1 f3 f4 f5
  obtain⟨o,e,c,d⟩:=id st'
  exact⟨u,rfl,AZ (s:={s with heap:=h'}) e c d (by decide) ⟨x,H,I1,ru,⟨rfl,fun ys hy=>by rw[I.tuple_inj hy hq];exact hx⟩,st',fun b hb=>(hf b hb).1⟩⟩
 done:=by
  intro X hP hw hK hc i pins s σ H E I hf st hg
  subst hP hw hK
  obtain⟨xs,hq,hx⟩:=hg
  obtain⟨its,rv,p,hz⟩:=I.tuple hq
  obtain⟨f0,f1,f2,f3,f4,f5⟩:=hf it (by simp)
  have hl:=rv.length
  exact wpAny_pyNext_tuple_end (I.ok.hd hc) st (show s.heap.IsTuple a its.toArray from p) (by simp;omega) fun h' eb=>⟨rfl,I.turned (t':=s.toks) (fun b o hb e=>eb b o hb e) f0 f1 f3 f4 f5⟩
 self:=fun _ _ _ _ _ st h=>wpAny_pyIter_tupleiter st h
theorem x8 {P:Program}{w:World}{K:Frag}{tg:Expr}(it:Addr)(lo:Int)(n:Nat):Turn P w K tg (zE lo n) [it] it (fun i h=>IsRangeIter h it (lo + (i:Nat) * 1) ((n:Int) - (i:Nat)) 1) where
 mem:=by simp
 obj:=fun i h st b hb=>by
  have e:b=it:=by simpa using hb
  subst e
  exact⟨_,st,fun v z=>by
   have z':Data.fields _=Data.cell v:=z
   cases z'⟩
 keep:=fun i h h' st k=>k it (by simp) _ st
 item:=by
  intro X hP hw hK hc i pins s σ H E I hf st hg
  subst hP hw hK
  obtain⟨f0,f1,f2,f3,f4,f5⟩:=hf it (by simp)
  have W:=Walks.range (prog:=X.prog) (w:=X.w) (I.ok.hd hc) it lo 1 n
  refine W.item i s _ _ hg st fun v h' tk hv st' kk=>?_
  obtain⟨t,rfl⟩:=hv
  have I1:Inv X pins σ H {s with heap:=h',toks:=tk}:=I.turned (fun b o hb e=>kk b o (by simpa using hb) e) f0 f1 f3 f4 f5
  refine⟨_,rfl,AZ (s:={s with heap:=h',toks:=tk}) (n:="range_iterator") st' rfl rfl (by decide) ⟨.int (lo + i),H,I1,⟨t,?_⟩,⟨rfl,rfl⟩,st',fun b hb=>(hf b hb).1⟩⟩
  rw[Int.mul_one]
 done:=by
  intro X hP hw hK hc i pins s σ H E I hf st hg
  subst hP hw hK
  obtain⟨f0,f1,f2,f3,f4,f5⟩:=hf it (by simp)
  exact wpAny_pyNext_range_end (I.ok.hd hc) st (by have:n<=i:=hg;omega) fun h' eb=>⟨rfl,I.turned (t':=s.toks) (fun b o hb e=>eb b o hb e) f0 f1 f3 f4 f5⟩
 self:=fun _ _ _ _ _ st h=>wpAny_pyIter_rangeiter st h
section
variable {X:Cx}{tg:Expr}
def Iq (K:Frag)(tl:TE):TI:=fun σ H R=>tl σ H fun x H1=>∃a,x=.ref a/\(∃xs,hX K H1 a xs)/\R (Ae K a) H1
theorem yJ {l:Expr}{tl:TE}(hl:PE X l tl):PI X tg l (Iq X.K tl):=by
 intro pins s σ H R I h
 refine cS (hl pins s σ H _ I h) fun v s1 ⟨x,H1,I1,r1,q1⟩=>?_
 obtain⟨a,e,⟨xs,hq⟩,q⟩:=q1
 subst e
 cases r1
 obtain⟨its,rv,p,hz⟩:=I1.list hq
 refine wpAny_pyIter_list p.isList ?_
 refine⟨s1.heap.objs.size,[s1.heap.objs.size],_,_,H1,rfl,I1.kept (t':=s1.toks) fun b o e=>Heap.get?_push_of_some _ e,oz a _,⟨_,Heap.get?_push_size _ rfl,rfl,rfl⟩,fun b hb=>?_,q⟩
 have e:b=s1.heap.objs.size:=by simpa using hb
 subst e
 exact I1.fpOk (Nat.le_refl _) (I1.hok.fresh (Nat.le_refl _))
theorem uS {pins:List (Addr×Obj)}{σ:St}{H:Hp}{s:Shared}{R:It->Hp->Prop}{E:Value->Shared->Prop}{lo hi:Int}{t u v:Tok}{tk:Nat}(I:Inv X pins σ H s)(h1: -(2 ^ 62)<=lo)(h2:lo < 2 ^ 62)(h3: -(2 ^ 62)<=hi)(h4:hi < 2 ^ 62)
  (q:R (zE lo (hi - lo).toNat) H):wpAny (model X.prog X.w) X.A (pyIter (.ref s.heap.objs.size)) (Km X pins σ tg R) E {s with heap:=s.heap.push {cls:=.type "range",data:=.fields #[.int lo t,.int hi u,.int 1 v]},toks:=tk}:=by
 refine wpAny_pyIter_range (IsRange.new ..) (small_one h1 h2 h3 h4) ?_
 have I1:Inv X pins σ H {s with heap:=s.heap.push {cls:=.type "range",data:=.fields #[.int lo t,.int hi u,.int 1 v]},toks:=tk}:=I.kept fun b o e=>Heap.get?_push_of_some _ e
 refine⟨(s.heap.push {cls:=.type "range",data:=.fields #[.int lo t,.int hi u,.int 1 v]}).objs.size,[(s.heap.push {cls:=.type "range",data:=.fields #[.int lo t,.int hi u,.int 1 v]}).objs.size],_,_,H,rfl,
  I1.kept (t':=tk) fun b o e=>Heap.get?_push_of_some _ e,x8 _ lo (hi - lo).toNat,?_,fun b hb=>?_,q⟩
 ·have e1:lo + ((0:Nat):Int) * 1=lo:=by simp
  have e2:(((hi - lo).toNat:Nat):Int) - ((0:Nat):Int)=Builtin.Range.rangeSize lo hi 1:=by rw[rangeSize_one];split <;> omega
  show IsRangeIter _ _ (lo + ((0:Nat):Int) * 1) ((((hi - lo).toNat:Nat):Int) - ((0:Nat):Int)) 1
  rw[e1,e2]
  exact Heap.get?_push_size _ rfl
 ·have e:b=(s.heap.push {cls:=.type "range",data:=.fields #[.int lo t,.int hi u,.int 1 v]}).objs.size:=by simpa using hb
  subst e
  exact I1.fpOk (Nat.le_refl _) (I1.hok.fresh (Nat.le_refl _))
def Hy (ta:TA):TI:=fun σ H R=>ta σ H fun vs H1=>∃j:Int,vs= [.int j]/\ -(2 ^ 62)<=j/\j < 2 ^ 62/\R (zE 0 j.toNat) H1
def Im (ta:TA):TI:=fun σ H R=>ta σ H fun vs H1=>∃i j:Int,vs= [.int i,.int j]/\(-(2 ^ 62)<=i/\i < 2 ^ 62/\ -(2 ^ 62)<=j/\j < 2 ^ 62)/\R (zE i (j - i).toNat) H1
theorem l5 {a:Expr}{ta:TA}{p pos:Pos}(hg:Gl X "range")(hm:X.mg "range"=none)(ha:PA X [a] ta)(hs:starEach [a] X.env= [(false,eval a X.env)]:=by rfl):PI X tg (.Call (.Name "range" p) [a] [] pos) (Hy ta):=by
 intro pins s σ H R I h
 refine Call_ (n6 I hg hm boot_range (PyProof.Rows.callWith_type1 (cS (ha pos pins s σ H _ I h) fun us s1 ⟨vs,H1,I1,r1,q1⟩=>?_) hs rfl))
 obtain⟨j,e,q1,q2,q⟩:=q1
 subst e
 cases r1 with
 |cons r rr=>
  cases rr
  obtain⟨t,rfl⟩:=r
  exact call_range_1 (uS I1 (by omega) (by omega) q1 q2 (by simpa using q))
theorem zR {a b:Expr}{ta:TA}{p pos:Pos}(hg:Gl X "range")(hm:X.mg "range"=none)(ha:PA X [a,b] ta)(hs:starEach [a,b] X.env= [(false,eval a X.env),(false,eval b X.env)]:=by rfl)(hs2:starEach [b] X.env= [(false,eval b X.env)]:=by rfl) :
  PI X tg (.Call (.Name "range" p) [a,b] [] pos) (Im ta):=by
 intro pins s σ H R I h
 refine Call_ (n6 I hg hm boot_range (PyProof.Rows.callWith_type1 (cS (ha pos pins s σ H _ I h) fun us s1 ⟨vs,H1,I1,r1,q1⟩=>?_) (by rw[hs,hs2]) (by rw[hs2];rfl)))
 obtain⟨i,j,e,⟨q1,q2,q3,q4⟩,q⟩:=q1
 subst e
 cases r1 with
 |cons r rr=>
  cases rr with
  |cons r' rr=>
   cases rr
   obtain⟨t,rfl⟩:=r
   obtain⟨t',rfl⟩:=r'
   exact call_range_2 (uS I1 q1 q2 q3 q4 q)
def Jz (wi:TI)(g:TG)(tb:TS):TS:=fun D σ H=>wi σ H fun J H1=>∃W:Nat->Nat->St->Hp->Prop,(∃m,W 0 m σ H1)/\∀i m σ H,W i m σ H->
 (J.stop i H/\D.nx σ H)\/(J.go i H/\∃N:St->Hp->Prop,(∀σ' H',N σ' H'->∃m',m' < m/\W (i + 1) m' σ' H')/\∀x H',J.yld i H x H'->g x σ H' fun σ2 H2=>tb {D with nx:=N,ct:=N,bk:=D.nx} σ2 H2)
def qf (fp:List Addr)(h:Heap):List (Addr×Obj):=fp.filterMap fun b=>(h.get? b).map fun o=>(b,o)
theorem kA {fp:List Addr}{h:Heap}{b:Addr}{o:Obj}(hb:b∈fp)(e:h.get? b=some o):(b,o)∈qf fp h:=mem_filterMap.mpr ⟨b,hb,by rw[e];rfl⟩
theorem zO {fp:List Addr}{h:Heap}{p:Addr×Obj}(hp:p∈qf fp h):p.1∈fp/\h.get? p.1=some p.2:=by
 obtain⟨b,hb,e⟩:=mem_filterMap.mp hp
 cases q:h.get? b with
 |none=>rw[q] at e;cases e
 |some o=>
  rw[q] at e
  have e':(b,o)=p:=Option.some.inj e
  subst e'
  exact⟨hb,q⟩
theorem Inv.pinned {pins:List (Addr×Obj)}{σ:St}{H:Hp}{s:Shared}{fp:List Addr}(I:Inv X pins σ H s)(hf:∀b∈fp,o5 X pins H b)(ho:∀b∈fp,∃o,s.heap.get? b=some o/\∀v,o.data≠.cell v):Inv X (pins ++ qf fp s.heap) σ H s:=
 I.pins_of fun p hp=>(mem_append.mp hp).elim (fun z=>I.pin p (mem_append_right _ z)) fun z=>by
  obtain⟨hb,e⟩:=zO z
  obtain⟨f0,f1,f2,_⟩:=hf p.1 hb
  obtain⟨o,e',d⟩:=ho p.1 hb
  rw[e] at e';cases e'
  exact⟨e,f0,f1,f2,d⟩
theorem Inv.unpinned {pins pl:List (Addr×Obj)}{σ:St}{H:Hp}{s:Shared}(I:Inv X (pins ++ pl) σ H s):Inv X pins σ H s:=I.pins_of fun p hp=>I.pin p (mem_append_right _ (mem_append_left _ hp))
theorem tK {iter:Expr}{body:List Stmt}{wi:TI}{g:TG}{tb:TS}{pos:Pos}(hp:PassesOwn (model X.prog X.w) X.A X.env X.xe)(hc:X.calm=true)(hi:PI X tg iter wi)(hg:PG X tg g)(hb:sf X body tb)
  (hs:∀x,foldedSetIterable iter X.env x=pure x:=by intro _;rfl):PS X (.For tg iter body [] pos) (Jz wi g tb):=by
 intro pins s σ H D I h
 refine wpAny_For (cS (hi pins s σ H _ I h) fun v s1 h1=>cS h1 fun itv s2 h2=>?_) hs
 obtain⟨it,fp,tn,J,H2,e,I2,T,st2,f2,W,⟨m0,w0⟩,turn⟩:=h2
 subst e
 have stat:∀{H':Hp},(∀b∈fp,H' b=none)->∀b∈fp,o5 X pins H' b:=fun hn b hb=>⟨hn b hb,(f2 b hb).2⟩
 refine codeAny_forLoop_any (fun n s'=>∃i σ' H',Inv X pins σ' H' s'/\tn i s'.heap/\(∀b∈fp,H' b=none)/\W i n σ' H') ?_ m0 ⟨0,σ,H2,I2,st2,fun b hb=>(f2 b hb).1,w0⟩
 rintro n s3 ⟨i,σ3,H3,I3,st3,fr3,w3⟩
 rcases turn i n σ3 H3 w3 with⟨stop,qn⟩ | ⟨go,N,hN,step⟩
 ·refine wpAny_passesOwn hp (cS (T.done X rfl rfl rfl hc i pins s3 σ3 H3 X.xe I3 (stat fr3) st3 stop) fun r s4 ⟨hr,I4⟩=>?_)
  subst hr
  exact wpAny_execs_nil ⟨σ3,H3,I4,qn⟩
 ·refine wpAny_passesOwn hp (cS (T.item X rfl rfl rfl hc i pins s3 σ3 H3 X.xe I3 (stat fr3) st3 go) fun r s4 ⟨u,hr,h4⟩=>?_)
  subst hr
  refine wpAny_passesOwn hp (cS h4 fun _ s5 ⟨x,H5,I5,r5,y5,st5,fr5⟩=>?_)
  have I5':=I5.pinned (stat fr5) (T.obj _ _ st5)
  refine wpAny_passesOwn hp (cS (hg _ s5 σ3 H5 x u _ I5' r5 (step x H5 y5)) fun _ s6 ⟨σ6,H6,I6,q6⟩=>?_)
  refine wpAny_passesOwn hp (cS (hb _ s6 σ6 H6 _ I6 q6) fun f s7 q7=>?_)
  have again:∀{σ7:St} {H7:Hp},Inv X (pins ++ qf fp s5.heap) σ7 H7 s7->N σ7 H7->∃m,m < n/\∃i σ' H',Inv X pins σ' H' s7/\tn i s7.heap/\(∀b∈fp,H' b=none)/\W i m σ' H':=fun {σ7 H7} I7 n7=>by
   obtain⟨m',hm,w7⟩:=hN σ7 H7 n7
   refine⟨m',hm,i + 1,σ7,H7,I7.unpinned,T.keep _ _ _ st5 fun b hb o e=>(I7.pin (b,o) (mem_append_right _ (mem_append_right _ (kA hb e)))).1,fun b hb=>?_,w7⟩
   obtain⟨o,e,d⟩:=T.obj _ _ st5 b hb
   exact (I7.pin (b,o) (mem_append_right _ (mem_append_right _ (kA hb e)))).2.1
  cases f with
  |next=>obtain⟨σ7,H7,I7,n7⟩:=q7;exact again I7 n7
  |cont=>obtain⟨σ7,H7,I7,n7⟩:=q7;exact again I7 n7
  |brk=>obtain⟨σ7,H7,I7,q7⟩:=q7;exact⟨σ7,H7,I7.unpinned,q7⟩
  |ret v=>obtain⟨x7,σ7,H7,I7,r7,q7⟩:=q7;exact⟨x7,σ7,H7,I7.unpinned,r7,q7⟩
end
theorem vX {K:Frag}{a:Addr}{xs:List V}{g:TG}{tb:TS}{D:Ends}{σ:St}{H:Hp}(Pv:Nat->St->Hp->Prop)(h0:Pv 0 σ H)(hl:∀i σ H,i<=xs.length->Pv i σ H->hX K H a xs)
  (hs:∀i x σ H,xs[i]? =some x->Pv i σ H->g x σ H fun σ2 H2=>tb {D with nx:=Pv (i + 1),ct:=Pv (i + 1),bk:=D.nx} σ2 H2) (hd:∀σ H,Pv xs.length σ H->D.nx σ H) :
  ∃W:Nat->Nat->St->Hp->Prop,(∃m,W 0 m σ H)/\∀i m σ H,W i m σ H->
   ((Ae K a).stop i H/\D.nx σ H)\/((Ae K a).go i H/\∃N:St->Hp->Prop,(∀σ' H',N σ' H'->∃m',m' < m/\W (i + 1) m' σ' H')/\∀x H',(Ae K a).yld i H x H'->g x σ H' fun σ2 H2=>tb {D with nx:=N,ct:=N,bk:=D.nx} σ2 H2):=by
 refine⟨fun i m σ H=>m=xs.length - i/\i<=xs.length/\Pv i σ H,⟨xs.length,by simp,Nat.zero_le _,h0⟩,?_⟩
 rintro i m σ H ⟨rfl,hi,p⟩
 have q:=hl i σ H hi p
 by_cases hlt:i < xs.length
 ·refine .inr ⟨⟨xs,xs[i],q,by simp[hlt]⟩,Pv (i + 1),fun σ' H' p'=>⟨xs.length - (i + 1),by omega,rfl,hlt,p'⟩,fun x H' y=>?_⟩
  obtain⟨e,y⟩:=y
  subst e
  exact hs i x σ _ (y xs q) p
 ·have e:i=xs.length:=by omega
  subst e
  exact .inl ⟨⟨xs,q,Nat.le_refl _⟩,hd σ H p⟩
theorem Eg {K:Frag}{a:Addr}{xs:List V}{g:TG}{tb:TS}{D:Ends}{σ:St}{H:Hp}(Pv:Nat->St->Hp->Prop)(h0:Pv 0 σ H)(hl:∀i σ H,i<=xs.length->Pv i σ H->gJ K H a xs)
  (hs:∀i x σ H,xs[i]? =some x->Pv i σ H->g x σ H fun σ2 H2=>tb {D with nx:=Pv (i + 1),ct:=Pv (i + 1),bk:=D.nx} σ2 H2) (hd:∀σ H,Pv xs.length σ H->D.nx σ H) :
  ∃W:Nat->Nat->St->Hp->Prop,(∃m,W 0 m σ H)/\∀i m σ H,W i m σ H->
   ((EB K a).stop i H/\D.nx σ H)\/((EB K a).go i H/\∃N:St->Hp->Prop,(∀σ' H',N σ' H'->∃m',m' < m/\W (i + 1) m' σ' H')/\∀x H',(EB K a).yld i H x H'->g x σ H' fun σ2 H2=>tb {D with nx:=N,ct:=N,bk:=D.nx} σ2 H2):=by
 refine⟨fun i m σ H=>m=xs.length - i/\i<=xs.length/\Pv i σ H,⟨xs.length,by simp,Nat.zero_le _,h0⟩,?_⟩
 rintro i m σ H ⟨rfl,hi,p⟩
 have q:=hl i σ H hi p
 by_cases hlt:i < xs.length
 ·refine .inr ⟨⟨xs,xs[i],q,by simp[hlt]⟩,Pv (i + 1),fun σ' H' p'=>⟨xs.length - (i + 1),by omega,rfl,hlt,p'⟩,fun x H' y=>?_⟩
  obtain⟨e,y⟩:=y
  subst e
  exact hs i x σ _ (y xs q) p
 ·have e:i=xs.length:=by omega
  subst e
  exact .inl ⟨⟨xs,q,Nat.le_refl _⟩,hd σ H p⟩
theorem Ac {lo:Int}{n:Nat}{g:TG}{tb:TS}{D:Ends}{σ:St}{H:Hp}(Pv:Nat->St->Hp->Prop)(h0:Pv 0 σ H)
  (hs:∀i σ H,i < n->Pv i σ H->g (.int (lo + i)) σ H fun σ2 H2=>tb {D with nx:=Pv (i + 1),ct:=Pv (i + 1),bk:=D.nx} σ2 H2) (hd:∀σ H,Pv n σ H->D.nx σ H) :
  ∃W:Nat->Nat->St->Hp->Prop,(∃m,W 0 m σ H)/\∀i m σ H,W i m σ H->
   ((zE lo n).stop i H/\D.nx σ H)\/((zE lo n).go i H/\∃N:St->Hp->Prop,(∀σ' H',N σ' H'->∃m',m' < m/\W (i + 1) m' σ' H')/\∀x H',(zE lo n).yld i H x H'->g x σ H' fun σ2 H2=>tb {D with nx:=N,ct:=N,bk:=D.nx} σ2 H2):=by
 refine⟨fun i m σ H=>m=n - i/\i<=n/\Pv i σ H,⟨n,by simp,Nat.zero_le _,h0⟩,?_⟩
 rintro i m σ H ⟨rfl,hi,p⟩
 by_cases hlt:i < n
 ·refine .inr ⟨hlt,Pv (i + 1),fun σ' H' p'=>⟨n - (i + 1),by omega,rfl,hlt,p'⟩,fun x H' y=>?_⟩
  obtain⟨e,y⟩:=y
  subst e y
  exact hs i σ _ hlt p
 ·have e:i=n:=by omega
  subst e
  exact .inl ⟨Nat.le_refl _,hd σ H p⟩
abbrev R2:=V->V->Hp->VK->Prop
def mw (X:Cx)(f:Value->Value->Sem Value)(r:R2):Prop:=
 ∀(pins:List (Addr×Obj)) (s:Shared) (σ:St) (H:Hp) (x y:V) (v u:Value) (Q:VK),Inv X pins σ H s->RelV x v->RelV y u->r x y H Q->
  wpAny (model X.prog X.w) X.A (f v u) (EP X pins σ Q) X.xe s
def IV (X:Cx)(f:Value->Sem Value)(r:V->Hp->VK->Prop):Prop:=
 ∀(pins:List (Addr×Obj)) (s:Shared) (σ:St) (H:Hp) (x:V) (v:Value) (Q:VK),Inv X pins σ H s->RelV x v->r x H Q->
  wpAny (model X.prog X.w) X.A (f v) (EP X pins σ Q) X.xe s
def cY (X:Cx)(f:Value)(r:List V->Hp->VK->Prop):Prop:=
 ∀(pins:List (Addr×Obj)) (s:Shared) (σ:St) (H:Hp) (xs:List V) (us:List Value) (Q:VK),Inv X pins σ H s->Vals xs us->r xs H Q->
  wpAny (model X.prog X.w) X.A (call f us) (EP X pins σ Q) X.xe s
def Jn (X:Cx)(r:V->Hp->(Bool->Hp->Prop)->Prop):Prop:=
 ∀(pins:List (Addr×Obj)) (s:Shared) (σ:St) (H:Hp) (x:V) (v:Value) (Q:Bool->Hp->Prop),Inv X pins σ H s->RelV x v->r x H Q->
  wpAny (model X.prog X.w) X.A (truthy v) (TP X pins σ Q) X.xe s
def IS (r:R2)(ta tb:TE):TE:=fun σ H Q=>ta σ H fun x H1=>tb σ H1 fun y H2=>r x y H2 Q
def KI (r:V->Hp->VK->Prop)(ta:TE):TE:=fun σ H Q=>ta σ H fun x H1=>r x H1 Q
def rI (C:Int->Int->Prop)(g:Int->Int->V):R2:=fun x y H Q=>∃i j,x=.int i/\y=.int j/\C i j/\Q (g i j) H
def vC (g:Int->Int->V):R2:=fun x y H Q=>∃i j,x=.int i/\y=.int j/\Q (g i j) H
def rU (g:Int->V):V->Hp->VK->Prop:=fun x H Q=>∃i,x=.int i/\Q (g i) H
section
variable {X:Cx}{a b c:Expr}{ta tb tc:TE}{pos:Pos}
theorem FW (ha:PE X a ta)(hb:PE X b tb){pins:List (Addr×Obj)}{s:Shared}{σ:St}{H:Hp}{R:V->V->Hp->Prop}(I:Inv X pins σ H s)
  (h:ta σ H fun x H1=>tb σ H1 fun y H2=>R x y H2) {Q:Value->Shared->Prop} {f:Value->Value->Sem Value}
  (hf:∀v u s2 x y H2,Inv X pins σ H2 s2->RelV x v->RelV y u->R x y H2->wpAny (model X.prog X.w) X.A (f v u) Q X.xe s2) :
  wpAny (model X.prog X.w) X.A (eval a X.env) (fun v s₁=>wpAny (model X.prog X.w) X.A (eval b X.env) (fun u s₂=>wpAny (model X.prog X.w) X.A (f v u) Q X.xe s₂) X.xe s₁) X.xe s:=by
 refine cS (ha pins s σ H _ I h) fun v s1 ⟨x,H1,I1,r1,q1⟩=>?_
 refine cS (hb pins s1 σ H1 _ I1 q1) fun u s2 ⟨y,H2,I2,r2,q2⟩=>?_
 exact hf v u s2 x y H2 I2 r1 r2 q2
theorem rX {op:Operator}{r:R2}(ho:mw X (binaryOp op) r)(ha:PE X a ta)(hb:PE X b tb):PE X (.BinOp a op b pos) (IS r ta tb):=by
 intro pins s σ H Q I h
 exact wpAny_BinOp (FW ha hb I h fun v u s2 x y H2 I2 rx ry q=>ho pins s2 σ H2 x y v u Q I2 rx ry q)
theorem Hu {op:UnaryOp}{r:V->Hp->VK->Prop}(ho:IV X (unaryOp op) r)(ha:PE X a ta):PE X (.UnaryOp op a pos) (KI r ta):=by
 intro pins s σ H Q I h
 exact UnaryOp_ (cS (ha pins s σ H _ I h) fun v s1 ⟨x,H1,I1,r1,q1⟩=>ho pins s1 σ H1 x v Q I1 r1 q1)
theorem IZ {f:Value->Value->Sem Value}{C:Int->Int->Prop}{g:Int->Int->Int}
  (rule:∀(i j:Int) (t u:Tok) (s:Shared) (Q:Value->Shared->Prop) (E:Value->Shared->Prop),C i j->Q (.int (g i j) s.toks) {s with toks:=s.toks + 1}->wpAny (model X.prog X.w) X.A (f (.int i t) (.int j u)) Q E s) :
  mw X f (rI C fun i j=>.int (g i j)):=by
 intro pins s σ H x y v u Q I rx ry h
 obtain⟨i,j,rfl,rfl,hc,q⟩:=h
 obtain⟨t,rfl⟩:=rx
 obtain⟨t',rfl⟩:=ry
 exact rule i j t t' s _ _ hc ⟨.int (g i j),H,I.tok _,⟨_,rfl⟩,q⟩
theorem C2 {f:Value->Value->Sem Value}{g:Int->Int->Int}
  (rule:∀(i j:Int) (t u:Tok) (s:Shared) (Q:Value->Shared->Prop) (E:Value->Shared->Prop),Q (.int (g i j) s.toks) {s with toks:=s.toks + 1}->wpAny (model X.prog X.w) X.A (f (.int i t) (.int j u)) Q E s) :
  mw X f (vC fun i j=>.int (g i j)):=by
 intro pins s σ H x y v u Q I rx ry h
 obtain⟨i,j,rfl,rfl,q⟩:=h
 obtain⟨t,rfl⟩:=rx
 obtain⟨t',rfl⟩:=ry
 exact rule i j t t' s _ _ ⟨.int (g i j),H,I.tok _,⟨_,rfl⟩,q⟩
theorem GO {f:Value->Value->Sem Value}{g:Int->Int->Bool}
  (rule:∀(i j:Int) (t u:Tok) (s:Shared) (Q:Value->Shared->Prop) (E:Value->Shared->Prop),Q (.bool (g i j)) s->wpAny (model X.prog X.w) X.A (f (.int i t) (.int j u)) Q E s) :
  mw X f (vC fun i j=>.bl (g i j)):=by
 intro pins s σ H x y v u Q I rx ry h
 obtain⟨i,j,rfl,rfl,q⟩:=h
 obtain⟨t,rfl⟩:=rx
 obtain⟨t',rfl⟩:=ry
 exact rule i j t t' s _ _ ⟨.bl (g i j),H,I,rfl,q⟩
def Eh (i j:Int):Prop:=0 < j/\j < 1073741824
def E8 (i j:Int):Prop:=0<=j/\j<=1000000/\i.natAbs < 2 ^ 64
def A7 (i j:Int):Prop:=(-(2 ^ 64) < i/\i < 2 ^ 64)\/(-(2 ^ 64) < j/\j < 2 ^ 64)
theorem A7.ok {i j:Int}(h:A7 i j):IntMulOk i j:=by
 rcases h with⟨h1,h2⟩ | ⟨h1,h2⟩
 ·exact .of_left (intBits_le_64 h1 h2)
 ·exact .of_right (intBits_le_64 h1 h2)
theorem je:mw X (binaryOp .Add) (vC fun i j=>.int (i + j)):=C2 fun _ _ _ _ _ _ _ q=>add_int q
theorem GN:mw X (binaryOp .Sub) (vC fun i j=>.int (i - j)):=C2 fun _ _ _ _ _ _ _ q=>sub_int q
theorem jc:mw X (binaryOp .Mult) (rI A7 fun i j=>.int (i * j)):=IZ fun _ _ _ _ _ _ _ hc q=>mul_int q hc.ok
theorem m8:mw X (binaryOp .FloorDiv) (rI Eh fun i j=>.int (i / j)):=IZ fun i j _ _ _ _ _ hc q=>by
 have h1:(0:Int) < j:=hc.1
 have h2:j < 1073741824:=hc.2
 exact floordiv_int (by omega) (by rw[Int.fdiv_eq_ediv_of_nonneg i (by omega)];exact q) (.inl (PyProof.noPylong_small (by omega)))
theorem mP:mw X (binaryOp .Mod) (rI (fun _ j=>0 < j) fun i j=>.int (i % j)):=IZ fun i j _ _ _ _ _ hc q=>by
 have h1:(0:Int) < j:=hc
 exact mod_int' (by omega) (by rw[Int.fmod_eq_emod_of_nonneg i (by omega)];exact q)
theorem E5:mw X (binaryOp .LShift) (rI E8 fun i j=>.int (i * 2 ^ j.toNat)):=IZ fun _ _ _ _ _ _ _ hc q=>lshift_int_small hc.1 hc.2.1 hc.2.2 q
theorem Fv:mw X (binaryOp .BitAnd) (vC fun i j=>.int (Builtin.bitAnd i j)):=C2 fun _ _ _ _ _ _ _ q=>and_int q
theorem Ey:mw X (binaryOp .BitOr) (vC fun i j=>.int (Builtin.bitOr i j)):=C2 fun _ _ _ _ _ _ _ q=>or_int q
theorem Kz {f:Value->Sem Value}{g:Int->Int}
  (rule:∀(i:Int) (t:Tok) (s:Shared) (Q:Value->Shared->Prop) (E:Value->Shared->Prop),Q (.int (g i) s.toks) {s with toks:=s.toks + 1}->wpAny (model X.prog X.w) X.A (f (.int i t)) Q E s) :
  IV X f (rU fun i=>.int (g i)):=by
 intro pins s σ H x v Q I rx h
 obtain⟨i,rfl,q⟩:=h
 obtain⟨t,rfl⟩:=rx
 exact rule i t s _ _ ⟨.int (g i),H,I.tok _,⟨_,rfl⟩,q⟩
theorem uz:IV X (unaryOp .USub) (rU fun i=>.int (-i)):=Kz fun _ _ _ _ _ q=>neg_int q
end
section
variable {X:Cx}{a b c:Expr}{ta tb tc:TE}{pos:Pos}
theorem u9:mw X (compareOp .Lt) (vC fun i j=>.bl (decide (i < j))):=GO fun _ _ _ _ _ _ _ q=>lt_int q
theorem Cf:mw X (compareOp .LtE) (vC fun i j=>.bl (decide (i<=j))):=GO fun _ _ _ _ _ _ _ q=>le_int q
theorem B9:mw X (compareOp .Gt) (vC fun i j=>.bl (decide (j < i))):=GO fun _ _ _ _ _ _ _ q=>gt_int q
theorem aS (b:Expr){op:CmpOp}(h:op≠.In:=by decide)(h2:op≠.NotIn:=by decide):behindInMarks op b=false:=by
 have e1:(op == CmpOp.In)=false:=by cases op <;> first |rfl |exact absurd rfl h
 have e2:(op == CmpOp.NotIn)=false:=by cases op <;> first |rfl |exact absurd rfl h2
 cases b <;> simp[behindInMarks,e1,e2]
theorem Df {op:CmpOp}{r:R2}(ho:mw X (compareOp op) r)(ha:PE X a ta)(hb:PE X b tb)(hm:behindInMarks op b=false):PE X (.Compare a [op] [b] pos) (IS r ta tb):=by
 intro pins s σ H Q I h
 exact wpAny_Compare1 (FW ha hb I h fun v u s2 x y H2 I2 rx ry q=>ho pins s2 σ H2 x y v u Q I2 rx ry q) hm
def Hx (t:TE):TT:=fun σ H Q=>t σ H fun x H'=>∃k,x=.bl k/\Q k H'
theorem CV {op:CmpOp}{r:R2}(ho:mw X (compareOp op) r)(ha:PE X a ta)(hb:PE X b tb)(hm:behindInMarks op b=false):PT X (.Compare a [op] [b] pos) (Hx (IS r ta tb)):=by
 intro pins s σ H Q I h
 refine wpAny_isTrue_Compare1 (cS (ha pins s σ H _ I h) fun v s1 ⟨x,H1,I1,r1,q1⟩=>cS (hb pins s1 σ H1 _ I1 q1) fun u s2 ⟨y,H2,I2,r2,q2⟩=>
  cS (ho pins s2 σ H2 x y v u _ I2 r1 r2 q2) fun c s3 ⟨z,H3,I3,r3,k,e,q3⟩=>?_) hm
 subst e
 cases r3
 exact wpAny_truthy_bool ⟨H3,I3,q3⟩
def E9 (r r':R2)(ta tb tc:TE):TE:=fun σ H Q=>ta σ H fun x H1=>tb σ H1 fun y H2=>r x y H2 fun z H3=>∃k,z=.bl k/\
 (if k=true then tc σ H3 fun w' H4=>r' y w' H4 Q else Q (.bl false) H3)
theorem A3 {op op':CmpOp}{r r':R2}(ho:mw X (compareOp op) r)(ho':mw X (compareOp op') r')(ha:PE X a ta)(hb:PE X b tb)(hc:PE X c tc)
  (hm:lastMarks [op,op'] [b,c]=false:=by with_unfolding_all rfl):PE X (.Compare a [op,op'] [b,c] pos) (E9 r r' ta tb tc):=by
 intro pins s σ H Q I h
 refine Compare_chain (cS (ha pins s σ H _ I h) fun v s1 ⟨x,H1,I1,r1,q1⟩=>chain_link (cS (hb pins s1 σ H1 _ I1 q1) fun u s2 ⟨y,H2,I2,r2,q2⟩=>
  cS (ho pins s2 σ H2 x y v u _ I2 r1 r2 q2) fun d s3 ⟨z,H3,I3,r3,k,e,q3⟩=>?_)) hm
 subst e
 cases r3
 refine wpAny_truthy_bool ?_
 cases k with
 |false=>exact ite_ff ⟨.bl false,H3,I3,rfl,q3⟩
 |true=>exact ite_tt (chain_last (cS (hc pins s3 σ H3 _ I3 q3) fun w' s4 ⟨z',H4,I4,r4,q4⟩=>ho' pins s4 σ H4 y z' u w' Q I4 r2 r4 q4))
def Hq (K:Frag)(x:V)(H:Hp)(k:Bool):Prop:=
 match x with
 | .non=>k=false
 | .bl b=>k=b
 | .int i=>k=(i != 0)
 | .str y=>y.length<=sizeLine/\k=((y.length:Int) != 0)
 | .byt y=>y.size<=sizeLine/\k=((y.size:Int) != 0)
 | .ref p=>(∃xs,hX K H p xs/\k= !xs.isEmpty)\/(∃xs,gJ K H p xs/\k= !xs.isEmpty)\/∃kvs,H p=some (.dK kvs)/\k= !kvs.isEmpty
 |_=>False
theorem wI {κ:Type}{kvs:List (κ×V)}{vs:List (κ×Value)}(r:KV kvs vs):(!vs.isEmpty)= !kvs.isEmpty:=by
 cases r <;> rfl
theorem qq {xs:List V}{its:List Value}(r:Vals xs its):(!its.toArray.isEmpty)= !xs.isEmpty:=by
 cases r <;> simp
theorem oj:(sizeLine:Nat) < 2 ^ 63:=by rw[sizeLine_eq];decide
theorem EZ:Jn X (fun x H Q=>∃k,Hq X.K x H k/\Q k H):=by
 intro pins s σ H x v Q I rx h
 obtain⟨k,e,q⟩:=h
 have hl:=oj
 have hs:sizeLine=16777216:=sizeLine_eq
 cases x with
 |non=>
  cases rx
  have e':k=false:=e
  subst e'
  exact truthy_none ⟨H,I,q⟩
 |bl b=>
  cases rx
  have e':k=b:=e
  subst e'
  exact wpAny_truthy_bool ⟨H,I,q⟩
 |int i=>
  obtain⟨t,rfl⟩:=rx
  have e':k=(i != 0):=e
  subst e'
  exact PySem.P.truthy_int ⟨H,I,q⟩
 |str y=>
  obtain⟨t,rfl⟩:=rx
  obtain⟨hy,e'⟩:y.length<=sizeLine/\k=((y.length:Int) != 0):=e
  subst e'
  exact PySem.P.truthy_str (by omega) ⟨H,I.tok _,q⟩
 |byt y=>
  obtain⟨t,rfl⟩:=rx
  obtain⟨hy,e'⟩:y.size<=sizeLine/\k=((y.size:Int) != 0):=e
  subst e'
  exact PySem.W.truthy_bytes (by omega) ⟨H,I.tok _,q⟩
 |ref p=>
  cases rx
  have e':(∃xs,hX X.K H p xs/\k= !xs.isEmpty)\/(∃xs,gJ X.K H p xs/\k= !xs.isEmpty)\/∃kvs,H p=some (.dK kvs)/\k= !kvs.isEmpty:=e
  rcases e' with⟨xs,hx,e'⟩ | ⟨xs,hx,e'⟩ | ⟨kvs,hx,e'⟩
  ·subst e'
   obtain⟨its,r,pl,hz⟩:=I.list hx
   have hlen:=r.length
   exact wpAny_truthy_list pl.isList (by simp only[size_toArray];omega) ⟨H,I.tok _,by rw[qq r];exact q⟩
  ·subst e'
   obtain⟨its,r,pl,hz⟩:=I.tuple hx
   have hlen:=r.length
   exact truthy_tuple pl (by simp only[size_toArray];omega) ⟨H,I.tok _,by rw[qq r];exact q⟩
  ·subst e'
   obtain⟨hz,hS,vs,r,m⟩:kvs.length<=sizeLine/\(p == sysModules)=false/\∃vs,KV kvs vs/\s.heap.DictOf (uC X.prog X.w) p vs:=I.hok p _ hx
   have hlen:kvs.length=vs.length:=Paired.length r
   exact wpAny_truthy_dict hS m (by omega) ⟨H,I.tok _,by rw[wI r];exact q⟩
 |_=>exact (show False from e).elim
theorem Cz (ha:PE X a ta)(he:∀whole,isTrue a X.env whole=(do let v <-whole;standAt a.pos;holding [v] (truthy v))) :
  PT X a (fun σ H Q=>ta σ H fun x H'=>∃k,Hq X.K x H' k/\Q k H'):=by
 intro pins s σ H Q I h
 exact isTrue_plain (cS (ha pins s σ H _ I h) fun v s1 ⟨x,H1,I1,r1,q1⟩=>EZ pins s1 σ H1 x v Q I1 r1 q1) (he _)
theorem vals1 {x:V}{us:List Value}(r:Vals [x] us):∃u,us= [u]/\RelV x u:=by
 cases r with
 |cons r1 r2=>cases r2;exact⟨_,rfl,r1⟩
theorem vals2 {x y:V}{us:List Value}(r:Vals [x,y] us):∃u w',us= [u,w']/\RelV x u/\RelV y w':=by
 cases r with
 |cons r1 r2=>
  cases r2 with
  |cons r3 r4=>cases r4;exact⟨_,_,rfl,r1,r3⟩
theorem AN:cY X (.builtin "abs") (fun xs H Q=>∃i,xs= [.int i]/\Q (.int (if i < 0 then -i else i)) H):=by
 intro pins s σ H xs us Q I r h
 obtain⟨i,rfl,q⟩:=h
 obtain⟨u,rfl,t,rfl⟩:=vals1 r
 exact call_abs_int fun u tk=>⟨.int (if i < 0 then -i else i),H,I.tok _,⟨_,rfl⟩,q⟩
theorem zX (hc:X.calm=true):cY X (.builtin "max") (fun xs H Q=>∃i j,xs= [.int i,.int j]/\Q (.int (if j > i then j else i)) H):=by
 intro pins s σ H xs us Q I r h
 obtain⟨i,j,rfl,q⟩:=h
 obtain⟨u,w',rfl,⟨t,rfl⟩,⟨t',rfl⟩⟩:=vals2 r
 refine max_two_ints (I.ok.hd hc) fun h' tk k=>⟨_,H,I.kept k,?_,q⟩
 by_cases hj:j > i
 ·rw[if_pos hj,if_pos hj];exact⟨_,rfl⟩
 ·rw[if_neg hj,if_neg hj];exact⟨_,rfl⟩
theorem zS (hc:X.calm=true):cY X (.builtin "min") (fun xs H Q=>∃i j,xs= [.int i,.int j]/\Q (.int (if j < i then j else i)) H):=by
 intro pins s σ H xs us Q I r h
 obtain⟨i,j,rfl,q⟩:=h
 obtain⟨u,w',rfl,⟨t,rfl⟩,⟨t',rfl⟩⟩:=vals2 r
 refine min_two_ints (I.ok.hd hc) fun h' tk k=>⟨_,H,I.kept k,?_,q⟩
 by_cases hj:j < i
 ·rw[if_pos hj,if_pos hj];exact⟨_,rfl⟩
 ·rw[if_neg hj,if_neg hj];exact⟨_,rfl⟩
theorem z0:cY X (.type "int") (fun xs H Q=>(∃i,xs= [.int i]/\Q (.int i) H)\/∃k,xs= [.bl k]/\Q (.int (if k then 1 else 0)) H):=by
 intro pins s σ H xs us Q I r h
 rcases h with⟨i,rfl,q⟩ | ⟨k,rfl,q⟩
 ·obtain⟨u,rfl,t,rfl⟩:=vals1 r
  exact call_int_int ⟨.int i,H,I,⟨_,rfl⟩,q⟩
 ·obtain⟨u,rfl,r1⟩:=vals1 r
  cases r1
  exact call_int_bool ⟨.int (if k then 1 else 0),H,I.tok _,⟨_,rfl⟩,q⟩
def HJ (K:Frag)(x:V)(H:Hp)(n:Nat):Prop:=
 match x with
 | .str y=>y.length<=sizeLine/\n=y.length
 | .byt y=>y.size<=sizeLine/\n=y.size
 | .ref p=>(∃xs,hX K H p xs/\n=xs.length)\/∃xs,gJ K H p xs/\n=xs.length
 |_=>False
theorem bO:cY X (.builtin "len") (fun xs H Q=>∃x n,xs= [x]/\HJ X.K x H n/\Q (.int n) H):=by
 intro pins s σ H xs us Q I r h
 obtain⟨x,n,rfl,e,q⟩:=h
 obtain⟨u,rfl,rx⟩:=vals1 r
 have hl:=oj
 have hs:sizeLine=16777216:=sizeLine_eq
 cases x with
 |str y=>
  obtain⟨t,rfl⟩:=rx
  obtain⟨hy,e'⟩:y.length<=sizeLine/\n=y.length:=e
  subst e'
  exact len_str (by omega) ⟨.int _,H,I.tok _,⟨_,rfl⟩,q⟩
 |byt y=>
  obtain⟨t,rfl⟩:=rx
  obtain⟨hy,e'⟩:y.size<=sizeLine/\n=y.size:=e
  subst e'
  exact PySem.W.len_bytes (by omega) ⟨.int _,H,I.tok _,⟨_,rfl⟩,q⟩
 |ref p=>
  cases rx
  have e':(∃xs,hX X.K H p xs/\n=xs.length)\/∃xs,gJ X.K H p xs/\n=xs.length:=e
  rcases e' with⟨xs,hx,e'⟩ | ⟨xs,hx,e'⟩
  ·subst e'
   obtain⟨its,r',pl,hz⟩:=I.list hx
   have hlen:=r'.length
   exact Calls.call_len_list pl.isList (by simp only[size_toArray];omega) ⟨.int xs.length,H,I.tok _,⟨_,by simp only[size_toArray];rw[hlen]⟩,q⟩
  ·subst e'
   obtain⟨its,r',pl,hz⟩:=I.tuple hx
   have hlen:=r'.length
   exact len_tuple pl (by simp only[size_toArray];omega) ⟨.int xs.length,H,I.tok _,⟨_,by simp only[size_toArray];rw[hlen]⟩,q⟩
 |_=>exact (show False from e).elim
theorem uV:cY X (.builtin "divmod") (fun xs H Q=>∃i j,xs= [.int i,.int j]/\Eh i j/\∀p,H p=none->Q (.ref p) (upd H p (.tup [.int (i / j),.int (i % j)]))):=by
 intro pins s σ H xs us Q I r h
 obtain⟨i,j,rfl,⟨h1,h2⟩,q⟩:=h
 obtain⟨u,w',rfl,⟨t,rfl⟩,⟨t',rfl⟩⟩:=vals2 r
 refine divmod_int (by omega) ?_ (.inl (PyProof.noPylong_small (by omega)))
 rw[Int.fdiv_eq_ediv_of_nonneg i (by omega),Int.fmod_eq_emod_of_nonneg i (by omega)]
 have hn:H s.heap.objs.size=none:=I.hok.fresh (Nat.le_refl _)
 refine⟨.ref s.heap.objs.size,_,?_,rfl,q _ hn⟩
 refine I.laid (fun b o e=>Heap.get?_push_of_some _ e) (Nat.le_refl _) ⟨by simp only[length_cons,List.length_nil];rw[sizeLine_eq];decide,[.int (i / j) s.toks,.int (i % j) (s.toks + 1)],.cons ⟨_,rfl⟩ (.cons ⟨_,rfl⟩ .nil),?_⟩
 exact⟨_,Heap.get?_push_size s.heap rfl,rfl,0,rfl,rfl⟩
end
structure FD (h:Heap)(x dx C:Addr)(mA:Str->Option Value):Prop where
 obj:h.get? x=some (PySem.W.instObj C dx)
 ns:h.Ns1 dx mA
 ne:dx≠x
theorem zY {h:Heap}{dx:Addr}{mA:Str->Option Value}(n:h.Ns1 dx mA):∃od,h.get? dx=some od/\∀name,PySem.W.lookIn name od=some (mA name):=by
 obtain⟨o,es,ep,ho,hd,hk,_,hm⟩:=n
 refine⟨o,ho,fun name=>?_⟩
 have e:=hm name
 unfold nsFind findBy at e
 rw[<-Array.find?_toList] at e
 unfold PySem.W.lookIn
 rw[hd]
 dsimp only
 split
 ·rename_i y q
  rw[q] at e
  exact congrArg some e
 ·rename_i q
  rw[q] at e
  have a:es.toList.any (·.refKey)=false:=by
   rw[List.any_eq_false]
   intro y hy
   obtain⟨z,t,hkey⟩:=hk y (Array.mem_toList_iff.mp hy)
   simp[DictEntry.refKey,hkey]
  have a':¬es.toList.any (·.refKey)=true:=by rw[a];exact Bool.false_ne_true
  rw[if_neg a']
  exact congrArg some e
theorem FD.look {h:Heap}{x dx C:Addr}{mA:Str->Option Value}(I:FD h x dx C mA):∃od,PySem.W.InstAt h x (PySem.W.instObj C dx) C (some od)/\∀name,PySem.W.lookIn name od=some (mA name):=
 let ⟨od,ho,hl⟩:=zY I.ns
 ⟨od,⟨I.obj,rfl,rfl,ho⟩,hl⟩
section
variable {P:Program}{w:World}{H H':Hp}{h h':Heap}{a C dx:Addr}{fs fs':List (Str×V)}
theorem C9 (hok:mR P w H h)(e:H a=some (.ins C dx fs)):∃mA,FD h a dx C mA/\(∀f,Gy (fs.lookup f) (mA f))/\PySem.Within mA (fs.map (·.1))/\fs.length<=1000/\H dx=some (.own a):=by
 obtain⟨d,z,ne,ob,mA,n,r,q⟩:=(show cL P w H h a (.ins C dx fs) from hok a _ e)
 exact⟨mA,⟨ob,n,ne⟩,r,q,z,d⟩
end
structure Ke (K:Frag)(C:Addr):Prop where
 pg:PySem.W.plainGet K C Str.empty=true
 hd:PySem.W.hasDictIn K C=true
 po:PySem.W.plainOver K C=true
 sa:PySem.W.findIn K (.ref C) "__setattr__"=some (some (.builtin "object.__setattr__"))
theorem Ke.get {K:Frag}{C:Addr}(c:Ke K C)(f:Str):PySem.W.plainGet K C f=true:=c.pg
section
variable {X:Cx}{pins:List (Addr×Obj)}{σ:St}{H:Hp}{s:Shared}{A:Around}{E:Value->Shared->Prop}{Q:Value->Shared->Prop}{c:Value}{b:Bool}
inductive oO (K:Frag)(H:Hp):V->Value->Prop where
 |non:oO K H .non (.type "NoneType")
 |bl (x:Bool):oO K H (.bl x) (.type "bool")
 |int (i:Int):oO K H (.int i) (.type "int")
 |str (x:Str):oO K H (.str x) (.type "str")
 |flt (x:UInt64):oO K H (.flt x) (.type "float")
 |lst {a:Addr} {xs:List V} (e:H a=some (.lst xs)):oO K H (.ref a) (.type "list")
 |bp {a:Addr} {o:Obj} {xs:List V} (e:H a=some (.bp o (.lst xs))):oO K H (.ref a) (.type "list")
 |tup {a:Addr} {xs:List V} (e:H a=some (.tup xs)):oO K H (.ref a) (.type "tuple")
 |dK {a:Addr} {kvs:List (Key×V)} (e:H a=some (.dK kvs)):oO K H (.ref a) (.type "dict")
 |dT {a:Addr} {kvs:List (List Key×V)} (e:H a=some (.dT kvs)):oO K H (.ref a) (.type "dict")
 |ins {a C dx:Addr} {fs:List (Str×V)} (e:H a=some (.ins C dx fs)) (cl:Ke K C) (ha:PySem.W.findIn K (.ref C) "__class__"=some (some (.builtin "object.__class__")))
   (hn:PySem.W.specialIn K (.builtin "object.__class__") "__get__"=some (some (.builtin "getset_descriptor.__get__"))) (htk:PySem.W.takesIn K (.builtin "object.__class__")=some true)
   (hm:PySem.W.mroIn K C (.type "object")=some true):oO K H (.ref a) (.ref C)
theorem j7 {x:V}{u t:Value}(I:Inv X pins σ H s)(rx:RelV x u)(ty:oO X.K H x t)(e:PySem.W.kitOne X.K t c=some b)(h:∀tk,Q (.bool b) {s with toks:=tk}) :
  wpAny (model X.prog X.w) A (call (.builtin "isinstance") [u,c]) Q E s:=by
 cases ty with
 |non=>cases (show u=Value.none from rx);exact PySem.W.kia_one PySem.W.kitx_none I.kIn True.intro e (fun z=>nomatch z) h
 |bl y=>cases (show u=Value.bool y from rx);exact PySem.W.kia_one PySem.W.kitx_bool I.kIn True.intro e (fun z=>nomatch z) h
 |int i=>obtain⟨t,q⟩:=(show ∃t,u=Value.int i t from rx);cases q;exact PySem.W.kia_one PySem.W.kitx_int I.kIn True.intro e (fun z=>nomatch z) h
 |str y=>obtain⟨t,q⟩:=(show ∃t,u=Value.str y t from rx);cases q;exact PySem.W.kia_one PySem.W.kitx_str I.kIn True.intro e (fun z=>nomatch z) h
 |flt y=>obtain⟨t,q⟩:=(show ∃t,u=Value.float y t from rx);cases q;exact PySem.W.kia_one PySem.W.kitx_float I.kIn True.intro e (fun z=>nomatch z) h
 | @lst a xs ea=>
  cases (show u=Value.ref a from rx)
  obtain⟨_,_,n,_,h1⟩:=(show cL X.prog X.w H s.heap a (.lst xs) from I.hok a _ ea)
  exact PySem.W.kia_one PySem.W.kitx_list I.kIn ⟨_,h1,rfl⟩ e (fun z=>nomatch z) h
 | @bp a ob xs ea=>
  cases (show u=Value.ref a from rx)
  obtain⟨_,_,_,n,_,h1⟩:=(show cL X.prog X.w H s.heap a (.bp ob (.lst xs)) from I.hok a _ ea)
  exact PySem.W.kia_one PySem.W.kitx_list I.kIn ⟨_,h1,rfl⟩ e (fun z=>nomatch z) h
 | @tup a xs ea=>
  cases (show u=Value.ref a from rx)
  obtain⟨_,_,_,p⟩:=(show cL X.prog X.w H s.heap a (.tup xs) from I.hok a _ ea)
  obtain⟨o,h1,h2,_⟩:=p
  exact PySem.W.kia_one PySem.W.kitx_tuple I.kIn ⟨o,h1,h2⟩ e (fun z=>nomatch z) h
 | @dK a kvs ea=>
  cases (show u=Value.ref a from rx)
  obtain⟨_,_,vs,_,p⟩:=(show cL X.prog X.w H s.heap a (.dK kvs) from I.hok a _ ea)
  obtain⟨o,es,ep,h1,h2,_⟩:=p
  exact PySem.W.kia_one PySem.W.kitx_dict I.kIn ⟨o,h1,h2.1⟩ e (fun z=>nomatch z) h
 | @dT a kvs ea=>
  cases (show u=Value.ref a from rx)
  obtain⟨_,_,xs,_,o,es,ep,h1,h2,_⟩:=(show cL X.prog X.w H s.heap a (.dT kvs) from I.hok a _ ea)
  exact PySem.W.kia_one PySem.W.kitx_dict I.kIn ⟨o,h1,h2.1⟩ e (fun z=>nomatch z) h
 | @ins a C dx fs ea cl ha hn htk hm=>
  cases (show u=Value.ref a from rx)
  obtain⟨mA,O,_⟩:=C9 I.hok ea
  obtain⟨od,J,_⟩:=O.look
  exact PySem.W.kia_one (PySem.W.kitx_own (cl.get _) cl.hd ha hn htk hm) I.kIn J e (fun z=>nomatch z) h
end
structure gy (k:Nat)(A:Around):Prop where
 hd:A.handled=none
 dp:A.depth + 3 * k + 5 < recursionLimit
 un:A.units + 16 * k + 200 < cLine
 gd:A.guards=some []
theorem gy.mono {j k:Nat}{A:Around}(r:gy k A)(h:j<=k):gy j A:=⟨r.hd,by have:=r.dp;omega,by have:=r.un;omega,r.gd⟩
theorem gy.deeper {k:Nat}{A:Around}(r:gy (k + 1) A)(env:Env):gy k (A.deeper env):=
 ⟨r.hd,by have:=r.dp;show A.depth + 1 + 3 * k + 5 < _;omega,by have:=r.un;show A.units + 3 + 16 * k + 200 < _;omega,r.gd⟩
theorem gy.depth {k:Nat}{A:Around}(r:gy k A):A.depth < recursionLimit:=by have:=r.dp;omega
theorem gy.units {k:Nat}{A:Around}(r:gy k A):A.units + 64 < cLine:=by have:=r.un;omega
def JJ:TA:=fun _ H Q=>Q [] H
def HN (ta:TE)(tr:TA):TA:=fun σ H Q=>ta σ H fun x H1=>tr σ H1 fun xs H2=>Q (x :: xs) H2
section
variable {X:Cx}{e:Expr}{es:List Expr}{te:TE}{t:TA}{pos:Pos}
theorem bM:PA X [] JJ:=fun _ _ _ _ H Q I h=>Calls.spliced_nil ⟨[],H,I,.nil,h⟩
theorem aX (ha:PE X e te)(hr:PA X es t)(hs:starEach (e :: es) X.env=(false,eval e X.env) :: starEach es X.env:=by rfl):PA X (e :: es) (HN te t):=by
 intro pos pins s σ H Q I h
 rw[hs]
 show wpAny _ _ (spliced ((false,eval e X.env) :: backTo pos (starEach es X.env))) _ _ s
 refine Calls.spliced_cons (cS (ha pins s σ H _ I h) fun u s1 ⟨x,H1,I1,r1,q1⟩=>?_)
 exact cS (hr pos pins s1 σ H1 _ I1 q1) fun us s2 ⟨xs,H2,I2,r2,q2⟩=>⟨x :: xs,H2,I2,.cons r1 r2,q2⟩
def JK (t:TA):TE:=fun σ H Q=>t σ H fun xs H1=>xs.length<=sizeLine/\∀p,H1 p=none->Q (.ref p) (upd H1 p (.tup xs))
def J8 (t:TA):TE:=fun σ H Q=>t σ H fun xs H1=>xs.length<=sizeLine/\∀p,H1 p=none->Q (.ref p) (upd H1 p (.lst xs))
theorem xV {x1}(h:PA X es t):PE X (.Tuple es x1 pos) (JK t):=by
 intro pins s σ H Q I hq
 refine wpAny_Tuple_spliced (cS (h pos pins s σ H _ I hq) fun us s1 ⟨xs,H1,I1,r,z,q⟩=>⟨by rw[<-r.length];exact z,?_⟩)
 have hf:H1 s1.heap.objs.size=none:=I1.hok.fresh (Nat.le_refl _)
 refine⟨.ref s1.heap.objs.size,upd H1 s1.heap.objs.size (.tup xs),I1.laid (t':=s1.toks) (fun b u e=>Heap.get?_push_of_some _ e) (Nat.le_refl _) ?_,rfl,q _ hf⟩
 exact⟨z,us,r,uw.new _ _⟩
theorem AL (h:PA X es t):PE X (.List es pos) (J8 t):=by
 intro pins s σ H Q I hq
 refine wpAny_List_spliced (cS (h pos pins s σ H _ I hq) fun us s1 ⟨xs,H1,I1,r,z,q⟩=>⟨by rw[<-r.length];exact z,?_⟩)
 have hf:H1 s1.heap.objs.size=none:=I1.hok.fresh (Nat.le_refl _)
 refine⟨.ref s1.heap.objs.size,upd H1 s1.heap.objs.size (.lst xs),I1.laid (t':=s1.toks) (fun b u e=>Heap.get?_push_of_some _ e) (Nat.le_refl _) ?_,rfl,q _ hf⟩
 exact⟨z,us,0,r,Heap.get?_push_size _ rfl⟩
end
abbrev Sp:=List V->Hp->VK->XK->Prop
abbrev z8:=List Env->Hp->Shared->XK->Value->Shared->Prop
structure DB (P:Program)(w:World)(K:Frag)(mg:Str->Option Value)(base:Heap)(A:Around)(outer:List Env)(s:Shared)(H:Hp):Prop where
 frames:A.frames=some outer
 mod:Mod K mg base
 bs:∀b o,base.get? b=some o->s.heap.get? b=some o/\H b=none
 bsz:base.objs.size<=s.heap.objs.size
 funs:s.heap.FunFrames base outer
 frf:∀b∈jU outer,H b=none
 hok:mR P w H s.heap
 bare:AllBare s.gens
def CE (outer:List Env)(P:Program)(w:World)(H:Hp)(s:Shared)(Q:VK)(u:Value)(s':Shared):Prop:=
 ∃v H',s'.os=s.os/\AllBare s'.gens/\Un (jU outer) [] H H' s.heap s'.heap/\mR P w H' s'.heap/\RelV v u/\Q v H'
def CR (CX:z8)(outer:List Env)(P:Program)(w:World)(H:Hp)(s:Shared)(Q:VK)(E:XK)(r:Result)(s':Shared):Prop:=
 match r with
 | .ok (.ret u)=>CE outer P w H s Q u s'
 | .ok _=>False
 | .error e=>CX outer H s E e s'
structure gP (P:Program)(w:World)(K:Frag)(mg:Str->Option Value)(base:Heap)(CX:z8)(k:Nat)(f:Addr)(fd:FuncData)(ps:List Str)(sp:Sp):Prop where
 len:∀vs H Q E,sp vs H Q E->vs.length=ps.length
 run:∀(A:Around) (outer:List Env) (s:Shared) (H:Hp) (args:Args) (us:List Value) (vs:List V) (Q:VK) (E:XK),gy k A->DB P w K mg base A outer s H->BindsTo s fd args (ps.zip us)->Vals vs us->sp vs H Q E->
  codeAny (model P w) A (.call (.ref f) args) (CR CX outer P w H s Q E) s
theorem gP.mono {P:Program}{w:World}{K:Frag}{mg:Str->Option Value}{base:Heap}{CX:z8}{j k:Nat}{f:Addr}{fd:FuncData}{ps:List Str}{sp:Sp}(F:gP P w K mg base CX j f fd ps sp)(h:j<=k) :
  gP P w K mg base CX k f fd ps sp:=⟨F.len,fun A outer s H args us vs Q E hr=>F.run A outer s H args us vs Q E (hr.mono h)⟩
theorem gP.imp {P:Program}{w:World}{K:Frag}{mg:Str->Option Value}{base:Heap}{CX:z8}{k:Nat}{f:Addr}{fd:FuncData}{ps:List Str}{sp sp':Sp}(F:gP P w K mg base CX k f fd ps sp)
  (h:∀vs H Q E,sp' vs H Q E->sp vs H Q E):gP P w K mg base CX k f fd ps sp':=
 ⟨fun vs H Q E q=>F.len vs H Q E (h _ _ _ _ q),fun A outer s H args us vs Q E hr he hb hv hs=>F.run A outer s H args us vs Q E hr he hb hv (h _ _ _ _ hs)⟩
section
variable {X:Cx}{pins:List (Addr×Obj)}{σ:St}{H:Hp}{s s':Shared}
theorem Inv.env0 (I:Inv X pins σ H s):DB X.prog X.w X.K X.mg X.base X.A X.stack s H:=
 ⟨I.ok.frames,I.ok.mod,I.bs,Nat.le_trans I.ok.bsz I.sz,I.stack,I.stkFree,I.hok,I.bare⟩
theorem Inv.after {Q:VK}{u:Value}(I:Inv X pins σ H s)(h:CE X.stack X.prog X.w H s Q u s'):EP X pins σ Q u s':=by
 obtain⟨v,H',os,bare,un,hok,r,q⟩:=h
 obtain⟨hh,g,d,t,os'⟩:=s'
 obtain rfl:os'=s.os:=os
 exact⟨v,H',I.call (h':=hh) (g':=g) (d':=d) (t':=t) (ch:=[]) un hok bare (fun b z=>absurd z (by simp)),r,q⟩
end
def Iw (sp:Sp)(dvs:List V)(E:XK)(t:TA):TE:=fun σ H Q=>t σ H fun vs H1=>sp (vs ++ dvs) H1 Q E
def Binds (K:Frag)(fd:FuncData)(ps:List Str)(ds:List Value):Prop:=
 ∀(s:Shared) (us:List Value),K.In s.heap->(us ++ ds).length=ps.length->BindsTo s fd ⟨us,[]⟩ (ps.zip (us ++ ds))
theorem Binds.all {K:Frag}{fd:FuncData}{ps:List Str}(h:∀us:List Value,us.length=ps.length->bindArgs fd ⟨us,[]⟩=pure (ps.zip us)):Binds K fd ps []:=fun s us _ hl=>by
 rw[append_nil] at hl ⊢
 exact .of_eq (h us hl)
def Passes (CX:z8)(X:Cx)(E:XK):Prop:=∀(pins:List (Addr×Obj)) (σ:St) (H:Hp) (s:Shared) (e:Value) (s':Shared),Inv X pins σ H s->CX X.stack H s E e s'->X.xe e s'
section
variable {X:Cx}{CX:z8}{k:Nat}{f C:Addr}{fd:FuncData}{ps:List Str}{sp:Sp}{dvs:List V}{ds:List Value}{E:XK}{x m:Str}{p pos apos:Pos}{e o:Expr}{es:List Expr}{ta:TE}{t:TA}
theorem FZ {pins:List (Addr×Obj)}{σ:St}{H:Hp}{s:Shared}{Q:VK}{us:List Value}{vs:List V}(F:gP X.prog X.w X.K X.mg X.base CX k f fd ps sp)(hr:gy k X.A)(hb:Binds X.K fd ps ds)(hd:Vals dvs ds)(hx:Passes CX X E)
  (I:Inv X pins σ H s) (r:Vals vs us) (h:sp (vs ++ dvs) H Q E):wpAny (model X.prog X.w) X.A (call (.ref f) us) (EP X pins σ Q) X.xe s:=by
 have r2:Vals (vs ++ dvs) (us ++ ds):=r.append hd
 have hl:(us ++ ds).length=ps.length:=by rw[<-r2.length];exact F.len _ _ _ _ h
 refine wpAny_call (codeAny_mono (F.run X.A X.stack s H ⟨us,[]⟩ (us ++ ds) (vs ++ dvs) Q E hr I.env0 (hb s us I.kIn hl) r2 h) fun r s' hq=>?_)
 cases r with
 |error e=>exact hx pins σ H s e s' I hq
 |ok fl=>
  cases fl with
  |ret u=>exact I.after hq
  |next=>exact False.elim hq
  |brk=>exact False.elim hq
  |cont=>exact False.elim hq
theorem o6 (F:gP X.prog X.w X.K X.mg X.base CX k f fd ps sp)(hr:gy k X.A)(hg:Gl X x)(hm:X.mg x=some (.ref f))(hk:PySem.W.keepIn X.K (.ref f)=true)(hb:Binds X.K fd ps ds)(hd:Vals dvs ds)(hx:Passes CX X E)
  (ha:PA X (e :: es) t) (hdb:(x == ("__debug__":Str))=false:=by decide) (he:starEach (e :: es) X.env=(false,eval e X.env) :: starEach es X.env:=by rfl) (hpl:(backTo pos (starEach es X.env)).any (·.1)=false:=by rfl) :
  PE X (.Call (.Name x p) (e :: es) [] pos) (Iw sp dvs E t):=by
 intro pins s σ H Q I h
 refine wpAny_Call_Name_kw (ua I hg hm ?_ hdb)
 refine PySem.W.callWith_K (h₀:=X.base) I.ok.mod.kin hk (cS (ha pos pins s σ H _ I h) fun us s1 ⟨vs,H1,I1,r,q⟩=>⟨I1.kIn,?_⟩) he hpl
 exact FZ F hr hb hd hx I1 r q
end
structure aJ (N P:List Str)(sc:Scope):Prop where
 kind:sc.kind=.function
 co:sc.isCoroutine=false
 gen:sc.isGenerator=false
 nd:N.Nodup
 pre:N.take P.length=P
 par:∀x∈P,sc.names.lookup x=some .local\/sc.names.lookup x=some .cell
 nofree:∀y∈sc.names,y.2≠.free
theorem sF {kindOf:Str->Option NameKind}{x:Str}:∀{binds:List (Str×Value)} {m:Str->Option Value},(∀v,(x,v)∉binds)->bindL kindOf binds m x=m x
 | [],_,_=>rfl
 | (n,v) :: r,m,h=>by
  unfold bindL
  rw[sF fun w hw=>h w (mem_cons_of_mem _ hw)]
  split
  ·have:x≠n:=by rintro rfl;exact h v mem_cons_self
   simp[this]
  ·rfl
theorem rO {kindOf:Str->Option NameKind}{x:Str}:∀{binds:List (Str×Value)} {m:Str->Option Value},(∀v,(x,v)∉binds)->bindC kindOf binds m x=m x
 | [],_,_=>rfl
 | (n,v) :: r,m,h=>by
  unfold bindC
  rw[rO fun w hw=>h w (mem_cons_of_mem _ hw)]
  split
  ·rfl
  ·have:x≠n:=by rintro rfl;exact h v mem_cons_self
   simp[this]
theorem sq {kindOf:Str->Option NameKind}{x:Str}{v:Value}:∀{P:List Str} {vs:List Value} {i:Nat} {m:Str->Option Value},P.Nodup->P[i]? =some x->vs[i]? =some v->kindOf x=some .local->
  bindL kindOf (P.zip vs) m x=some v
 | [],_,_,_,_,h,_,_=>by simp at h
 |_ :: _,[],_,_,_,_,h,_=>by simp at h
 |p :: P,w :: vs,0,m,nd,h1,h2,hk=>by
  simp at h1 h2;subst h1;subst h2
  show bindL kindOf ((p,w) :: P.zip vs) m p=_
  unfold bindL
  rw[sF fun v hv=>(nodup_cons.mp nd).1 (List.of_mem_zip hv).1,if_pos hk]
  simp
 |p :: P,w :: vs,i + 1,m,nd,h1,h2,hk=>by
  show bindL kindOf ((p,w) :: P.zip vs) m x=_
  unfold bindL
  exact sq (i:=i) (nodup_cons.mp nd).2 (by simpa using h1) (by simpa using h2) hk
theorem sE {kindOf:Str->Option NameKind}{x:Str}{v:Value}:∀{P:List Str} {vs:List Value} {i:Nat} {m:Str->Option Value},P.Nodup->P[i]? =some x->vs[i]? =some v->kindOf x≠some .local->
  bindC kindOf (P.zip vs) m x=some v
 | [],_,_,_,_,h,_,_=>by simp at h
 |_ :: _,[],_,_,_,_,h,_=>by simp at h
 |p :: P,w :: vs,0,m,nd,h1,h2,hk=>by
  simp at h1 h2;subst h1;subst h2
  show bindC kindOf ((p,w) :: P.zip vs) m p=_
  unfold bindC
  rw[rO fun v hv=>(nodup_cons.mp nd).1 (List.of_mem_zip hv).1,if_neg hk]
  simp
 |p :: P,w :: vs,i + 1,m,nd,h1,h2,hk=>by
  show bindC kindOf ((p,w) :: P.zip vs) m x=_
  unfold bindC
  exact sE (i:=i) (nodup_cons.mp nd).2 (by simpa using h1) (by simpa using h2) hk
def start (N:List Str)(vs:List V):St:=vs.map some ++ List.replicate (N.length - vs.length) none
def mi (CX:z8)(P:Program)(w:World)(K:Frag)(mg:Str->Option Value)(base:Heap)(N:List Str)(qual:Str)(scope:Scope)(f:Addr)(cd:Value)(A:Around)(outer:List Env)(s:Shared)(H:Hp)(E:XK):Cx where
 prog:=P
 w:=w
 K:=K
 mg:=mg
 base:=base
 A:=A.deeper (envOfC qual scope s.heap.objs.size f cd)
 N:=N
 s₀:=s
 H₀:=H
 env:=envOfC qual scope s.heap.objs.size f cd
 outer:=outer
 stack:=envOfC qual scope s.heap.objs.size f cd :: outer
 ex:=[]
 calm:=true
 fn:=fun _=>true
 pn:=[]
 xe:=fun e s'=>wpAny (model P w) (A.deeper (envOfC qual scope s.heap.objs.size f cd)) (leaving (envOfC qual scope s.heap.objs.size f cd) e) (fun _ s''=>CX outer H s E e s'') (fun e' s''=>CX outer H s E e' s'') s'
theorem vt {sc:Scope}{n:Nat}{x:Str}(h:sc.names.lookup x=some .cell):∃c,(cellsFrom n sc.names []).lookup x=some c:=by
 have q:=PySem.W.cellsFrom_some sc.names n [] (.inl h)
 exact Option.isSome_iff_exists.mp q
theorem zp {CX:z8}{P:Program}{w:World}{K:Frag}{mg:Str->Option Value}{base:Heap}{N ps:List Str}{qual:Str}{scope:Scope}{f:Addr}{cd:Value}{A:Around}{outer:List Env}{s s1:Shared}{H:Hp}{E:XK}{us:List Value}{vs:List V}
  (S:aJ N ps scope) (hd:A.handled=none) (e0:DB P w K mg base A outer s H) (hl:vs.length=ps.length) (r:Vals vs us)
  (x:InCallC s s.heap.objs.size (bindL (envOfC qual scope s.heap.objs.size f cd).kindOf (ps.zip us) fun _=>none) (cellsFrom (s.heap.objs.size + 1) scope.names []) (bindC (envOfC qual scope s.heap.objs.size f cd).kindOf (ps.zip us) fun _=>none) s1) :
  Inv (mi CX P w K mg base N qual scope f cd A outer s H E) [] (start N vs) H s1:=by
 have hpl:ps.length<=N.length:=by have:=congrArg List.length S.pre;rw[length_take] at this;omega
 obtain⟨h1,tk,rfl,hk⟩:=x.done
 have noA:∀b:Addr,b∉(mi CX P w K mg base N qual scope f cd A outer s H E).ex:=fun b z=>absurd (show b∈([]:List Addr) from z) (by simp)
 refine⟨⟨e0.mod,S.kind,rfl,rfl,Nat.le_refl _,fun y z c h1 h2=>?_,fun y hy=>?_,fun y c _ h=>?_,fun _=>hd,Around.frames_deeper e0.frames,.inr ⟨rfl,rfl⟩,fun b z=>absurd z (noA b),e0.bs,e0.bsz,fun b _ _=>noA b,fun b z=>absurd z (noA b),e0.funs,e0.frf⟩,
  rfl,e0.bare,Un.kept hk,⟨_,x.toInCall.ns,fun i y v h1 h2 h3=>?_⟩,fun y c h=>⟨_,x.cell y c h⟩,e0.hok.fresh (Nat.le_refl _),fun y c h=>?_,fun p hp=>absurd (show p∈([]:List (Addr×Obj)) from hp) (by simp),e0.hok.kept hk,?_⟩
 ·exact name_of_addr x.apart (PySem.mem_of_lookup h1) (PySem.mem_of_lookup h2)
 ·have hy:scope.names.lookup y=some .cell\/scope.names.lookup y=some .free:=hy
  rcases hy with hy |hy
  ·exact vt hy
  ·exact absurd rfl (S.nofree _ (PySem.mem_of_lookup hy))
 ·exact Nat.le_of_lt (x.above y c (PySem.mem_of_lookup h))
 ·have hi:i < vs.length:=by
   unfold start at h2
   by_cases hi:i < vs.length
   ·exact hi
   ·rw[getElem?_append_right (by simpa using hi)] at h2
    rw[getElem?_replicate] at h2
    split at h2 <;> cases h2
  have ha:vs[i]? =some v:=by
   unfold start at h2
   rw[getElem?_append_left (by simpa using hi),getElem?_map] at h2
   cases e:vs[i]? with
   |none=>rw[e] at h2;cases h2
   |some a=>rw[e] at h2;cases h2;rfl
  obtain⟨u,hu,rv⟩:=r.get ha
  have hp:ps[i]? =some y:=by
   rw[<-S.pre,List.getElem?_take_of_lt (by omega)];exact h1
  have ndP:ps.Nodup:=by rw[<-S.pre];exact S.nd.sublist (List.take_sublist _ _)
  refine⟨u,rv,?_⟩
  rcases S.par y (mem_of_getElem? hp) with k |k
  ·exact .inl ⟨k,sq ndP hp hu k⟩
  ·obtain⟨c,e⟩:=vt (n:=s.heap.objs.size + 1) k
   refine .inr ⟨.inl k,c,e,?_⟩
   have q:=x.cell y c e
   rw[sE ndP hp hu (by show scope.names.lookup y≠_;rw[k];decide)] at q
   exact q
 ·exact e0.hok.fresh (Nat.le_of_lt (x.above y c (PySem.mem_of_lookup h)))
 ·unfold start
  show _=N.length
  rw[length_append,length_map,length_replicate]
  omega
theorem ES {CX:z8}{P:Program}{w:World}{K:Frag}{mg:Str->Option Value}{base:Heap}{k:Nat}{f:Addr}{name qual:Str}{params:Arguments}{body:List Stmt}{scope:Scope}{dV kV doc pm cdv ct oc:Value}{an od:Option Addr}
  {osl:Array (Option Value)} {N ps:List Str} {sp:Sp} (lk:K.lookup f=some ⟨oc,od,.func (PySem.W.fnOf name qual params body scope dV kV doc pm an cdv ct),osl⟩) (hcd:PySem.W.codeIn K cdv qual=true) (S:aJ N ps scope)
  (len:∀vs H Q E,sp vs H Q E->vs.length=ps.length)
  (hbody:∀(A:Around) (outer:List Env) (s:Shared) (H:Hp) (vs:List V) (Q:VK) (E:XK),gy k (A.deeper (envOfC qual scope s.heap.objs.size f cdv))->sp vs H Q E->
   ∃t,sf (mi CX P w K mg base N qual scope f cdv A outer s H E) body t/\t {nx:=fun _ H'=>Q .non H',rt:=Q} (start N vs) H) :
  gP P w K mg base CX (k + 1) f (PySem.W.fnOf name qual params body scope dV kV doc pm an cdv ct) ps sp:=by
 refine⟨len,fun A outer s H args us vs Q E hr e0 hb r hsp=>?_⟩
 have hl:=len _ _ _ _ hsp
 have KX:K.In s.heap:=e0.mod.kin.keeps fun b o e=>(e0.bs b o e).1
 have lim:s.heap.NoLimit:=e0.mod.nolimit.keeps fun b o e=>(e0.bs b o e).1
 have hkind:∀y∈ps.zip us,scope.names.lookup y.1=some .local\/(scope.names.lookup y.1=some .cell/\((cellsFrom (s.heap.objs.size + 1) scope.names []).lookup y.1).isSome=true):=fun⟨n,v⟩ hy=>by
  rcases S.par n (List.of_mem_zip hy).1 with q |q
  ·exact .inl q
  ·exact .inr ⟨q,PySem.W.cellsFrom_some _ _ _ (.inl q)⟩
 refine codeAny_call_function hr.depth (KX _ _ lk) rfl S.co S.gen rfl (PySem.W.codeRec_of KX hcd) (hb _ _ _ _ ?_)
 refine wpAny_newFunctionEnv_cells S.kind hkind fun env he s1 x=>?_
 subst he
 refine⟨lim.keeps x.toInCall.keep,codeAny_func ?_⟩
 obtain⟨t,ht,hq⟩:=hbody A outer s H vs Q E (hr.deeper _) hsp
 have I:Inv (mi CX P w K mg base N qual scope f cdv A outer s H E) [] (start N vs) H s1:=zp S hr.hd e0 hl r x
 refine wpAny_mono (ht [] s1 (start N vs) H _ I hq) (fun fl s' hs=>?_) fun e s' hs=>hs
 have fin:∀{σ':St} {H':Hp} {v:V} {u:Value},Inv (mi CX P w K mg base N qual scope f cdv A outer s H E) [] σ' H' s'->RelV v u->Q v H'->CE outer P w H s Q u s':=
  fun {σ' H' v u} J rv q=>⟨v,H',J.os,J.bare,J.base,J.hok,rv,q⟩
 cases fl with
 |ret u=>
  obtain⟨v,σ',H',J,rv,q⟩:=hs
  exact fin J rv q
 |next=>
  obtain⟨σ',H',J,q⟩:=hs
  exact fin (v:=V.non) (u:=Value.none) J rfl q
 |brk=>
  obtain⟨_,_,_,q⟩:=hs
  exact False.elim q
 |cont=>
  obtain⟨_,_,_,q⟩:=hs
  exact False.elim q
section
variable {X:Cx}{x:Str}{p pos:Pos}{e:Expr}{es:List Expr}{t:TA}{id T:String}{r:List V->Hp->VK->Prop}
def Ku (r:List V->Hp->VK->Prop)(t:TA):TE:=fun σ H Q=>t σ H fun vs H1=>r vs H1 Q
theorem j8 (hc:cY X (.builtin id) r)(hg:Gl X x)(hm:X.mg x=none)(hv:bootBuiltins x=some (.builtin id))(ha:PA X (e :: es) t)(hn:x≠"__name__":=by decide)(hdb:(x == ("__debug__":Str))=false:=by decide)
  (he:starEach (e :: es) X.env=(false,eval e X.env) :: starEach es X.env:=by rfl) (hpl:(backTo pos (starEach es X.env)).any (·.1)=false:=by rfl):PE X (.Call (.Name x p) (e :: es) [] pos) (Ku r t):=by
 intro pins s σ H Q I h
 refine wpAny_Call_Name_kw (n6 I hg hm hv ?_ hn hdb)
 exact PyProof.Rows.callWith_builtin1 (cS (ha pos pins s σ H _ I h) fun us s1 ⟨vs,H1,I1,r1,q1⟩=>hc pins s1 σ H1 vs us Q I1 r1 q1) he hpl
theorem iO (hc:cY X (.type T) r)(hg:Gl X x)(hm:X.mg x=none)(hv:bootBuiltins x=some (.type T))(ha:PA X (e :: es) t)(hn:x≠"__name__":=by decide)(hdb:(x == ("__debug__":Str))=false:=by decide)
  (he:starEach (e :: es) X.env=(false,eval e X.env) :: starEach es X.env:=by rfl) (hpl:(backTo pos (starEach es X.env)).any (·.1)=false:=by rfl):PE X (.Call (.Name x p) (e :: es) [] pos) (Ku r t):=by
 intro pins s σ H Q I h
 refine wpAny_Call_Name_kw (n6 I hg hm hv ?_ hn hdb)
 exact PyProof.Rows.callWith_type1 (cS (ha pos pins s σ H _ I h) fun us s1 ⟨vs,H1,I1,r1,q1⟩=>hc pins s1 σ H1 vs us Q I1 r1 q1) he hpl
end
end L2
namespace HT
open PySem PyProof.Rows
section
open PySem.SeqAt
open PySem.AutoSeq1 (wpAny_loadPart')
open PySem.MeetsSeq PySem.MeetsSeq2 PySem.MeetsSeq3
end
section
variable {prog:Program}{w:World}{A:Around}{E:Value->Shared->Prop}{s:Shared}
theorem CU {t b:Addr}{vs ws:List Value}{Q:Value->Shared->Prop}(ht:IsTup s.heap t vs.toArray)(hb:IsTup s.heap b ws.toArray)(hv:vs≠ [])
  (h1:ws= []->Q (.ref t) s) (h2:ws≠ []->Q (.ref s.heap.objs.size) {s with heap:=s.heap.push {cls:=.type "tuple",data:=.seq (vs ++ ws).toArray}})
  (hsz:vs.length + ws.length<=sizeLine):wpAny (model prog w) A (binaryOp .Add (.ref t) (.ref b)) Q E s:=by
 obtain⟨⟨cls,dd,data,sl⟩,ho,hc,n,hd⟩:=id ht
 obtain⟨⟨cls2,dd2,data2,sl2⟩,ho2,hc2,n2,hd2⟩:=id hb
 simp only at hc hd hc2 hd2
 subst hc hd hc2 hd2
 have e:vs.toArray ++ ws.toArray=(vs ++ ws).toArray:=by simp
 by_cases hw:ws= []
 ·exact concat_meets ⟨_,ho,rfl⟩ ⟨_,ho2,rfl⟩ noFill_tuple_add seq_tuple_add PySem.F.slot_tuple_add PySem.F.entry_tuple_add (PySem.F.args_tuple_add_2 _ _)
   (tuple_addW1 t b vs.toArray ws.toArray n n2 dd dd2 sl sl2 (by simpa using hv) (by simp[hw])) ⟨ho,ho2,h1 hw⟩
 ·refine concat_meets ⟨_,ho,rfl⟩ ⟨_,ho2,rfl⟩ noFill_tuple_add seq_tuple_add PySem.F.slot_tuple_add PySem.F.entry_tuple_add (PySem.F.args_tuple_add_2 _ _)
   (tuple_addW2 t b vs.toArray ws.toArray n n2 dd dd2 sl sl2 (by simpa using hv) (by simpa using hw) (by rw[size_toArray,size_toArray];exact hsz)) ⟨ho,ho2,?_⟩
  rw[e]
  exact h2 hw
def rQ (n d:Nat):Option Int->Nat
 |none=>d
 |some v=>if v < 0 then (v + (n:Int)).toNat else min v.toNat n
theorem As (n d:Nat):rQ n d none=d:=rfl
theorem Ef (n d k:Nat):rQ n d (some (k:Int))=min k n:=by
 show (if (k:Int) < 0 then ((k:Int) + (n:Int)).toNat else min (k:Int).toNat n)=min k n
 rw[if_neg (by omega),Int.toNat_natCast]
end
end HT
namespace L2
open PySem PySem.Spec PyProof.Rows
abbrev TO:=St->Hp->(Option Int->Hp->Prop)->Prop
def PO (X:Cx)(e:Option Expr)(t:TO):Prop:=
 ∀(pins:List (Addr×Obj)) (s:Shared) (σ:St) (H:Hp) (Q:Option Int->Hp->Prop),Inv X pins σ H s->t σ H Q->
  wpAny (model X.prog X.w) X.A (evalPart e X.env) (fun u s'=>∃o H',Inv X pins σ H' s'/\IsPart u o/\Q o H') X.xe s
def Dd:TO:=fun _ H Q=>Q none H
def HV (t:TE):TO:=fun σ H Q=>t σ H fun x H1=>∃i,x=.int i/\Q (some i) H1
theorem intsAre_of {ns:List Int}:∀{us:List Value},Vals (ns.map V.int) us->IntsAre us ns:=by
 induction ns with
 |nil=>intro us r;rw[List.map_nil] at r;cases r;exact .nil
 |cons n ns ih=>
  intro us r
  rw[map_cons] at r
  cases r with
  |cons r1 r2=>
   obtain⟨t,e⟩:=r1
   subst e
   exact .cons n t (ih r2)
section
variable {X:Cx}{e:Expr}{te:TE}{lo hi:Option Expr}{tl th:TO}{pos p2:Pos}
theorem CM:PO X none Dd:=by
 intro pins s σ H Q I h
 rw[evalPart_none]
 exact wpAny_pure ⟨none,H,I,.none,h⟩
theorem D1 (h:PE X e te):PO X (some e) (HV te):=by
 intro pins s σ H Q I hw
 rw[evalPart_some]
 refine cS (h pins s σ H _ I hw) fun u s1 ⟨x,H1,I1,r1,q1⟩=>?_
 obtain⟨i,rfl,q⟩:=q1
 obtain⟨t,rfl⟩:=r1
 exact⟨some i,H1,I1,.int i t,q⟩
def Kw (X:Cx)(r:V->Option Int->Option Int->Hp->VK->Prop):Prop:=
 ∀(pins:List (Addr×Obj)) (s:Shared) (σ:St) (H:Hp) (x:V) (v vl vu:Value) (lo hi:Option Int) (sl:Addr) (Q:VK),Inv X pins σ H s->RelV x v->s.heap.IsSliceOf sl vl vu .none->IsPart vl lo->IsPart vu hi->r x lo hi H Q->
  ∃T id,typeLookup (.type T) "__getitem__"=pure (some (.builtin id))/\s.TypeIs v T/\wpAny (model X.prog X.w) X.A (getItem v (.ref sl)) (EP X pins σ Q) X.xe s
def KC (r:V->Option Int->Option Int->Hp->VK->Prop)(te:TE)(tl th:TO):TE:=fun σ H Q=>te σ H fun x H1=>tl σ H1 fun l H2=>th σ H2 fun u H3=>r x l u H3 Q
theorem Ci {r:V->Option Int->Option Int->Hp->VK->Prop}(hr:Kw X r)(he:PE X e te)(hl:PO X lo tl)(hu:PO X hi th):PE X (.Subscript e (.Slice lo hi none p2) pos) (KC r te tl th):=by
 intro pins s σ H Q I h
 refine Subscript_ (cS (he pins s σ H _ I h) fun v s1 ⟨x,H1,I1,r1,q1⟩=>?_)
 refine wpAny_Slice (cS (hl pins s1 σ H1 _ I1 q1) fun vl s2 ⟨l,H2,I2,pl,q2⟩=>cS (hu pins s2 σ H2 _ I2 q2) fun vu s3 ⟨u,H3,I3,pu,q3⟩=>?_)
 rw[evalPart_none]
 refine wpAny_pure ?_
 have I4:Inv X pins σ H3 {s3 with heap:=s3.heap.push {cls:=.type "slice",data:=.fields #[vl,vu,.none]}}:=I3.kept (t':=s3.toks) fun b ob q=>Heap.get?_push_of_some _ q
 obtain⟨T,id,hT,ht,hg⟩:=hr pins {s3 with heap:=s3.heap.push {cls:=.type "slice",data:=.fields #[vl,vu,.none]}} σ H3 x v vl vu l u s3.heap.objs.size Q I4 r1 (Heap.IsSliceOf.new ..) pl pu q3
 show wpAny (model X.prog X.w) X.A (subscriptTail e (.Slice lo hi none p2) v (.ref s3.heap.objs.size)) (EP X pins σ Q) X.xe {s3 with heap:=s3.heap.push {cls:=.type "slice",data:=.fields #[vl,vu,.none]}}
 exact tail_any (ops:=[.ref s3.heap.objs.size,v]) ht hT hg (by with_unfolding_all rfl)
def xh (xs:List V)(lo hi:Option Int):List V:=(xs.drop (HT.rQ xs.length 0 lo)).take (HT.rQ xs.length xs.length hi - HT.rQ xs.length 0 lo)
theorem vD (xs:List V)(lo hi:Option Int):(xh xs lo hi).length<=xs.length:=by
 unfold xh
 rw[length_take,List.length_drop]
 omega
def Iy (K:Frag):R2:=fun x y H Q=>∃a b xs ys,x=.ref a/\y=.ref b/\gJ K H a xs/\gJ K H b ys/\xs≠ []/\xs.length + ys.length<=sizeLine/\
 (ys= []->Q (.ref a) H)/\(ys≠ []->∀p,H p=none->Q (.ref p) (upd H p (.tup (xs ++ ys))))
theorem Vals.nil_iff {xs:List V}{us:List Value}(r:Vals xs us):us= []↔xs= []:=by
 cases r with
 |nil=>simp
 |cons _ _=>simp
theorem D0:mw X (binaryOp .Add) (Iy X.K):=by
 intro pins s σ H x y v u Q I rx ry h
 obtain⟨a,b,xs,ys,rfl,rfl,ha,hb,hx,hz,q1,q2⟩:=h
 cases rx
 cases ry
 obtain⟨its,r1,p1,_⟩:=I.tuple ha
 obtain⟨its2,r2,p2,_⟩:=I.tuple hb
 refine HT.CU p1 p2 (fun z=>hx (r1.nil_iff.mp z)) (fun z=>⟨.ref a,H,I,rfl,q1 (r2.nil_iff.mp z)⟩) (fun z=>?_) (by rw[<-r1.length,<-r2.length];exact hz)
 refine⟨.ref s.heap.objs.size,_,I.laid (t':=s.toks) (o:=.tup (xs ++ ys)) (fun b ob q=>Heap.get?_push_of_some _ q) (Nat.le_refl _) ?_,rfl,q2 (fun w=>z (r2.nil_iff.mpr w)) _ (I.hok.fresh (Nat.le_refl _))⟩
 exact⟨by rw[length_append];exact hz,_,r1.append r2,uw.new _ _⟩
end
def qN (n:Nat)(i:Int):Option Nat:=if 0<=i then (if i < n then some i.toNat else none) else if -(n:Int)<=i then some (i + n).toNat else none
def jT {α:Type}(xs:List α)(i:Int):Option α:=(qN xs.length i).bind fun j=>xs[j]?
theorem yN {n:Nat}{i:Int}{j:Nat}(h:qN n i=some j):seqIndex? i n=some j/\j < n/\ -(n:Int)<=i/\i < n:=by
 unfold qN at h
 by_cases h0:0<=i
 ·rw[if_pos h0] at h
  by_cases h1:i < n
  ·rw[if_pos h1] at h
   have e:i.toNat=j:=Option.some.inj h
   exact⟨by rw[seqIndex_of h0 h1,e],by omega,by omega,h1⟩
  ·rw[if_neg h1] at h;cases h
 ·rw[if_neg h0] at h
  by_cases h1: -(n:Int)<=i
  ·rw[if_pos h1] at h
   have e:(i + n).toNat=j:=Option.some.inj h
   exact⟨by rw[seqIndex_neg (by omega) h1,e],by omega,h1,by omega⟩
  ·rw[if_neg h1] at h;cases h
theorem sU {α:Type}{xs:List α}{i:Int}{v:α}(h:jT xs i=some v):∃j,seqIndex? i xs.length=some j/\xs[j]? =some v/\j < xs.length/\ -(xs.length:Int)<=i/\i < xs.length:=by
 unfold jT at h
 cases e:qN xs.length i with
 |none=>rw[e] at h;cases h
 |some j=>
  rw[e] at h
  obtain⟨h1,h2,h3,h4⟩:=yN e
  exact⟨j,h1,h,h2,h3,h4⟩
theorem nM {α:Type}{xs:List α}{j:Nat}{v:α}(h:xs[j]? =some v):jT xs (j:Int)=some v:=by
 have hj:j < xs.length:=(List.getElem?_eq_some_iff.mp h).1
 have e:qN xs.length (j:Int)=some j:=by
  unfold qN
  rw[if_pos (by omega),if_pos (by omega)];simp
 unfold jT;rw[e];exact h
def yX (b:Expr):Prop:=∀o i,subscripted b false o i=operate [o,i] (getItem o i)
def Br (X:Cx)(r:R2):Prop:=
 ∀(value slice:Expr) (pins:List (Addr×Obj)) (s:Shared) (σ:St) (H:Hp) (x y:V) (v u:Value) (Q:VK),Inv X pins σ H s->RelV x v->RelV y u->r x y H Q->
  subscripted slice false v u=operate [v,u] (getItem v u)->wpAny (model X.prog X.w) X.A (subscriptTail value slice v u) (EP X pins σ Q) X.xe s
def KJ (X:Cx)(id:String)(r:V->List V->Hp->VK->Prop):Prop:=
 ∀(pins:List (Addr×Obj)) (s:Shared) (σ:St) (H:Hp) (x:V) (xs:List V) (v:Value) (us:List Value) (Q:VK),Inv X pins σ H s->RelV x v->Vals xs us->r x xs H Q->
  wpAny (model X.prog X.w) X.A (call (.builtin id) (v :: us)) (EP X pins σ Q) X.xe s
section
variable {X:Cx}{a b:Expr}{ta tb:TE}{pos:Pos}
theorem Br.or {r r':R2}(h:Br X r)(h':Br X r'):Br X (fun x y H Q=>r x y H Q\/r' x y H Q):=by
 intro value slice pins s σ H x y v u Q I rx ry q hs
 rcases q with q |q
 ·exact h value slice pins s σ H x y v u Q I rx ry q hs
 ·exact h' value slice pins s σ H x y v u Q I rx ry q hs
theorem my {r:R2}(hr:Br X r)(ha:PE X a ta)(hb:PE X b tb)(hs:yX b):PE X (.Subscript a b pos) (IS r ta tb):=by
 intro pins s σ H Q I h
 exact Subscript_ (FW ha hb I h fun v u s2 x y H2 I2 rx ry q=>hr a b pins s2 σ H2 x y v u Q I2 rx ry q (hs _ _))
def Fw (K:Frag):R2:=fun x y H Q=>∃p xs i v,x=.ref p/\y=.int i/\hX K H p xs/\jT xs i=some v/\Q v H
def HR (K:Frag):R2:=fun x y H Q=>∃p xs i v,x=.ref p/\y=.int i/\gJ K H p xs/\jT xs i=some v/\Q v H
def Ie:R2:=fun x y H Q=>∃z i c,x=.str z/\y=.int i/\z.length<=sizeLine/\jT z.cps.toList i=some c/\Q (.str ⟨#[c]⟩) H
theorem iE:Br X (Fw X.K):=by
 intro value slice pins s σ H x y v u Q I rx ry h hs
 obtain⟨p,xs,i,z,rfl,rfl,hq,he,q⟩:=h
 cases rx
 obtain⟨t,rfl⟩:=ry
 obtain⟨its,r,pl,hz⟩:=I.list hq
 obtain⟨j,h1,h2,h3,h4,h5⟩:=sU he
 obtain⟨w,ew,rw'⟩:=r.get h2
 have hl:=r.length
 have hn:=oj
 have fin:EP X pins σ Q w s:=⟨z,H,I,rw',q⟩
 by_cases h0:0<=i
 ·have hj:i.toNat=j:=by
   rw[seqIndex_of h0 h5] at h1
   exact Option.some.inj h1
  exact item_listR pl.isList h0 (by omega) (by rw[hj];simpa using ew) fin hs
 ·have hj:(i + (its.toArray.size:Int)).toNat=j:=by
   rw[seqIndex_neg (by omega) h4] at h1
   rw[size_toArray,<-hl]
   exact Option.some.inj h1
  exact subscriptTail_builtinR (x:=w) pl.isList.typeIs slot_list_getitem.lookup
   (wpAny_getItem_list_neg (Q:=fun r s'=>r=w/\EP X pins σ Q r s') pl.isList (by omega) (by rw[size_toArray] <;> omega) (by omega) (by rw[hj];simpa using ew) ⟨rfl,fin⟩) hs
theorem FE:Br X (HR X.K):=by
 intro value slice pins s σ H x y v u Q I rx ry h hs
 obtain⟨p,xs,i,z,rfl,rfl,hq,he,q⟩:=h
 cases rx
 obtain⟨t,rfl⟩:=ry
 obtain⟨its,r,pl,hz⟩:=I.tuple hq
 obtain⟨j,h1,h2,h3,h4,h5⟩:=sU he
 obtain⟨w,ew,rw'⟩:=r.get h2
 have hl:=r.length
 have hn:=oj
 have fin:EP X pins σ Q w s:=⟨z,H,I,rw',q⟩
 exact subscriptTail_builtinR (x:=w) pl.typeIs slot_tuple_getitem.lookup
  (getItem_tuple (j:=j) (Q:=fun r s'=>r=w/\EP X pins σ Q r s') pl (by omega) (by omega) (by rw[size_toArray,<-hl];exact h1) (by simpa using ew) ⟨rfl,fin⟩) hs
theorem FT:Br X Ie:=by
 intro value slice pins s σ H x y v u Q I rx ry h hs
 obtain⟨z,i,c,rfl,rfl,hz,he,q⟩:=h
 obtain⟨t,rfl⟩:=rx
 obtain⟨t',rfl⟩:=ry
 obtain⟨j,h1,h2,h3,h4,h5⟩:=sU he
 have hl:z.cps.toList.length=z.length:=by simp[Str.length]
 rw[hl] at h1 h4 h5
 have hn:=oj
 exact tail_any (typeIs_str s z t) slot_str_getitem.lookup (getItem_str (c:=c) (by
  have e1:decide (i < -(2 ^ 63:Int))=false:=decide_eq_false (by omega)
  have e2:decide (i>=2 ^ 63)=false:=decide_eq_false (by omega)
  rw[e1,e2,Bool.or_false]) (by rw[h1];simpa using h2) ⟨.str ⟨#[c]⟩,H,I.tok _,⟨_,rfl⟩,q⟩) hs
def Kj (K:Frag):R2:=fun x y H Q=>Fw K x y H Q\/HR K x y H Q\/Ie x y H Q
theorem aF:Br X (Kj X.K):=iE.or (FE.or FT)
theorem w8 (its:List Value)(n j:Nat)(u:Value):Obj.mapSeq (·.setIfInBounds j u) {cls:=.type "list",data:=.seq its.toArray n}={cls:=.type "list",data:=.seq (its.set j u).toArray n}:=by
 simp[Obj.mapSeq]
theorem Inv.lst {pins:List (Addr×Obj)}{σ:St}{H:Hp}{s:Shared}{p:Addr}{xs:List V}(I:Inv X pins σ H s)(h:H p=some (.lst xs)) :
  ∃(its:List Value) (n:Nat),Vals xs its/\s.heap.get? p=some {cls:=.type "list",data:=.seq its.toArray n}/\xs.length<=sizeLine:=by
 obtain⟨z,its,n,r,e⟩:=I.hok p _ h
 exact⟨its,n,r,e,z⟩
theorem Inv.lstUpd {pins:List (Addr×Obj)}{σ:St}{H:Hp}{s:Shared}{p:Addr}{xs ys:List V}{its its':List Value}{n n':Nat}{f:Obj->Obj}(I:Inv X pins σ H s)(h:H p=some (.lst xs))
  (ho:s.heap.get? p=some {cls:=.type "list",data:=.seq its.toArray n}) (hf:f {cls:=.type "list",data:=.seq its.toArray n}={cls:=.type "list",data:=.seq its'.toArray n'}) (r:Vals ys its') (hz:ys.length<=sizeLine) (t:Nat) :
  Inv X pins σ (upd H p (.lst ys)) {s with heap:=s.heap.update p f,toks:=t}:=by
 have e:(s.heap.update p f).get? p=some {cls:=.type "list",data:=.seq its'.toArray n'}:=by
  rw[Heap.get?_update_self f ho (by rw[hf] <;> rfl),hf]
 refine I.write (x:=p) (e:=p) (by rw[h];trivial) (.inl rfl) (fun b u hb q=>(Heap.get?_update_other _ _ (Ne.symm hb)).trans q) ⟨_,e⟩ ?_
 exact⟨hz,its',n',r,e⟩
def ID:V->V->V->Hp->(Hp->Prop)->Prop:=fun o i v H Q=>∃p xs k j,o=.ref p/\i=.int k/\H p=some (.lst xs)/\qN xs.length k=some j/\Q (upd H p (.lst (xs.set j v)))
theorem set_list:tR X ID:=by
 intro pins s σ H o i v ov iv u Q I ro ri rv h
 obtain⟨p,xs,k,j,rfl,rfl,hp,hj,q⟩:=h
 cases ro
 obtain⟨t,rfl⟩:=ri
 obtain⟨its,n,r,ho,hz⟩:=I.lst hp
 obtain⟨h1,h2,h3,h4⟩:=yN hj
 have hl:=r.length
 have hn:=oj
 have I':Inv X pins σ (upd H p (.lst (xs.set j v))) {s with heap:=s.heap.update p (Obj.mapSeq (·.setIfInBounds j u))}:=
  I.lstUpd hp ho (w8 its n j u) (r.set rv j) (by rw[length_set];exact hz) s.toks
 by_cases h0:0<=k
 ·have hk:k.toNat=j:=by
   rw[seqIndex_of h0 h4] at h1
   exact Option.some.inj h1
  exact PySem.W.ki_setAt ho h0 (by omega) (by rw[size_toArray,<-hl];exact h4) (by rw[hk];exact⟨_,I',q⟩)
 ·have hk:(k + (its.toArray.size:Int)).toNat=j:=by
   rw[seqIndex_neg (by omega) h3] at h1
   rw[size_toArray,<-hl]
   exact Option.some.inj h1
  exact PySem.W.ki_setBack ho (by omega) (by rw[size_toArray,<-hl];exact h3) (by omega) (by rw[hk];exact⟨_,I',q⟩)
theorem tP (lo hi:Option Int)(n:Nat):(sliceBounds lo hi none n).1=((HT.rQ n 0 lo:Nat):Int)/\(sliceBounds lo hi none n).2.1=((HT.rQ n n hi:Nat):Int)/\(sliceBounds lo hi none n).2.2=1:=by
 refine⟨?_,?_,rfl⟩
 ·cases lo with
  |none=>simp[sliceBounds,HT.rQ]
  |some i=>
   simp only[sliceBounds,HT.rQ,Option.getD_none,show (1:Int) > 0 by decide,if_true]
   by_cases h:i < 0
   ·simp only[h,if_true] <;> omega
   ·simp only[h,if_false] <;> omega
 ·cases hi with
  |none=>simp[sliceBounds,HT.rQ]
  |some i=>
   simp only[sliceBounds,HT.rQ,Option.getD_none,show (1:Int) > 0 by decide,if_true]
   by_cases h:i < 0
   ·simp only[h,if_true] <;> omega
   ·simp only[h,if_false] <;> omega
theorem rE (its:List Value)(lo hi:Option Int):slicePick its.toArray lo hi none=((its.drop (HT.rQ its.length 0 lo)).take (HT.rQ its.length its.length hi - HT.rQ its.length 0 lo)).toArray:=by
 obtain⟨h1,h2,h3⟩:=tP lo hi its.toArray.size
 unfold slicePick
 rw[h1,h2,h3]
 simp only[sliceRange_one,pick_run,size_toArray] <;> rfl
def J9 (K:Frag):V->Option Int->Option Int->Hp->VK->Prop:=fun x lo hi H Q=>∃a xs,x=.ref a/\hX K H a xs/\∀p,H p=none->Q (.ref p) (upd H p (.lst (xh xs lo hi)))
theorem Ei:Kw X (J9 X.K):=by
 intro pins s σ H x v vl vu lo hi sl Q I rx hs pl pu h
 obtain⟨a,xs,rfl,hx,q⟩:=h
 cases rx
 obtain⟨its,r,ht,hz⟩:=I.list hx
 have hlen:=r.length
 refine⟨"list",_,slot_list_getitem.lookup,ht.isList.typeIs,?_⟩
 refine wpAny_getItem_list_slice ht.isList hs pl pu .none (by simp) ?_ (by rw[size_toArray] <;> omega)
 rw[rE,<-hlen]
 refine⟨.ref s.heap.objs.size,_,I.laid (t':=s.toks) (o:=.lst (xh xs lo hi)) (fun b ob q=>Heap.get?_push_of_some _ q) (Nat.le_refl _) ?_,rfl,q _ (I.hok.fresh (Nat.le_refl _))⟩
 exact⟨Nat.le_trans (vD xs lo hi) hz,_,0,(r.drop (HT.rQ xs.length 0 lo)).take (HT.rQ xs.length xs.length hi - HT.rQ xs.length 0 lo),Heap.get?_push_size _ rfl⟩
theorem m6:cY X (.type "list") (fun xs H Q=>∃p ys,xs= [.ref p]/\(hX X.K H p ys\/gJ X.K H p ys)/\∀l,H l=none->Q (.ref l) (upd H l (.lst ys))):=by
 intro pins s σ H xs us Q I r h
 obtain⟨p,ys,rfl,hq,q⟩:=h
 obtain⟨u,rfl,rx⟩:=vals1 r
 cases rx
 have fin:∀(its:List Value),Vals ys its->ys.length<=sizeLine->∀(h':Heap) (c':Nat),(∀b o',s.heap.get? b=some o'->h'.get? b=some o')->
   h'.get? s.heap.objs.size=some {cls:=.type "list",dict:=none,data:=.seq its.toArray c',slots:=#[]}->EP X pins σ Q (.ref s.heap.objs.size) {s with heap:=h'}:=fun its r' hz h' c' kp e=>
  ⟨.ref s.heap.objs.size,_,I.laid (t':=s.toks) kp (Nat.le_refl _) (show cL X.prog X.w _ h' _ (.lst ys) from⟨hz,its,c',r',e⟩),rfl,q _ (I.hok.fresh (Nat.le_refl _))⟩
 rcases hq with hq |hq
 ·obtain⟨its,r',pl,hz⟩:=I.list hq
  have hlen:=r'.length
  obtain⟨o,ho,hc,n,hd⟩:=pl.isList
  exact call_list_seq p (.inl rfl) ho hc hd (fun h' c' kp e=>fin its r' hz h' c' kp e) (by simp only[size_toArray] <;> omega)
 ·obtain⟨its,r',pl,hz⟩:=I.tuple hq
  have hlen:=r'.length
  obtain⟨o,ho,hc,n,hd⟩:=pl
  exact call_list_seq p (.inr rfl) ho hc hd (fun h' c' kp e=>fin its r' hz h' c' kp e) (by simp only[size_toArray] <;> omega)
theorem c5:cY X (.type "tuple") (fun xs H Q=>∃p ys,xs= [.ref p]/\((hX X.K H p ys/\∀l,H l=none->Q (.ref l) (upd H l (.tup ys)))\/(gJ X.K H p ys/\Q (.ref p) H))):=by
 intro pins s σ H xs us Q I r h
 obtain⟨p,ys,rfl,h⟩:=h
 obtain⟨u,rfl,rx⟩:=vals1 r
 cases rx
 rcases h with⟨hq,q⟩ | ⟨hq,q⟩
 ·obtain⟨its,r',pl,hz⟩:=I.list hq
  have hlen:=r'.length
  refine call_tuple_list pl.isList (fun h' kp=>?_) (by simp only[size_toArray] <;> omega)
  have I1:Inv X pins σ H {s with heap:=h'}:=I.kept (t':=s.toks) kp
  have I2:Inv X pins σ (upd H h'.objs.size (.tup ys)) {s with heap:=h'.push {cls:=.type "tuple",data:=.seq its.toArray}}:=
   I1.laid (t':=s.toks) (fun b o e=>Heap.get?_push_of_some _ e) (Nat.le_refl _) (show cL X.prog X.w _ _ _ (.tup ys) from⟨hz,its,r',uw.new _ _⟩)
  exact⟨.ref h'.objs.size,_,I2,rfl,q _ (I1.hok.fresh (Nat.le_refl _))⟩
 ·obtain⟨its,r',pl,hz⟩:=I.tuple hq
  exact call_tuple_same pl ⟨.ref p,H,I,rfl,q⟩
def Kt (K:Frag)(T:String)(x:V)(H:Hp):Prop:=match x with
 | .str _=>T="str"
 | .int _=>T="int"
 | .ref p=>(T="list"/\∃xs,hX K H p xs)\/(T="tuple"/\∃o,K.lookup p=some o/\o.cls=.type "tuple"/\o.dict=none)\/
   (T="dict"/\((∃kvs,H p=some (.dK kvs))\/∃kvs,H p=some (.dT kvs)))\/(T="set"/\∃S n,H p=some (.set S n))
 |_=>False
theorem Fp {pins:List (Addr×Obj)}{σ:St}{H:Hp}{s:Shared}{T:String}{x:V}{v:Value}(I:Inv X pins σ H s)(r:RelV x v)(ty:Kt X.K T x H) :
  s.TypeIs v T/\∀a,v=.ref a->∃ob,s.heap.get? a=some ob/\ob.dict=none:=by
 cases x with
 |str z=>
  obtain⟨t,rfl⟩:=r
  cases (show T="str" from ty)
  exact⟨typeIs_str s z t,fun _ e=>nomatch e⟩
 |int i=>
  obtain⟨t,rfl⟩:=r
  cases (show T="int" from ty)
  exact⟨typeIs_int s i t,fun _ e=>nomatch e⟩
 |ref p=>
  cases r
  rcases ty with⟨rfl,xs,hq⟩ | ⟨rfl,o,hk,hc,hd⟩ | ⟨rfl,hk⟩ | ⟨rfl,S,n,hk⟩
  ·obtain⟨its,_,pl,_⟩:=I.list hq
   refine⟨pl.isList.typeIs,fun a e=>?_⟩
   cases e
   obtain⟨o,n,e,c,hd,_⟩:=pl
   exact⟨o,e,hd⟩
  ·refine⟨⟨o,I.kIn p o hk,hc⟩,fun a e=>?_⟩
   cases e
   exact⟨o,I.kIn _ o hk,hd⟩
  ·have z:∃o,s.heap.get? p=some o/\o.ExactDict:=by
    rcases hk with⟨kvs,hk⟩ | ⟨kvs,hk⟩
    ·obtain⟨_,_,_,_,o,_,_,e,ex,_⟩:=I.hok p _ hk
     exact⟨o,e,ex⟩
    ·obtain⟨_,_,_,_,o,_,_,e,ex,_⟩:=I.hok p _ hk
     exact⟨o,e,ex⟩
   obtain⟨o,e,ex⟩:=z
   refine⟨⟨o,e,ex.1⟩,fun a e2=>?_⟩
   cases e2
   exact⟨o,e,ex.2.1⟩
  ·obtain⟨o,_,_,_,e,ex,_⟩:=I.hok p _ hk
   refine⟨⟨o,e,ex.1⟩,fun a e2=>?_⟩
   cases e2
   exact⟨o,e,ex.2.1⟩
 |_=>exact False.elim ty
def KG (K:Frag)(T:String)(r:V->List V->Hp->VK->Prop)(to:TE)(t:TA):TE:=fun σ H Q=>to σ H fun x H1=>Kt K T x H1/\t σ H1 fun xs H2=>r x xs H2 Q
variable {o e:Expr}{es:List Expr}{to:TE}{t:TA}{name:Str}{apos cpos:Pos}{T id:String}{r:V->List V->Hp->VK->Prop}
theorem yf (pa:PlainAttrs T)(slot:Slot T name id)(hty:typeOf (.builtin id)=pure (.type "method_descriptor"))(hm:KJ X id r)(ho:PE X o to)(ha:PA X (e :: es) t)
  (hbase:attributeBase o name X.env (eval o X.env)=eval o X.env:=by rfl)
  (hfew:((backTo cpos (starEach (e :: es) X.env)).all (fun x=> !x.1) && (backToKw cpos (keywordEach [] X.env)).all (fun x=>x.1.isSome)
   && decide ((e :: es).length + ([]:List Keyword).length + (if ([]:List Keyword).isEmpty then 0 else 1) < 30))=true:=by rfl)
  (hline:(apos.endLine == cpos.line)=true:=by rfl) (hs:starEach (e :: es) X.env=(false,eval e X.env) :: starEach es X.env:=by rfl) (hplain:(backTo cpos (starEach es X.env)).any (·.1)=false:=by rfl) :
  PE X (.Call (.Attribute o name apos) (e :: es) [] cpos) (KG X.K T r to t):=by
 intro pins s σ H Q I h
 refine wpAny_Call_method_late hbase hfew hline rfl (cS (ho pins s σ H _ I h) fun v s1 ⟨x,H1,I1,r1,ty,q1⟩=>?_)
 obtain⟨h1,h2⟩:=Fp I1 r1 ty
 refine⟨T,id,pa,slot,hty,h1,h2,?_⟩
 have hA:=ha cpos pins s1 σ H1 _ I1 q1
 rw[hs] at hA ⊢
 refine Calls.callWith_builtin (by show (false || (backTo cpos (starEach es X.env)).any (·.1))=false;rw[hplain] <;> rfl) (Calls.evalArgs_plain ?_)
 exact cS hA fun us s2 ⟨vs,H2,I2,r2,q2⟩=>hm pins s2 σ H2 x vs v us Q I2 r1 r2 q2
end
def Ia (X:Cx)(id:String)(r:V->List V->Hp->VK->Prop):Prop:=
 ∀(pins:List (Addr×Obj)) (s:Shared) (σ:St) (H:Hp) (x:V) (xs:List V) (v:Value) (us:List Value) (Q:VK),Inv X pins σ H s->RelV x v->Vals xs us->r x xs H Q->
  wpAny (model X.prog X.w) X.A (call (.builtin id) (v :: us)) (EP X pins σ Q) X.xe s
theorem Vals.one:∀{x:V} {us:List Value},Vals [x] us->∃u,us= [u]/\RelV x u
 |_,_,.cons r .nil=>⟨_,rfl,r⟩
theorem Vals.eraseIdx:∀{xs:List V} {us:List Value} (i:Nat),Vals xs us->Vals (xs.eraseIdx i) (us.eraseIdx i)
 |_,_,_,.nil=>.nil
 |_,_,0,.cons _ t=>t
 |_,_,i + 1,.cons r t=>.cons r (Vals.eraseIdx i t)
theorem Vals.rep {xs:List V}{us:List Value}(h:Vals xs us):∀k:Nat,Vals (List.replicate k xs).flatten (List.replicate k us).flatten
 | 0=>.nil
 |k + 1=>by
  rw[replicate_succ,replicate_succ,flatten_cons,flatten_cons]
  exact Vals.append h (Vals.rep h k)
theorem rN {α:Type}:∀(l:List α) (i:Nat),(l.eraseIdx i).length<=l.length
 | [],_=>Nat.le_refl _
 |_ :: _,0=>Nat.le_succ _
 |_ :: r,i + 1=>Nat.succ_le_succ (rN r i)
theorem foldl_rep (its:List Value):∀(k:Nat) (acc:List Value),
  List.foldl (fun x1 x2=>x1 ++ x2) acc.toArray (List.replicate k its.toArray)=(acc ++ (List.replicate k its).flatten).toArray
 | 0,acc=>by simp
 |k + 1,acc=>by
  have e:acc.toArray ++ its.toArray=(acc ++ its).toArray:=by simp
  have e2:(acc ++ its) ++ (List.replicate k its).flatten=acc ++ (List.replicate (k + 1) its).flatten:=by
   rw[replicate_succ,flatten_cons,append_assoc]
  rw[<-e2,<-foldl_rep its k (acc ++ its),<-e,replicate_succ,foldl_cons]
section
variable {X:Cx}{pins:List (Addr×Obj)}{σ:St}{H:Hp}{s:Shared}{l b:Addr}{xs ys zs:List V}
theorem Inv.lset {its its':List Value}{n:Nat}{f:Array Value->Array Value}{t':Nat}(I:Inv X pins σ H s)(hH:H l=some (.lst xs))
  (e:s.heap.get? l=some {cls:=.type "list",data:=.seq its.toArray n}) (hf:f its.toArray=its'.toArray) (hv:Vals ys its') (hz:ys.length<=sizeLine) :
  Inv X pins σ (upd H l (.lst ys)) {s with heap:=s.heap.update l (Obj.mapSeq f),toks:=t'}:=by
 have q:=PySem.IsL.update e f
 rw[hf] at q
 refine I.write (x:=l) (e:=l) (by rw[hH];exact trivial) (.inl rfl) (fun b' u hb hu=>(Heap.get?_update_other s.heap (Obj.mapSeq f) (Ne.symm hb)).trans hu) ⟨_,q⟩ ?_
 exact⟨hz,its',_,hv,q⟩
theorem Inv.lnew {its:List Value}{t':Nat}(I:Inv X pins σ H s)(hv:Vals ys its)(hz:ys.length<=sizeLine) :
  Inv X pins σ (upd H s.heap.objs.size (.lst ys)) {s with heap:=s.heap.push {cls:=.type "list",data:=.seq its.toArray},toks:=t'}:=
 I.laid (fun _ _ q=>Heap.get?_push_of_some _ q) (Nat.le_refl _) ⟨hz,its,0,hv,Heap.get?_push_size _ rfl⟩
theorem Inv.fresh (I:Inv X pins σ H s):H s.heap.objs.size=none:=I.hok.fresh (Nat.le_refl _)
theorem Inv.lstM (I:Inv X pins σ H s)(hH:H l=some (.lst xs)):xs.length<=sizeLine/\∃(its:List Value) (n:Nat),Vals xs its/\xs.length=its.length/\s.heap.get? l=some {cls:=.type "list",data:=.seq its.toArray n}:=by
 obtain⟨z,its,n,r,e⟩:=I.hok l _ hH
 exact⟨z,its,n,r,r.length,e⟩
theorem uQ {n:Nat}(h:n<=sizeLine):Builtin.List.listTooLong n=false:=by
 unfold Builtin.List.listTooLong
 exact decide_eq_false (by omega)
end
section
variable {X:Cx}
def DY:V->List V->Hp->VK->Prop:=fun x vs H Q=>∃l xs y,x=.ref l/\vs= [y]/\H l=some (.lst xs)/\xs.length < sizeLine/\Q .non (upd H l (.lst (xs ++ [y])))
theorem nR:Ia X "list.append" DY:=by
 intro pins s σ H x vs v us Q I rx rv h
 obtain⟨l,xs,y,rfl,rfl,hH,hz,q⟩:=h
 cases rx
 obtain⟨u,rfl,ru⟩:=rv.one
 obtain⟨z,its,n,r,hl,e⟩:=I.lstM hH
 refine call_meets F.slot_list_append ⟨_,e,rfl⟩ F.entry_list_append (F.args_list_append_2 _ _) (PySem.list_append l its.toArray n u (by rw[size_toArray];omega)) ⟨e,?_⟩
 refine⟨.non,_,I.lset (its':=its ++ [u]) hH e (by simp) (r.append (.cons ru .nil)) ?_,rfl,q⟩
 rw[length_append,length_singleton]
 omega
def Fd:V->List V->Hp->VK->Prop:=fun x vs H Q=>∃l xs i k y,x=.ref l/\vs= [.int i]/\H l=some (.lst xs)/\ -(2 ^ 63)<=i/\i < 2 ^ 63/\seqIndex? i xs.length=some k/\xs[k]? =some y/\Q y (upd H l (.lst (xs.eraseIdx k)))
theorem B3:Ia X "list.pop" Fd:=by
 intro pins s σ H x vs v us Q I rx rv h
 obtain⟨l,xs,i,k,y,rfl,rfl,hH,h1,h2,hk,hy,q⟩:=h
 cases rx
 obtain⟨u,rfl,ru⟩:=rv.one
 obtain⟨t,rfl⟩:=ru
 obtain⟨z,its,n,r,hl,e⟩:=I.lstM hH
 obtain⟨w,hw,rw'⟩:=r.get hy
 refine call_meets F.slot_list_pop ⟨_,e,rfl⟩ F.entry_list_pop (F.args_list_pop_2 _ _)
  (MeetsSeq.list_pop_at l its.toArray n i t k w (fitsIndex_both h1 h2) (by rw[size_toArray,<-hl];exact hk) (by rw[<-Array.getElem?_toList];exact hw) (by rw[size_toArray];omega)) ⟨e,?_⟩
 refine⟨y,_,I.lset (its':=its.eraseIdx k) hH e ?_ (r.eraseIdx k) ?_,rw',q⟩
 ·show its.toArray.eraseIdxIfInBounds k=(its.eraseIdx k).toArray
  rw[List.eraseIdxIfInBounds_toArray]
 ·have:=rN xs k
  omega
def J1:R2:=fun x y H Q=>∃l k xs,x=.ref l/\y=.int k/\H l=some (.lst xs)/\ -(2 ^ 63)<=k/\k < 2 ^ 63/\xs.length * k.toNat<=sizeLine/\
 ∀p,H p=none->Q (.ref p) (upd H p (.lst (List.replicate k.toNat xs).flatten))
theorem len_rep {α:Type}(xs:List α)(k:Nat):(List.replicate k xs).flatten.length=k * xs.length:=by
 induction k with
 |zero=>simp
 |succ k ih=>rw[replicate_succ,flatten_cons,length_append,ih,Nat.succ_mul,Nat.add_comm]
theorem Bi:mw X (binaryOp .Mult) J1:=by
 intro pins s σ H x y v u Q I rx ry h
 obtain⟨l,k,xs,rfl,rfl,hH,h1,h2,hz,q⟩:=h
 cases rx
 obtain⟨t,rfl⟩:=ry
 obtain⟨z,its,n,r,hl,e⟩:=I.lstM hH
 have hlen:its.toArray.size * k.toNat<=sizeLine:=by rw[size_toArray,<-hl];exact hz
 have hcap:¬its.toArray.size * k.toNat > (2 ^ 63 - 1) / 8:=by
  have:(sizeLine:Nat)<=(2 ^ 63 - 1) / 8:=by decide
  omega
 have hfit:¬(!Builtin.List.listFitsIndex k)=true:=by
  rw[fitsIndex_both h1 h2]
  exact Bool.false_ne_true
 have hlong:¬Builtin.List.listTooLong (its.toArray.size * k.toNat)=true:=by
  rw[uQ hlen]
  exact Bool.false_ne_true
 have hnew:List.foldl (fun x1 x2=>x1 ++ x2) #[] (List.replicate (if its.toArray.isEmpty=true then 0 else k.toNat) its.toArray)=(List.replicate k.toNat its).flatten.toArray:=by
  have f0:∀m:Nat,List.foldl (fun x1 x2=>x1 ++ x2) #[] (List.replicate m its.toArray)=(List.replicate m its).flatten.toArray:=fun m=>by
   have:=foldl_rep its m []
   rw[List.nil_append] at this
   exact this
  rw[f0]
  cases its with
  |nil=>simp
  |cons a r'=>rw[if_neg (by simp)]
 refine wpAny_binaryOp_repeat_ref (T:="list") (U:="int") (by decide) ⟨_,e,rfl⟩ (fun s'=>typeIs_int s' k t) noFill_list_mul F.fills_int_mul F.slot_int_rmul repeat_list F.slot_int_index.lookup
  (call_meets F.slot_int_rmul (typeIs_int s k t) F.entry_int_rmul (F.args_int_rmul_2 _ _) (int___rmul___int_list k t l its.toArray n)
   ⟨e,rfl,⟨_,e,rfl⟩,call_meets F.slot_list_mul ⟨_,e,rfl⟩ F.entry_list_mul (F.args_list_mul_2 _ _) (AutoListH.list___mul___list_int_3 l its.toArray n k t hfit hcap hlong) ⟨e,?_⟩⟩)
 rw[hnew]
 exact⟨.ref _,_,I.lnew (t':=s.toks) (r.rep k.toNat) (by rw[len_rep,Nat.mul_comm];exact hz),rfl,q _ I.fresh⟩
end
end L2
namespace Att
open PySem PySem.W PySem.Calls PyProof.Rows
theorem oR {P:Params}{h:Heap}:∀(ns:List Int) (vs:List Value),WellAll P h vs (ns.map WData.int)->IntsAre vs ns:=by
 intro ns
 induction ns with
 |nil=>
  intro vs w
  rw[List.map_nil] at w
  cases w
  exact .nil
 |cons n ns ih=>
  intro vs w
  rw[map_cons] at w
  cases w with
  |cons a b=>
   cases a
   exact .cons _ _ (ih _ b)
theorem zF {l:OpenLaw}{n:Nat}(hn:l.most=some n){P:Params}{h:Heap}{args:List WData}{vals:List Value}
  (hpre:l.row.toRowW.claim.pre args=true) (hwl:WellAll P h vals args) :
  ∃a vs ns,vals= [Value.ref a]/\args= [WData.list (ns.map WData.int)]/\h.get? a=some {cls:=.type "list",data:=.seq vs.toArray}/\IntsAre vs ns/\ns.length<=n:=by
 have hsh:WShape.hasAll [] args [.list .int]=true:=(pre_splitW hpre).1
 have hc:l.pre.holds [] {args:=args}=true:=(pre_splitW hpre).2
 obtain⟨d,r,rfl,h1,h2⟩:=hasAllW_cons hsh
 obtain rfl:=hasAllW_nil h2
 obtain⟨xs,rfl,h3⟩:=hasW_list h1
 obtain⟨ns,rfl⟩:=items_int h3
 have hlen:ns.length<=n:=by
  unfold OpenLaw.pre at hc
  have h4:(WTm.not (.lt (.lit (.int (n:Int))) (.len (.arg 0)))).holds [] {args:=[.list (ns.map .int)]}=true:=by
   have h4:=(holds_andW hc).1
   rw[hn] at h4
   exact h4
  have h5:=condW_of h4 (w_not (w_lt w_lit (w_len_list (w_arg rfl))))
  rw[length_map] at h5
  refine Nat.le_of_not_lt fun q=>?_
  have q':(n:Int) < ((ns.length:Nat):Int):=by omega
  first
   | (rw[decide_eq_true q'] at h5;exact absurd h5 (by decide))
   | (simp at h5;omega)
 cases hwl with
 |cons w1 w2=>
  cases w2
  cases w1 with
  |list ho hall=>exact⟨_,_,ns,rfl,rfl,ho,oR ns _ hall,hlen⟩
theorem zi (l:OpenLaw)(args:List WData):l.row.toRowW.claim.post args (.bool true) args=true:=
 postW_of (r:=l.row.toRowW) (X:=(true == true))
  (show WShape.has [] (.bool true) .bool=true by first |rfl |decide |simp[WShape.has,WShape.arms,WShape.armsAll])
  (show (WTm.eq .res (.lit (.bool true))).value [] {args:=args,res:=some (.bool true),after:=args}=some (.bool (true == true)) from w_eq_bool (w_res rfl) w_lit) rfl
theorem vG {l:OpenLaw}{n:Nat}{q:Program}{loose:List Str}{XP:(Str->Option Value)->Heap->Prop}{YP:World->Heap->Prop}{d:DefRec}
  (hn:l.most=some n) (hdf:d.params.defaults= [])
  (call:∀(w:World) (s₀ s₁:Shared) (mg mb:Str->Option Value) (fa:Addr) (o:Obj) (pm cd doc:Value) (a:Addr) (vs:List Value) (ns:List Int),
   Ground q loose [] XP w s₀ mg mb s₁.heap->YP w s₁.heap->
   s₁.heap.get? fa=some o->o.data=.func (docDef d.name d.params d.body d.scope pm cd doc)->s₁.heap.CodeRec cd d.name->mg d.name=some (.ref fa)->
   s₁.heap.get? a=some {cls:=.type "list",data:=.seq vs.toArray}->IntsAre vs ns->ns.length<=n->s₁.gens=#[]->
   codeAny (model l.prog w) callerA (.call (.ref fa) ⟨[.ref a],[]⟩) (fun r s'=>r=.ok (.ret (.bool true))/\OldK s₁.heap s'.heap/\s'.os=s₁.os/\AllBare s'.gens) s₁) :
  WalkO q loose XP YP l.row.toRowW d [] (fun f vs=>PySem.call f vs):=by
 intro w s₀ s₁ mg mb G Y fa o pm cd doc dV kV ho hd hcd hD hmg hg args vals as hpre hlay hrd hwl hlo
 obtain rfl:dV=.none:=Dflts.none hD hdf
 obtain rfl:kV=.none:=Dflts.noKw hD
 obtain⟨a,vs,ns,rfl,rfl,hobj,hints,hlen⟩:=zF hn hpre hwl
 refine enter_call (codeAny_mono (call w s₀ s₁ mg mb fa o pm cd doc a vs ns G Y ho (fd_plain hd) hcd hmg hobj hints hlen hg) fun r s' hq=>?_)
 obtain⟨rfl,h2,h3,h4⟩:=hq
 exact⟨.inl ⟨.bool true,.bool true,[],rfl,fun _=>rfl,.bool true,zi l _,fun _=>⟨List.Pairwise.nil,fun _ hm=>(nomatch hm)⟩⟩,h2,h3,h4⟩
end Att
namespace L2
open PySem PySem.Spec PyProof.Rows
theorem rT:∀{vs:List Value} {ns:List Int},IntsAre vs ns->Vals (ns.map V.int) vs
 |_,_,.nil=>.nil
 |_,_,.cons n t h=>.cons ⟨t,rfl⟩ (rT h)
def Ft (H:Hp):Prop:=∀b,H b=none\/∃o xs,H b=some (.bp o (.lst xs))
theorem CB {P:Program}{w:World}{K:Frag}{mg mb:Str->Option Value}{CX:z8}{k:Nat}{fa a:Addr}{fd:FuncData}{x:Str}{sp:Sp}{s₁:Shared}{vs:List Value}{ns:List Int}
  (KX:K.In s₁.heap) (hns:s₁.heap.Ns mainGlobals mg) (hb:s₁.heap.Ns builtinsNs mb) (hbb:∀x:Str,x≠"__name__"->mb x=bootBuiltins x) (hlim:s₁.heap.NoLimit) (hsys:∃mm,s₁.heap.Ns sysModules mm) (hg:s₁.gens=#[])
  (ha:s₁.heap.get? a=some {cls:=.type "list",data:=.seq vs.toArray}) (hi:IntsAre vs ns) (hl:ns.length<=sizeLine) (hr:gy k callerA)
  (F:∀base:Heap,K.In base->base.Ns mainGlobals mg->gP P w K mg base CX k fa fd [x] sp) (hbind:∀(s:Shared) (u:Value),BindsTo s fd ⟨[u],[]⟩ [(x,u)])
  (hsp:∀H:Hp,Ft H->hX K H a (ns.map V.int)->sp [.ref a] H (fun v _=>v=.bl true) fun _ _ _=>False)
  (hCX:∀H e s',CX [] H s₁ (fun _ _ _=>False) e s'->False) :
  codeAny (model P w) callerA (.call (.ref fa) ⟨[.ref a],[]⟩) (fun r s'=>r=.ok (.ret (.bool true))/\OldK s₁.heap s'.heap/\s'.os=s₁.os/\AllBare s'.gens) s₁:=by
 have rv:=rT hi
 have lenV:=hi.length
 have core:∀H:Hp,Ft H->hX K H a (ns.map V.int)->mR P w H s₁.heap->(∀b,H b≠none->b=a)->(H a≠none->K.lookup a=none)->
   codeAny (model P w) callerA (.call (.ref fa) ⟨[.ref a],[]⟩) (fun r s'=>r=.ok (.ret (.bool true))/\OldK s₁.heap s'.heap/\s'.os=s₁.os/\AllBare s'.gens) s₁:=by
  intro H hO hS hok hA hK
  have base_of:∀{b:Addr} {o:Obj},s₁.heap.get? b=some o->H b=none->(um s₁.heap H).get? b=some o:=fun e n=>BE e n
  have noA:∀{b:Addr} {o:Obj} {es:Array DictEntry} {ep:Nat},s₁.heap.get? b=some o->o.data=.dict es ep->H b=none:=fun {b o es ep} e d=>by
   cases q:H b with
   |none=>rfl
   |some u=>
    have e':b=a:=hA b (by rw[q];simp)
    subst e'
    rw[ha] at e;cases e
    have d':Data.seq vs.toArray _=Data.dict es ep:=d
    cases d'
  have nsK:∀{b:Addr} {m:Str->Option Value},s₁.heap.Ns b m->(um s₁.heap H).Ns b m:=fun {b m} ⟨o,es,ep,e,d,r⟩=>⟨o,es,ep,base_of e (noA e d),d,r⟩
  have hKb:K.In (um s₁.heap H):=fun b o e=>base_of (KX b o e) (by
   cases q:H b with
   |none=>rfl
   |some u=>
    have e':b=a:=hA b (by rw[q];simp)
    subst e'
    rw[hK (by rw[q];simp)] at e;cases e)
  have hM:Mod K mg (um s₁.heap H):=⟨hKb,nsK hns,⟨mb,nsK hb,hbb⟩,let ⟨mc,h1,h2⟩:=hlim;⟨mc,nsK h1,h2⟩,let ⟨mm,h1⟩:=hsys;⟨mm,nsK h1⟩⟩
  have e0:DB P w K mg (um s₁.heap H) callerA [] s₁ H:=⟨rfl,hM,fun b o e=>C3 e,Nat.le_of_eq (Ab _ _),trivial,fun b hb=>absurd (show b∈([]:List Addr) from hb) (by simp),hok,.of_eq hg⟩
  refine codeAny_mono ((F _ hKb (nsK hns)).run callerA [] s₁ H ⟨[.ref a],[]⟩ [.ref a] [.ref a] _ _ hr e0 (hbind s₁ (.ref a)) (.cons rfl .nil) (hsp H hO hS)) fun r s' h=>?_
  cases r with
  |error e=>exact (hCX H e s' h).elim
  |ok fl=>
   cases fl with
   |next=>exact False.elim h
   |brk=>exact False.elim h
   |cont=>exact False.elim h
   |ret u=>
    obtain⟨v,H',os,bare,un,hok',r',q⟩:=h
    have q':v=.bl true:=q
    subst q'
    obtain rfl:u=Value.bool true:=r'
    refine⟨rfl,OldK.of_keep fun b o e=>?_,os,bare⟩
    cases q:H b with
    |none=>exact un.keep b o e q (by intro z;exact absurd (show b∈([]:List Addr) from z) (by simp)) (by simp)
    |some u=>
     rcases hO b with z | ⟨ob,xs,z⟩
     ·rw[q] at z;cases z
     ·have z2:=un.frzs b ob _ z
      obtain⟨e1,_⟩:=hok b _ z
      obtain⟨e2,_⟩:=hok' b _ z2
      rw[e] at e1;cases e1
      exact e2
 cases hk:K.lookup a with
 |some o=>
  have e:=KX a o hk
  rw[ha] at e
  cases e
  refine core (fun _=>none) (fun _=>.inl rfl) (.inr ⟨_,vs.toArray,_,hk,rfl,rfl,rfl,by rw[size_toArray,lenV];exact hl,by simpa using rv⟩) (fun b u z=>by have z':(none:Option HO)=some u:=z;cases z') (fun b z=>absurd rfl z) fun z=>absurd rfl z
 |none=>
  refine core (fun b=>if b=a then some (.bp {cls:=.type "list",data:=.seq vs.toArray} (.lst (ns.map V.int))) else none) (fun b=>?_) (.inl (.inr ⟨{cls:=.type "list",data:=.seq vs.toArray},if_pos rfl⟩)) (fun b u z=>?_) (fun b z=>?_) fun _=>hk
  ·by_cases hb:b=a
   ·exact .inr ⟨_,_,if_pos hb⟩
   ·exact .inl (if_neg hb)
  ·by_cases hb:b=a
   ·have z':=(if_pos hb).symm.trans z
    cases z'
    subst hb
    exact⟨ha,by rw[length_map];exact hl,vs,_,rv,ha⟩
   ·have z':=(if_neg hb).symm.trans z
    cases z'
  ·by_cases hb:b=a
   ·exact hb
   ·exact absurd (if_neg hb) z
theorem CZ {l:PySem.W.OpenLaw}{n k:Nat}{q:Program}{loose:List Str}{XP:(Str->Option Value)->Heap->Prop}{YP:World->Heap->Prop}{d:DefRec}{K:Params->Frag}{CX:World->z8}{sp:World->Sp}{x:Str}
  (hn:l.most=some n) (hn2:n<=sizeLine) (hdf:d.params.defaults= []) (hi:PyProof.Rows.importsNone q=true) (hr:gy k callerA)
  (hY:∀(w:World) (h:Heap),YP w h->(K w.params).In h)
  (F:∀(w:World) (mg:Str->Option Value) (fa:Addr) (h:Heap),(K w.params).In h->h.Ns mainGlobals mg->mg d.name=some (.ref fa)->
   ∃fd:FuncData,(∀(s:Shared) (u:Value),BindsTo s fd ⟨[u],[]⟩ [(x,u)])/\
    ∀base:Heap,(K w.params).In base->base.Ns mainGlobals mg->gP l.prog w (K w.params) mg base (CX w) k fa fd [x] (sp w))
  (hsp:∀(w:World) (H:Hp) (a:Addr) (ns:List Int),ns.length<=n->Ft H->hX (K w.params) H a (ns.map V.int)->sp w [.ref a] H (fun v _=>v=.bl true) fun _ _ _=>False)
  (hCX:∀(w:World) (H:Hp) (s:Shared) (e:Value) (s':Shared),CX w [] H s (fun _ _ _=>False) e s'->False) :
  PySem.W.WalkO q loose XP YP l.row.toRowW d [] (fun f vs=>PySem.call f vs):=by
 refine Att.vG hn hdf fun w s₀ s₁ mg mb fa o pm cd doc a vs ns G Y ho hd hcd hmg hobj hints hlen hg=>?_
 have KX:=hY w _ Y
 obtain⟨fd,hb,hF⟩:=F w mg fa _ KX G.T.g hmg
 exact CB KX G.T.g G.T.b G.T.builtins G.T.nolimit (let ⟨mm,h1,_⟩:=(G.T.seer hi).mods;⟨mm,h1⟩) hg hobj hints (Nat.le_trans hlen hn2) hr hF hb (fun H hO hS=>hsp w H a ns hlen hO hS) fun H e s'=>hCX w H s₁ e s'
def jo (s:Stmt):Arguments:=match s with
 | .FunctionDef _ a _ _ _ _ _ _ _ _=>a
 |_=>{posonlyargs:=[],args:=[],vararg:=none,kwonlyargs:=[],kw_defaults:=[],kwarg:=none,defaults:=[]}
def df (s:Stmt):List Stmt:=match s with
 | .FunctionDef _ _ b _ _ _ _ _ _ _=>b
 |_=>[]
def av (s:Stmt):Scope:=match s with
 | .FunctionDef _ _ _ _ _ _ sc _ _ _=>sc
 |_=>{kind:=.function,names:=[],isGenerator:=false,isCoroutine:=false}
abbrev E1:z8:=fun _ _ _ _ _ _=>False
abbrev E0:XK:=fun _ _ _=>False
theorem HE {X:Cx}:Passes E1 X E0:=fun _ _ _ _ _ _ _ h=>h.elim
structure CI (K:Frag)(x qual:Str)(st:Stmt)(f:Addr)(fd:FuncData):Prop where
 ex:∃(oc:Value) (od:Option Addr) (kV doc pm:Value) (an:Option Addr) (cdv ct:Value) (osl:Array (Option Value)),
  fd=PySem.W.fnOf x qual (jo st) (df st) (av st) .none kV doc pm an cdv ct/\K.lookup f=some ⟨oc,od,.func fd,osl⟩/\PySem.W.codeIn K cdv qual=true
 kp:PySem.W.keepIn K (.ref f)=true
section
variable {P:Program}{w:World}{K:Frag}{mg:Str->Option Value}{base:Heap}
theorem CI.ok {x qual:Str}{st:Stmt}{f:Addr}{fd:FuncData}{N ps:List Str}{k:Nat}{sp:Sp}(F:CI K x qual st f fd)(S:aJ N ps (av st))(len:∀vs H Q E,sp vs H Q E->vs.length=ps.length)
  (hbody:∀(cdv:Value) (A:Around) (outer:List Env) (s:Shared) (H:Hp) (vs:List V) (Q:VK) (E:XK),gy k (A.deeper (envOfC qual (av st) s.heap.objs.size f cdv))->sp vs H Q E->
   ∃t,sf (mi E1 P w K mg base N qual (av st) f cdv A outer s H E).nox (df st) t/\t {nx:=fun _ H'=>Q .non H',rt:=Q} (start N vs) H):gP P w K mg base E1 (k + 1) f fd ps sp:=by
 obtain⟨oc,od,kV,doc,pm,an,cdv,ct,osl,rfl,lk,hcd⟩:=F.ex
 refine ES lk hcd S len fun A outer s H vs Q E hr hsp=>?_
 obtain⟨t,h,q⟩:=hbody cdv A outer s H vs Q E hr hsp
 exact⟨t,h.nox,q⟩
theorem CI.binds {x qual:Str}{st:Stmt}{f:Addr}{fd:FuncData}{ps:List Str}(F:CI K x qual st f fd)
  (h:∀(kV doc pm:Value) (an:Option Addr) (cdv ct:Value) (us:List Value),us.length=ps.length->bindArgs (PySem.W.fnOf x qual (jo st) (df st) (av st) .none kV doc pm an cdv ct) ⟨us,[]⟩=pure (ps.zip us)):Binds K fd ps []:=by
 obtain⟨oc,od,kV,doc,pm,an,cdv,ct,osl,rfl,lk,hcd⟩:=F.ex
 exact .all (h kV doc pm an cdv ct)
theorem xX {x qual:Str}{st:Stmt}{f:Addr}{oc:Value}{od an:Option Addr}{osl:Array (Option Value)}{kV doc pm cdv ct:Value}(l:K.lookup f=some ⟨oc,od,.func (PySem.W.fnOf x qual (jo st) (df st) (av st) .none kV doc pm an cdv ct),osl⟩)
  (c:PySem.W.codeIn K cdv qual=true) (k:PySem.W.keepIn K (.ref f)=true):CI K x qual st f (PySem.W.fnOf x qual (jo st) (df st) (av st) .none kV doc pm an cdv ct):=⟨⟨oc,od,kV,doc,pm,an,cdv,ct,osl,rfl,l,c⟩,k⟩
end
section
variable {X:Cx}
theorem pv (i:Nat){x:Str}{pos:Pos}(hN:X.N[i]? =some x:=by rfl)(hv:zI X.env.scope x:=by first |exact Or.inl rfl |exact Or.inr (Or.inl rfl) |exact Or.inr (Or.inr rfl))(hd:(x == ("__debug__":Str))=false:=by decide)
  (hcd:(x == ("__classdict__":Str))=false:=by decide):PE X (.Name x pos) (DH i):=jJ hN hv hd hcd
end
theorem qX {A B:Prop}(h:B):if false=true then A else B:=by
 rw[if_neg Bool.false_ne_true]
 exact h
theorem qW {A B:Prop}(h:A):if true=true then A else B:=by
 rw[if_pos rfl]
 exact h
def ax (H H':Hp):Prop:=∀b o,H b=some o->H' b=some o
theorem ax.refl (H:Hp):ax H H:=fun _ _ h=>h
theorem ax.trans {H H1 H2:Hp}(a:ax H H1)(b:ax H1 H2):ax H H2:=fun c o h=>b c o (a c o h)
theorem ax.free {H H':Hp}(e:ax H H'){l:Addr}(h:H' l=Option.none):H l=Option.none:=by
 cases q:H l with
 |none=>rfl
 |some o=>
  rw[e l o q] at h
  cases h
theorem ax.seq {K:Frag}{H H':Hp}{a:Addr}{xs:List V}(e:ax H H')(h:hX K H a xs):hX K H' a xs:=by
 rcases h with (h | ⟨o,h⟩) |h
 ·exact .inl (.inl (e _ _ h))
 ·exact .inl (.inr ⟨o,e _ _ h⟩)
 ·exact .inr h
end L2
end
namespace L2.ST
open PySem PySem.SetTable
abbrev kn (xs:Array Nat):Prop:=xs.toList.Pairwise (· < ·)
theorem jE {xs:Array Nat}(h:kn xs){i k d:Nat}(hik:i < k)(hk:k < xs.size):xs.getD i d < xs.getD k d:=by
 have hi:i < xs.size:=Nat.lt_trans hik hk
 have:=pairwise_iff_getElem.mp h i k (by simpa using hi) (by simpa using hk) hik
 simpa[Array.getD,hi,hk] using this
theorem AE {xs:Array Nat}{j:Nat}(h:kn xs):∀(fuel lo hi:Nat),lo<=hi->hi<=xs.size->hi - lo<=fuel->
  (∀i,i < lo->xs.getD i j < j)->(∀i,hi<=i->i < xs.size->j<=xs.getD i j)->
  below.go xs j fuel lo hi<=xs.size/\(∀i,i < below.go xs j fuel lo hi->xs.getD i j < j)/\(∀i,below.go xs j fuel lo hi<=i->i < xs.size->j<=xs.getD i j):=by
 intro fuel
 induction fuel with
 |zero=>
  intro lo hi h1 h2 h3 h4 h5
  have:lo=hi:=by omega
  subst this
  exact⟨h2,h4,h5⟩
 |succ fuel ih=>
  intro lo hi h1 h2 h3 h4 h5
  unfold below.go
  by_cases hlt:lo < hi
  ·rw[if_pos hlt]
   dsimp only
   by_cases hm:xs.getD ((lo + hi) / 2) j < j
   ·rw[if_pos hm]
    refine ih _ _ (by omega) h2 (by omega) (fun i hi'=>?_) h5
    by_cases e:i=(lo + hi) / 2
    ·rw[e];exact hm
    ·exact Nat.lt_trans (jE h (show i < (lo + hi) / 2 by omega) (by omega)) hm
   ·rw[if_neg hm]
    refine ih _ _ (by omega) (by omega) (by omega) h4 (fun i hi' hs=>?_)
    by_cases e:i=(lo + hi) / 2
    ·rw[e];omega
    ·have:=jE (d:=j) h (show (lo + hi) / 2 < i by omega) hs
     omega
  ·rw[if_neg hlt]
   have:lo=hi:=by omega
   subst this
   exact⟨h2,h4,h5⟩
theorem eH {xs:Array Nat}(h:kn xs)(j:Nat) :
  below xs j<=xs.size/\(∀i,i < below xs j->xs.getD i j < j)/\(∀i,below xs j<=i->i < xs.size->j<=xs.getD i j):=
 AE h xs.size 0 xs.size (Nat.zero_le _) (Nat.le_refl _) (by omega) (fun i hi=>by omega) (fun i h1 h2=>by omega)
theorem zt {xs:Array Nat}(h:kn xs){i j:Nat}(hi:xs[i]? =some j):below xs j=i:=by
 obtain⟨b1,b2,b3⟩:=eH h j
 have hs:i < xs.size:=(Array.getElem?_eq_some_iff.mp hi).1
 have hv:xs.getD i j=j:=by rw[Array.getD_eq_getD_getElem?,hi];rfl
 rcases Nat.lt_trichotomy i (below xs j) with c |c |c
 ·have:=b2 i c;omega
 ·exact c.symm
 ·have hb:below xs j < xs.size:=by omega
  have q:=b3 (below xs j) (Nat.le_refl _) hb
  have:=jE (d:=j) h c hs
  omega
theorem yP (j:Nat):has #[] j=false:=by
 unfold has
 simp
theorem sg {t:SetTable}(h:kn t.place){i j:Nat}(hi:t.place[i]? =some j):t.slot j=.live i:=by
 unfold slot
 dsimp only
 rw[zt h hi,if_pos (by simp[hi])]
theorem xC {t:SetTable}(hd:t.dummies=#[]){j:Nat}(hj:j∉t.place):t.slot j=.empty:=by
 unfold slot
 dsimp only
 have:¬(t.place[below t.place j]? == some j)=true:=by
  intro e
  have e':t.place[below t.place j]? =some j:=by simpa using e
  obtain⟨h1,h2⟩:=Array.getElem?_eq_some_iff.mp e'
  exact hj (Array.mem_iff_getElem.mpr ⟨_,h1,h2⟩)
 rw[if_neg this,hd,yP]
 rfl
def wB (mask:Nat)(p:Probe):Probe:=
 if p.more > 0 then {p with j:=p.j + 1,more:=p.more - 1} else
 {p with j:=(leap mask p.i p.perturb).1,more:=runEnd mask (leap mask p.i p.perturb).1 - (leap mask p.i p.perturb).1,i:=(leap mask p.i p.perturb).1,perturb:=(leap mask p.i p.perturb).2}
def zK (mask i perturb:Nat):Probe:={j:=i,more:=runEnd mask i - i,i,perturb,dummy:=none}
def st (mask:Nat)(h:Int):Probe:=zK mask (bits h % (mask + 1)) (bits h)
theorem Be (t:SetTable)(p:Probe):t.advance p=wB t.mask p:=rfl
theorem EN (t:SetTable)(h:Int):t.probeStart h=st t.mask h:=rfl
def gn (mask:Nat):Nat->Probe->Probe
 | 0,p=>p
 |n + 1,p=>gn mask n (wB mask p)
theorem lE (mask:Nat):∀(n m:Nat) (p:Probe),gn mask (n + m) p=gn mask m (gn mask n p)
 | 0,m,p=>by rw[Nat.zero_add];rfl
 |n + 1,m,p=>by rw[Nat.add_right_comm];exact lE mask n m (wB mask p)
theorem Ce {mask:Nat}{p:Probe}(h:p.dummy=none):(wB mask p).dummy=none:=by
 unfold wB;split <;> exact h
theorem kc {mask i:Nat}(h:i<=mask):i<=runEnd mask i/\runEnd mask i<=mask/\runEnd mask i - i<=9:=by
 unfold runEnd;split <;> omega
def In (mask:Nat)(p:Probe):Prop:=p.j + p.more<=mask/\p.more<=9
theorem GQ {mask i q:Nat}(h:i<=mask):In mask (zK mask i q):=by
 have:=kc h
 unfold In zK;dsimp only;omega
theorem nc (mask i q:Nat):(leap mask i q).1<=mask:=by
 unfold leap;exact Nat.lt_succ_iff.mp (Nat.mod_lt _ (Nat.succ_pos _))
theorem Fm {mask:Nat}{p:Probe}(h:In mask p):In mask (wB mask p):=by
 unfold wB
 by_cases hm:p.more > 0
 ·rw[if_pos hm];unfold In at *;dsimp only;omega
 ·rw[if_neg hm]
  have:=kc (nc mask p.i p.perturb)
  unfold In;dsimp only;omega
theorem yy {mask:Nat}:∀(n:Nat) {p:Probe},In mask p->In mask (gn mask n p)
 | 0,_,h=>h
 |n + 1,_,h=>yy n (Fm h)
theorem Hs (mask:Nat)(h:Int):In mask (st mask h):=GQ (Nat.lt_succ_iff.mp (Nat.mod_lt _ (Nat.succ_pos _)))
theorem wm (mask:Nat):∀(k:Nat) (p:Probe),p.more=k->gn mask (k + 1) p={p with j:=(leap mask p.i p.perturb).1,more:=runEnd mask (leap mask p.i p.perturb).1 - (leap mask p.i p.perturb).1,i:=(leap mask p.i p.perturb).1,perturb:=(leap mask p.i p.perturb).2}
 | 0,p,h=>by
  show wB mask p=_
  unfold wB
  rw[if_neg (by omega)]
 |k + 1,p,h=>by
  have e:wB mask p={p with j:=p.j + 1,more:=p.more - 1}:=by unfold wB;rw[if_pos (by omega)]
  show gn mask (k + 1) (wB mask p)=_
  rw[e,wm mask k _ (by dsimp only;omega)]
theorem nQ (mask i q:Nat):gn mask (runEnd mask i - i + 1) (zK mask i q)=zK mask (leap mask i q).1 (leap mask i q).2:=by
 exact wm mask _ (zK mask i q) rfl
theorem kH (mask i q:Nat):∀(k:Nat),k<=runEnd mask i - i->(gn mask k (zK mask i q))={zK mask i q with j:=i + k,more:=runEnd mask i - i - k}
 | 0,_=>rfl
 |k + 1,h=>by
  rw[lE mask k 1,kH mask i q k (by omega)]
  show wB mask _=_
  unfold wB
  rw[if_pos (by dsimp only;omega)]
  simp only[Probe.mk.injEq]
  refine⟨by omega,by omega,?_⟩
  trivial
def gQ (mask:Nat):Nat->Nat×Nat->Nat×Nat
 | 0,x=>x
 |k + 1,x=>gQ mask k (leap mask x.1 x.2)
theorem oN (mask:Nat):∀(k i q:Nat),i<=mask->∃n,n<=10 * k/\gn mask n (zK mask i q)=zK mask (gQ mask k (i,q)).1 (gQ mask k (i,q)).2
 | 0,i,q,_=>⟨0,Nat.le_refl _,rfl⟩
 |k + 1,i,q,h=>by
  obtain⟨n,hn,e⟩:=oN mask k (leap mask i q).1 (leap mask i q).2 (nc _ _ _)
  have:=kc h
  refine⟨(runEnd mask i - i + 1) + n,by omega,?_⟩
  rw[lE,nQ,e]
  rfl
theorem si (mask:Nat):∀(a b:Nat) (x:Nat×Nat),gQ mask (a + b) x=gQ mask b (gQ mask a x)
 | 0,b,x=>by rw[Nat.zero_add];rfl
 |a + 1,b,x=>by rw[Nat.add_right_comm];exact si mask a b (leap mask x.1 x.2)
theorem vv (mask:Nat):∀(k:Nat) (x:Nat×Nat),x.1<=mask->(gQ mask k x).1<=mask
 | 0,_,h=>h
 |k + 1,x,_=>vv mask k _ (nc mask x.1 x.2)
theorem mj (mask:Nat):∀(k:Nat) (x:Nat×Nat),(gQ mask k x).2=x.2 / 32 ^ k
 | 0,x=>by simp[gQ]
 |k + 1,x=>by
  show (gQ mask k (leap mask x.1 x.2)).2=_
  rw[mj mask k,Nat.pow_succ,Nat.mul_comm,<-Nat.div_div_eq_div_mul]
  rfl
def nx (mask i:Nat):Nat:=(i * 5 + 1) % (mask + 1)
def Am (mask:Nat):Nat->Nat->Nat
 | 0,i=>i
 |k + 1,i=>Am mask k (nx mask i)
theorem o7 (mask:Nat):∀(a b i:Nat),Am mask (a + b) i=Am mask b (Am mask a i)
 | 0,b,i=>by rw[Nat.zero_add];rfl
 |a + 1,b,i=>by rw[Nat.add_right_comm];exact o7 mask a b (nx mask i)
theorem pW (mask:Nat):∀(k i:Nat),gQ mask k (i,0)=(Am mask k i,0)
 | 0,_=>rfl
 |k + 1,i=>by
  show gQ mask k (leap mask i 0)=_
  have:leap mask i 0=(nx mask i,0):=by simp[leap,nx]
  rw[this,pW mask k]
  rfl
def Bf (mask:Nat):Prop:=mask=7\/mask=31\/mask=127
theorem Ir (mask:Nat)(hm:Bf mask):Am mask (mask + 1) 0=0/\∀j,j<=mask->∃k,k<=mask/\Am mask k 0=j:=by
 have h7:∀j:Nat,j < 8->∃k,k < 8/\Am 7 k 0=j:=by decide +kernel
 have h31:∀j:Nat,j < 32->∃k,k < 32/\Am 31 k 0=j:=by decide +kernel
 have h127:∀j:Nat,j < 128->∃k,k < 128/\Am 127 k 0=j:=by decide +kernel
 rcases hm with rfl |rfl |rfl
 ·exact⟨by decide +kernel,fun j hj=>let ⟨k,a,b⟩:=h7 j (by omega);⟨k,by omega,b⟩⟩
 ·exact⟨by decide +kernel,fun j hj=>let ⟨k,a,b⟩:=h31 j (by omega);⟨k,by omega,b⟩⟩
 ·exact⟨by decide +kernel,fun j hj=>let ⟨k,a,b⟩:=h127 j (by omega);⟨k,by omega,b⟩⟩
theorem Hl {mask:Nat}(hm:Bf mask){i j:Nat}(hi:i<=mask)(hj:j<=mask):∃k,k<=mask/\Am mask k i=j:=by
 obtain⟨z,o⟩:=Ir mask hm
 obtain⟨a,ha,ea⟩:=o i hi
 obtain⟨b,hb,eb⟩:=o j hj
 have back:Am mask (mask + 1 - a) i=0:=by
  rw[<-ea,<-o7,show a + (mask + 1 - a)=mask + 1 by omega];exact z
 by_cases hab:a<=b
 ·refine⟨b - a,by omega,?_⟩
  rw[<-ea,<-o7,show a + (b - a)=b by omega];exact eb
 ·refine⟨mask + 1 - a + b,by omega,?_⟩
  rw[o7,back];exact eb
theorem qM {mask:Nat}(hm:Bf mask){i q j:Nat}(hi:i<=mask)(hq:q < 2 ^ 64)(hj:j<=mask):∃k,k<=mask + 13/\(gQ mask k (i,q)).1=j:=by
 have hz:(gQ mask 13 (i,q)).2=0:=by
  rw[mj]
  exact Nat.div_eq_of_lt (Nat.lt_of_lt_of_le hq (by decide))
 obtain⟨k,hk,e⟩:=Hl hm (vv mask 13 (i,q) hi) hj
 refine⟨13 + k,by omega,?_⟩
 rw[si]
 have:gQ mask 13 (i,q)=((gQ mask 13 (i,q)).1,0):=Prod.ext rfl hz
 rw[this,pW]
 exact e
theorem yM (h:Int):bits h < 2 ^ 64:=by
 unfold bits
 have:=Int.emod_lt_of_pos h (show (0:Int) < 2 ^ 64 by decide)
 have:=Int.emod_nonneg h (show (2 ^ 64:Int)≠0 by decide)
 omega
theorem Ar {mask:Nat}(hm:Bf mask)(h:Int){j:Nat}(hj:j<=mask):∃n,n < 10 * turns mask/\(gn mask n (st mask h)).j=j:=by
 have hi:bits h % (mask + 1)<=mask:=Nat.lt_succ_iff.mp (Nat.mod_lt _ (Nat.succ_pos _))
 obtain⟨k,hk,e⟩:=qM hm hi (yM h) hj
 obtain⟨n,hn,q⟩:=oN mask k (bits h % (mask + 1)) (bits h) hi
 refine⟨n,by unfold turns;omega,?_⟩
 show (gn mask n (zK mask _ _)).j=j
 rw[q];exact e
theorem Ax {t:SetTable}{hashAt:Nat->Int}{h:Int}:∀(n fuel:Nat) (p:Probe),n < fuel->p.dummy=none->
  (∀m,m < n->∃i,t.slot (gn t.mask m p).j=.live i/\hashAt i≠h)->t.slot (gn t.mask n p).j=.empty->
  probe.go t hashAt h fuel p=some (.empty (gn t.mask n p).j none):=by
 intro n
 induction n with
 |zero=>
  intro fuel p hf hd _ he
  obtain⟨f,rfl⟩:∃f,fuel=f + 1:=⟨fuel - 1,by omega⟩
  unfold probe.go
  have he':t.slot p.j=.empty:=he
  rw[he',hd]
  rfl
 |succ n ih=>
  intro fuel p hf hd hl he
  obtain⟨f,rfl⟩:∃f,fuel=f + 1:=⟨fuel - 1,by omega⟩
  unfold probe.go
  obtain⟨i,e,ne⟩:=hl 0 (by omega)
  have e':t.slot p.j=.live i:=e
  rw[e']
  dsimp only
  rw[if_neg (by simpa using ne),Be]
  exact ih f (wB t.mask p) (by omega) (Ce hd) (fun m hm=>hl (m + 1) (by omega)) he
theorem A5 {t:SetTable}{hashAt:Nat->Int}{h:Int}:∀(n fuel:Nat) (p:Probe),n < fuel->
  (∀m,m<=n->∃i,t.slot (gn t.mask m p).j=.live i)->(∃i,t.slot (gn t.mask n p).j=.live i/\hashAt i=h)->
  ∃j i next,probe.go t hashAt h fuel p=some (.candidate j i next)/\t.slot j=.live i/\hashAt i=h:=by
 intro n
 induction n with
 |zero=>
  intro fuel p hf _ he
  obtain⟨f,rfl⟩:∃f,fuel=f + 1:=⟨fuel - 1,by omega⟩
  obtain⟨i,e,eh⟩:=he
  have e':t.slot p.j=.live i:=e
  unfold probe.go
  rw[e']
  dsimp only
  rw[if_pos (by simpa using eh)]
  exact⟨p.j,i,_,rfl,e',eh⟩
 |succ n ih=>
  intro fuel p hf hl he
  obtain⟨f,rfl⟩:∃f,fuel=f + 1:=⟨fuel - 1,by omega⟩
  obtain⟨i,e⟩:=hl 0 (by omega)
  have e':t.slot p.j=.live i:=e
  unfold probe.go
  rw[e']
  dsimp only
  by_cases hh:hashAt i=h
  ·rw[if_pos (by simpa using hh)]
   exact⟨p.j,i,_,rfl,e',hh⟩
  ·rw[if_neg (by simpa using hh),Be]
   exact ih f (wB t.mask p) (by omega) (fun m hm=>hl (m + 1) (by omega)) he
def Reach (mask:Nat)(L:Nat->Prop)(h:Int)(j:Nat):Prop:=∃n,n < 10 * turns mask/\(gn mask n (st mask h)).j=j/\∀m,m < n->L (gn mask m (st mask h)).j
theorem Reach.mono {mask:Nat}{L L':Nat->Prop}{h:Int}{j:Nat}(r:Reach mask L h j)(k:∀x,L x->L' x):Reach mask L' h j:=
 let ⟨n,a,b,c⟩:=r;⟨n,a,b,fun m hm=>k _ (c m hm)⟩
structure Tab (t:SetTable)(hs:List Int):Prop where
 mask:Bf t.mask
 dum:t.dummies=#[]
 rise:kn t.place
 le:∀j,j∈t.place->j<=t.mask
 size:t.place.size=hs.length
 load:t.place.size * 5 < t.mask * 3
 reach:∀(i j:Nat) (h:Int),t.place[i]? =some j->hs[i]? =some h->Reach t.mask (· ∈t.place) h j
 plain:t.plain=true
theorem bW {α:Type}[DecidableEq α]:∀{l m:List α},l.Nodup->(∀x,x∈l->x∈m)->l.length<=m.length
 | [],_,_,_=>Nat.zero_le _
 |a :: l,m,hn,hs=>by
  have ha:=hs a (mem_cons_self ..)
  have hl:=nodup_cons.mp hn
  have:=bW (l:=l) (m:=m.erase a) hl.2 fun x hx=>by
   refine (List.mem_erase_of_ne ?_).mpr (hs x (mem_cons_of_mem _ hx))
   rintro rfl;exact hl.1 hx
  rw[length_erase_of_mem ha] at this
  have:0 < m.length:=List.length_pos_of_mem ha
  simp only[length_cons];omega
theorem wV {mask:Nat}{xs:Array Nat}(hl:xs.size<=mask):∃j,j<=mask/\j∉xs:=by
 refine Classical.byContradiction fun hc=>?_
 have all:∀j,j∈List.range (mask + 1)->j∈xs.toList:=fun j hj=>by
  have:=mem_range.mp hj
  refine Classical.byContradiction fun hn=>hc ⟨j,by omega,fun z=>hn (by simpa using z)⟩
 have:=bW nodup_range all
 simp at this
 omega
theorem ue {P:Nat->Prop}(h:∃n,P n):∃n,P n/\∀m,m < n->¬P m:=by
 obtain⟨n,hn⟩:=h
 induction n using Nat.strongRecOn with
 |_ n ih=>
  by_cases hc:∃m,m < n/\P m
  ·obtain⟨m,hm,hp⟩:=hc
   exact ih m hm hp
  ·exact⟨n,hn,fun m hm hp=>hc ⟨m,hm,hp⟩⟩
section
variable {t:SetTable}{hs:List Int}
theorem Tab.load' (T:Tab t hs):t.place.size<=t.mask:=by have:=T.load;omega
theorem Tab.slotL (T:Tab t hs){j:Nat}(hj:j∈t.place):∃i,t.slot j=.live i/\t.place[i]? =some j:=by
 obtain⟨i,hi,e⟩:=Array.mem_iff_getElem.mp hj
 have q:t.place[i]? =some j:=by rw[Array.getElem?_eq_getElem hi,e]
 exact⟨i,sg T.rise q,q⟩
theorem Tab.slotE (T:Tab t hs){j:Nat}(hj:j∉t.place):t.slot j=.empty:=xC T.dum hj
theorem Tab.first (T:Tab t hs)(h:Int):∃n,n < 10 * turns t.mask/\(gn t.mask n (st t.mask h)).j∉t.place/\∀m,m < n->(gn t.mask m (st t.mask h)).j∈t.place:=by
 obtain⟨j,hj,hn⟩:=wV T.load'
 obtain⟨n,h1,h2⟩:=Ar T.mask h hj
 obtain⟨k,hk,hlt⟩:=ue (P:=fun n=>(gn t.mask n (st t.mask h)).j∉t.place) ⟨n,by rw[h2];exact hn⟩
 refine⟨k,?_,hk,fun m hm=>Classical.byContradiction fun z=>hlt m hm z⟩
 rcases Nat.lt_or_ge n k with c |c
 ·exact absurd (show (gn t.mask n (st t.mask h)).j∉t.place by rw[h2];exact hn) (hlt n c)
 ·omega
theorem Tab.absent (T:Tab t hs){hashAt:Nat->Int}(ha:∀i,i < hs.length->some (hashAt i)=hs[i]?){h:Int}(hn:h∉hs) :
  ∃j,t.probe hashAt h (t.probeStart h)=some (.empty j none)/\j∉t.place/\j<=t.mask/\Reach t.mask (· ∈t.place) h j:=by
 obtain⟨n,h1,h2,h3⟩:=T.first h
 refine⟨(gn t.mask n (st t.mask h)).j,?_,h2,?_,⟨n,h1,rfl,h3⟩⟩
 ·unfold probe
  rw[EN]
  refine Ax n _ _ h1 rfl (fun m hm=>?_) (T.slotE h2)
  obtain⟨i,e,q⟩:=T.slotL (h3 m hm)
  refine⟨i,e,fun z=>hn ?_⟩
  have hi:i < hs.length:=by rw[<-T.size];exact (Array.getElem?_eq_some_iff.mp q).1
  have:=ha i hi
  rw[z] at this
  exact mem_of_getElem? this.symm
 ·have:=yy n (Hs t.mask h)
  unfold In at this;omega
theorem Tab.present (T:Tab t hs){hashAt:Nat->Int}(ha:∀i,i < hs.length->some (hashAt i)=hs[i]?){h:Int}(hm:h∈hs) :
  ∃j i next,t.probe hashAt h (t.probeStart h)=some (.candidate j i next)/\t.slot j=.live i/\i < hs.length/\hs[i]? =some h:=by
 obtain⟨i,hi,e⟩:=mem_iff_getElem.mp hm
 have hi':hs[i]? =some h:=by rw[getElem?_eq_getElem hi,e]
 have hp:i < t.place.size:=by rw[T.size];exact hi
 obtain⟨n,h1,h2,h3⟩:=T.reach i t.place[i] h (Array.getElem?_eq_getElem hp) hi'
 have hj:(gn t.mask n (st t.mask h)).j∈t.place:=by rw[h2];exact Array.getElem_mem hp
 obtain⟨j',i',nx,g1,g2,g3⟩:=A5 (t:=t) (hashAt:=hashAt) (h:=h) n (10 * turns t.mask) (st t.mask h) h1 (fun m hm=>by
   rcases Nat.lt_or_ge m n with c |c
   ·obtain⟨i,e,_⟩:=T.slotL (h3 m c);exact⟨i,e⟩
   ·have:m=n:=by omega
    subst this
    obtain⟨i,e,_⟩:=T.slotL hj;exact⟨i,e⟩)
  ⟨i,by rw[h2];exact sg T.rise (Array.getElem?_eq_getElem hp),by
   have:=ha i hi
   rw[hi'] at this
   exact Option.some.inj this⟩
 have hi2:i' < t.place.size:=by
  unfold slot at g2
  dsimp only at g2
  split at g2
  ·rename_i c
   have c':t.place[below t.place j']? =some j':=by simpa using c
   cases g2
   exact (Array.getElem?_eq_some_iff.mp c').1
  ·split at g2 <;> cases g2
 refine⟨j',i',nx,by unfold probe;rw[EN];exact g1,g2,by rw[<-T.size];exact hi2,?_⟩
 have:=ha i' (by rw[<-T.size];exact hi2)
 rw[g3] at this
 exact this.symm
end
theorem cx {α:Type}(xs:Array α)(p:Nat)(x:α)(_:p<=xs.size):(insertAt xs p x).toList=xs.toList.take p ++ x :: xs.toList.drop p:=by
 unfold insertAt
 simp[Array.toList_extract,List.extract_eq_take_drop]
 rw[take_of_length_le (by simp)]
theorem se (t:SetTable)(j:Nat)(hd:t.dummies=#[]):(t.put j).1={t with place:=insertAt t.place (below t.place j) j}/\(t.put j).2=below t.place j:=by
 unfold put
 dsimp only
 rw[hd,yP]
 exact⟨by simp,rfl⟩
section
variable {t:SetTable}{hs:List Int}
theorem ny {α:Type}{xs:Array α}{p:Nat}{x y:α}(hp:p<=xs.size):y∈insertAt xs p x↔y∈xs\/y=x:=by
 rw[<-Array.mem_toList_iff,cx xs p x hp,mem_append,mem_cons,<-Array.mem_toList_iff]
 have:y∈xs.toList↔y∈xs.toList.take p\/y∈xs.toList.drop p:=by
  conv=>lhs;rw[<-List.take_append_drop p xs.toList]
  exact mem_append
 rw[this]
 constructor
 ·rintro (a |a |a)
  ·exact .inl (.inl a)
  ·exact .inr a
  ·exact .inl (.inr a)
 ·rintro ((a |a) |a)
  ·exact .inl a
  ·exact .inr (.inr a)
  ·exact .inr (.inl a)
theorem ra {xs:Array Nat}(h:kn xs){j:Nat}(hj:j∉xs):kn (insertAt xs (below xs j) j):=by
 obtain⟨b1,b2,b3⟩:=eH h j
 unfold kn
 rw[cx _ _ _ b1]
 have hl:∀y,y∈xs.toList.take (below xs j)->y < j:=fun y hy=>by
  obtain⟨i,hi,e⟩:=mem_iff_getElem.mp hy
  have hi1:i < below xs j:=by simp at hi;omega
  have hi2:i < xs.size:=by omega
  have:=b2 i hi1
  rw[Array.getD_eq_getD_getElem?,Array.getElem?_eq_getElem hi2] at this
  simp at e this
  omega
 have hr:∀y,y∈xs.toList.drop (below xs j)->j < y:=fun y hy=>by
  obtain⟨i,hi,e⟩:=mem_iff_getElem.mp hy
  have hi2:below xs j + i < xs.size:=by simp at hi;omega
  have:=b3 (below xs j + i) (by omega) hi2
  rw[Array.getD_eq_getD_getElem?,Array.getElem?_eq_getElem hi2] at this
  simp at e this
  rcases Nat.lt_or_ge j y with c |c
  ·exact c
  ·have:j=y:=by omega
   exact absurd (by rw[this,<-e];exact Array.getElem_mem _) hj
 refine List.pairwise_append.mpr ⟨List.Pairwise.sublist (List.take_sublist ..) h,List.pairwise_cons.mpr ⟨fun y hy=>hr y hy,List.Pairwise.sublist (List.drop_sublist ..) h⟩,fun a ha b hb=>?_⟩
 rcases mem_cons.mp hb with rfl |hb
 ·exact hl a ha
 ·exact Nat.lt_trans (hl a ha) (hr b hb)
theorem vY {α:Type}(l:List α)(p:Nat)(x:α)(hp:p<=l.length)(i:Nat):(l.take p ++ x :: l.drop p)[i]? =if i < p then l[i]? else if i=p then some x else l[i - 1]?:=by
 rcases Nat.lt_trichotomy i p with c |c |c
 ·rw[if_pos c,getElem?_append_left (by simp;omega),List.getElem?_take_of_lt c]
 ·subst c
  rw[if_neg (Nat.lt_irrefl _),if_pos rfl,getElem?_append_right (by simp;omega),length_take,Nat.min_eq_left hp,Nat.sub_self]
  rfl
 ·rw[if_neg (by omega),if_neg (by omega),getElem?_append_right (by simp;omega),length_take,Nat.min_eq_left hp]
  obtain⟨k,rfl⟩:∃k,i=p + 1 + k:=⟨i - (p + 1),by omega⟩
  rw[show p + 1 + k - p=k + 1 by omega,List.getElem?_cons_succ,List.getElem?_drop]
  congr 1
  omega
theorem Tab.put (T:Tab t hs){j:Nat}{h:Int}(hj:j∉t.place)(hm:j<=t.mask)(r:Reach t.mask (· ∈t.place) h j)(hf:(t.place.size + 1) * 5 < t.mask * 3) :
  Tab (t.put j).1 (hs.take (t.put j).2 ++ h :: hs.drop (t.put j).2)/\(t.put j).2<=hs.length:=by
 obtain⟨e1,e2⟩:=se t j T.dum
 obtain⟨b1,b2,b3⟩:=eH T.rise j
 have hsz:(insertAt t.place (below t.place j) j).size=t.place.size + 1:=by
  rw[<-Array.length_toList,cx _ _ _ b1]
  simp;omega
 have hl:below t.place j<=hs.length:=by rw[<-T.size];exact b1
 rw[e1,e2]
 refine⟨⟨T.mask,T.dum,ra T.rise hj,fun y hy=>?_,?_,?_,fun i y g hy hg=>?_,T.plain⟩,hl⟩
 ·rcases (ny b1).mp hy with z |z
  ·exact T.le y z
  ·rw[z];exact hm
 ·show (insertAt t.place _ j).size=_
  rw[hsz,T.size];simp;omega
 ·show (insertAt t.place _ j).size * 5 < t.mask * 3
  rw[hsz];exact hf
 ·show Reach t.mask (· ∈insertAt t.place (below t.place j) j) g y
  have hy':(t.place.toList.take (below t.place j) ++ j :: t.place.toList.drop (below t.place j))[i]? =some y:=by
   rw[<-cx _ _ _ b1,Array.getElem?_toList];exact hy
  rw[vY _ _ _ (by simpa using b1)] at hy'
  rw[vY _ _ _ hl] at hg
  have old:∀{g y},Reach t.mask (· ∈t.place) g y->Reach t.mask (· ∈insertAt t.place (below t.place j) j) g y:=fun r=>r.mono fun x hx=>(ny b1).mpr (.inl hx)
  split at hy'
  ·rename_i c
   rw[if_pos c] at hg
   exact old (T.reach i y g (by simpa using hy') hg)
  ·rename_i c
   rw[if_neg c] at hg
   split at hy'
   ·rename_i c2
    rw[if_pos c2] at hg
    cases hg;cases hy'
    exact old r
   ·rename_i c2
    rw[if_neg c2] at hg
    exact old (T.reach (i - 1) y g (by simpa using hy') hg)
end
abbrev own (o:Array (Option Nat))(j:Nat):Option Nat:=o.getD j none
theorem zN {mask:Nat}{o:Array (Option Nat)}(hsz:o.size=mask + 1):∀(fuel i q:Nat) (j:Nat),i<=mask->layClean.free mask o fuel i q=some j->
  ∃n,n < 10 * fuel/\(gn mask n (zK mask i q)).j=j/\(∀m,m < n->(own o (gn mask m (zK mask i q)).j).isSome=true)/\own o j=none/\j<=mask:=by
 intro fuel
 induction fuel with
 |zero=>intro i q j _ h;unfold layClean.free at h;cases h
 |succ fuel ih=>
  intro i q j hi h
  unfold layClean.free at h
  have hr:=kc hi
  have ind:∀k,k<=runEnd mask i - i->o.getD (i + k) (some 0)=own o (i + k):=fun k hk=>by
   have:i + k < o.size:=by omega
   simp[own,Array.getD,this]
  cases hf:(List.range (runEnd mask i + 1 - i)).find? fun k=>(o.getD (i + k) (some 0)).isNone with
  |some k=>
   rw[hf] at h
   dsimp only at h
   have hk:=List.find?_eq_some_iff_getElem.mp hf
   obtain⟨hn,ix,hix,eix,hbef⟩:=hk
   have ek:ix=k:=by simpa using eix
   subst ek
   have hix':ix < runEnd mask i + 1 - i:=by simpa using hix
   cases h
   refine⟨ix,by omega,?_,fun m hm=>?_,?_,by omega⟩
   ·rw[kH mask i q ix (by omega)]
   ·rw[kH mask i q m (by omega)]
    have:=hbef m hm
    simp only[List.getElem_range] at this
    rw[ind m (by omega)] at this
    dsimp only
    cases e:own o (i + m) with
    |none=>rw[e] at this;simp at this
    |some _=>rfl
   ·rw[ind ix (by omega)] at hn
    cases e:own o (i + ix) with
    |none=>rfl
    |some _=>rw[e] at hn;simp at hn
  |none=>
   rw[hf] at h
   dsimp only at h
   obtain⟨n,h1,h2,h3,h4,h5⟩:=ih _ _ j (nc mask i q) h
   have hnone:=List.find?_eq_none.mp hf
   refine⟨(runEnd mask i - i + 1) + n,by omega,?_,fun m hm=>?_,h4,h5⟩
   ·rw[lE,nQ];exact h2
   ·rcases Nat.lt_or_ge m (runEnd mask i - i + 1) with c |c
    ·rw[kH mask i q m (by omega)]
     have:=hnone m (mem_range.mpr (by omega))
     rw[ind m (by omega)] at this
     dsimp only
     cases e:own o (i + m) with
     |none=>rw[e] at this;simp at this
     |some _=>rfl
    ·obtain⟨k,rfl⟩:∃k,m=(runEnd mask i - i + 1) + k:=⟨m - (runEnd mask i - i + 1),by omega⟩
     rw[lE,nQ]
     exact h3 k (by omega)
theorem zw {mask:Nat}{o:Array (Option Nat)}(hsz:o.size=mask + 1):∀(fuel i q k:Nat),i<=mask->k < fuel->own o (gQ mask k (i,q)).1=none->∃j,layClean.free mask o fuel i q=some j:=by
 intro fuel
 induction fuel with
 |zero=>intro i q k _ hk;omega
 |succ fuel ih=>
  intro i q k hi hk hn
  unfold layClean.free
  cases hf:(List.range (runEnd mask i + 1 - i)).find? fun k=>(o.getD (i + k) (some 0)).isNone with
  |some k=>exact⟨_,rfl⟩
  |none=>
   dsimp only
   cases k with
   |zero=>
    have hr:=kc hi
    have:=List.find?_eq_none.mp hf 0 (mem_range.mpr (by omega))
    have e:own o i=none:=hn
    have hi2:i < o.size:=by omega
    simp[own,Array.getD,hi2] at e this
    rw[e] at this;simp at this
   |succ k=>exact ih _ _ k (nc mask i q) (by omega) hn
structure Lay (mask:Nat)(o:Array (Option Nat))(hs:List Int):Prop where
 size:o.size=mask + 1
 all:∀k h,hs[k]? =some h->∃j,own o j=some k/\Reach mask (fun x=>(own o x).isSome=true) h j
 one:∀j j' k,own o j=some k->own o j'=some k->j=j'
 le:∀j k,own o j=some k->j<=mask/\k < hs.length
theorem nz {o:Array (Option Nat)}{j x k:Nat}(hj:j < o.size):own (o.setIfInBounds j (some k)) x=if x=j then some k else own o x:=by
 unfold own
 rw[Array.getD_eq_getD_getElem?,Array.getD_eq_getD_getElem?,Array.getElem?_setIfInBounds]
 by_cases e:x=j
 ·subst e;simp[hj]
 ·rw[if_neg e,if_neg (fun z=>e z.symm)]
theorem An {mask:Nat}(hm:Bf mask){o:Array (Option Nat)}{hs:List Int}(L:Lay mask o hs)(h:Int)(hl:hs.length<=mask) :
  ∃j,layClean.free mask o (turns mask) (bits h % (mask + 1)) (bits h)=some j/\Lay mask (o.setIfInBounds j (some hs.length)) (hs ++ [h]):=by
 have hi:bits h % (mask + 1)<=mask:=Nat.lt_succ_iff.mp (Nat.mod_lt _ (Nat.succ_pos _))
 have hfree:∃j,j<=mask/\own o j=none:=by
  refine Classical.byContradiction fun hc=>?_
  have hall:∀j,j<=mask->∃k,own o j=some k:=fun j hj=>by
   cases e:own o j with
   |none=>exact absurd ⟨j,hj,e⟩ hc
   |some k=>exact⟨k,rfl⟩
  have nd:((List.range (mask + 1)).map fun j=>(own o j).getD 0).Nodup:=by
   refine pairwise_map.mpr ?_
   refine List.Pairwise.imp_of_mem ?_ nodup_range
   intro a b ha hb hab e
   obtain⟨ka,ea⟩:=hall a (by have:=mem_range.mp ha;omega)
   obtain⟨kb,eb⟩:=hall b (by have:=mem_range.mp hb;omega)
   rw[ea,eb] at e
   simp at e
   subst e
   exact hab (L.one a b ka ea eb)
  have:=bW (m:=List.range hs.length) nd fun x hx=>by
   obtain⟨j,hj,rfl⟩:=mem_map.mp hx
   obtain⟨k,e⟩:=hall j (by have:=mem_range.mp hj;omega)
   rw[e]
   exact mem_range.mpr (L.le j k e).2
  simp at this
  omega
 obtain⟨j0,hj0,hn0⟩:=hfree
 obtain⟨k,hk,ek⟩:=qM hm hi (yM h) hj0
 obtain⟨j,hj⟩:=zw L.size (turns mask) _ (bits h) k hi (by unfold turns;omega) (by rw[ek];exact hn0)
 refine⟨j,hj,?_⟩
 obtain⟨n,h1,h2,h3,h4,h5⟩:=zN L.size _ _ _ _ hi hj
 have hjs:j < o.size:=by rw[L.size];omega
 have grow:∀x,(own o x).isSome=true->(own (o.setIfInBounds j (some hs.length)) x).isSome=true:=fun x hx=>by
  rw[nz hjs];split
  ·rfl
  ·exact hx
 refine⟨by rw[Array.size_setIfInBounds];exact L.size,fun k g hg=>?_,fun a b c ea eb=>?_,fun a c ea=>?_⟩
 ·rcases Nat.lt_or_ge k hs.length with c |c
  ·rw[getElem?_append_left c] at hg
   obtain⟨x,ex,rx⟩:=L.all k g hg
   refine⟨x,?_,rx.mono grow⟩
   rw[nz hjs,if_neg (fun z=>?_)]
   ·exact ex
   ·subst z;rw[ex] at h4;cases h4
  ·rw[getElem?_append_right c] at hg
   have:k=hs.length:=by
    have:=(List.getElem?_eq_some_iff.mp hg).1
    simp at this;omega
   subst this
   simp at hg
   subst hg
   exact⟨j,by rw[nz hjs,if_pos rfl],n,h1,h2,fun m hm=>grow _ (h3 m hm)⟩
 ·rw[nz hjs] at ea eb
  split at ea
  ·cases ea
   split at eb
   ·omega
   ·have:=(L.le _ _ eb).2;omega
  ·split at eb
   ·cases eb
    have:=(L.le _ _ ea).2;omega
   ·exact L.one _ _ _ ea eb
 ·rw[nz hjs] at ea
  rw[length_append]
  split at ea
  ·cases ea;simp;omega
  ·have:=L.le _ _ ea;simp;omega
theorem yC {mask:Nat}(hm:Bf mask):∀(rest hs:List Int) (o:Array (Option Nat)),Lay mask o hs->hs.length + rest.length<=mask->
  ∃o',rest.foldl (init:=some (o,hs.length)) (fun acc h=>do
   let (owner,k) <-acc
   let j <-layClean.free mask owner (turns mask) (bits h % (mask + 1)) (bits h)
   pure (owner.setIfInBounds j (some k),k + 1))=some (o',hs.length + rest.length)/\Lay mask o' (hs ++ rest)
 | [],hs,o,L,_=>⟨o,rfl,by rw[append_nil];exact L⟩
 |h :: rest,hs,o,L,hl=>by
  simp only[length_cons] at hl
  obtain⟨j,e,L'⟩:=An hm L h (by omega)
  obtain⟨o',e',L2⟩:=yC hm rest (hs ++ [h]) _ L' (by simp;omega)
  refine⟨o',?_,by rw[append_assoc] at L2;exact L2⟩
  rw[foldl_cons]
  simp only[Option.bind_eq_bind,Option.bind_some,e,Option.pure_def]
  have el:(hs ++ [h]).length=hs.length + 1:=by simp
  rw[el] at e'
  simp only[Option.bind_eq_bind,Option.pure_def] at e'
  rw[e']
  simp;omega
theorem yw (n j:Nat):own (Array.replicate n none) j=none:=by
 unfold own
 rw[Array.getD_eq_getD_getElem?,Array.getElem?_replicate]
 split <;> rfl
theorem CQ (mask:Nat):Lay mask (Array.replicate (mask + 1) none) []:=
 ⟨by simp,fun k h e=>by simp at e,fun j j' k e _=>by (rw[yw] at e;cases e),fun j k e=>by (rw[yw] at e;cases e)⟩
theorem za {mask:Nat}(hm:Bf mask)(hs:Array Int)(hl:hs.size * 5 < mask * 3)(finger moves:Nat)(led:Bool) :
  ∃t order,laid mask finger moves led true hs=some (t,order)/\t.led=led/\t.mask=mask/\order.toList.Nodup/\(∀k,k∈order.toList↔k < hs.size)/\
   Tab t (order.toList.map fun k=>hs.toList.getD k 0):=by
 obtain⟨o,e,L⟩:=yC hm hs.toList [] _ (CQ mask) (by simp;omega)
 simp only[List.nil_append] at L
 have ec:layClean mask hs=some o:=by
  unfold layClean
  rw[<-Array.foldl_toList]
  simp only[List.length_nil] at e
  rw[e];rfl
 have hlive:∀j k,(j,k)∈((List.range (mask + 1)).filterMap fun j=>(o.getD j none).map (j, ·))↔own o j=some k:=fun j k=>by
  rw[mem_filterMap]
  constructor
  ·rintro⟨x,_,q⟩
   cases ex:o.getD x none with
   |none=>rw[ex] at q;cases q
   |some y=>rw[ex] at q;simp at q;rw[<-q.1,<-q.2];exact ex
  ·intro q
   refine⟨j,mem_range.mpr (by have:=(L.le j k q).1;omega),?_⟩
   have:o.getD j none=some k:=q
   rw[this];rfl
 have hpw:((List.range (mask + 1)).filterMap fun j=>(o.getD j none).map (j, ·)).Pairwise (fun a b=>a.1 < b.1):=by
  refine List.pairwise_filterMap.mpr ?_
  refine List.Pairwise.imp ?_ List.pairwise_lt_range
  intro a b hab x hx y hy
  cases ea:o.getD a none with
  |none=>rw[ea] at hx;cases hx
  |some u=>
   cases eb:o.getD b none with
   |none=>rw[eb] at hy;cases hy
   |some v=>
    rw[ea] at hx;rw[eb] at hy
    simp at hx hy
    rw[<-hx,<-hy];exact hab
 generalize hlv:((List.range (mask + 1)).filterMap fun j=>(o.getD j none).map (j, ·))=live at hlive hpw
 refine⟨{mask,place:=(live.map (·.1)).toArray,dummies:=#[],finger,led,moves,plain:=true},(live.map (·.2)).toArray,?_,rfl,rfl,?_,fun k=>?_,?_⟩
 ·unfold laid
  rw[ec]
  simp only[Option.bind_eq_bind,Option.bind_some,Option.pure_def,hlv]
 ·have:(live.map (·.2)).Nodup:=by
   refine pairwise_map.mpr (List.Pairwise.imp_of_mem ?_ hpw)
   intro a b ha hb hab ee
   have h1:=(hlive a.1 a.2).mp ha
   have h2:=(hlive b.1 b.2).mp hb
   rw[ee] at h1
   have:=L.one _ _ _ h1 h2
   omega
  simpa using this
 ·rw[mem_map]
  constructor
  ·rintro⟨x,hx,rfl⟩
   have:=(L.le x.1 x.2 ((hlive x.1 x.2).mp hx)).2
   simpa using this
  ·intro hk
   have hk':k < hs.toList.length:=by simpa using hk
   obtain⟨j,ej,_⟩:=L.all k _ (getElem?_eq_getElem hk')
   exact⟨(j,k),(hlive j k).mpr ej,rfl⟩
 ·have hord:live.length=hs.size:=by
   have a1:(live.map (·.2)).Nodup:=by
    refine pairwise_map.mpr (List.Pairwise.imp_of_mem ?_ hpw)
    intro a b ha hb hab ee
    have h1:=(hlive a.1 a.2).mp ha
    have h2:=(hlive b.1 b.2).mp hb
    rw[ee] at h1
    have:=L.one _ _ _ h1 h2
    omega
   have b1:=bW (m:=List.range hs.size) a1 fun x hx=>by
    obtain⟨y,hy,rfl⟩:=mem_map.mp hx
    have:=(L.le y.1 y.2 ((hlive y.1 y.2).mp hy)).2
    exact mem_range.mpr (by simpa using this)
   have b2:=bW (l:=List.range hs.size) (m:=live.map (·.2)) nodup_range fun x hx=>by
    have hk':x < hs.toList.length:=by simpa using mem_range.mp hx
    obtain⟨j,ej,_⟩:=L.all x _ (getElem?_eq_getElem hk')
    exact mem_map.mpr ⟨(j,x),(hlive j x).mpr ej,rfl⟩
   simp at b1 b2
   omega
  refine⟨hm,rfl,?_,fun j hj=>?_,?_,?_,fun i j h hi hh=>?_,rfl⟩
  ·show (live.map (·.1)).toArray.toList.Pairwise _
   rw[toList_toArray]
   exact pairwise_map.mpr hpw
  ·have:j∈live.map (·.1):=by simpa using hj
   obtain⟨x,hx,rfl⟩:=mem_map.mp this
   exact (L.le x.1 x.2 ((hlive x.1 x.2).mp hx)).1
  ·simp
  ·show (live.map (·.1)).toArray.size * 5 < mask * 3
   simp[hord];exact hl
  ·have hi':(live.map (·.1))[i]? =some j:=by simpa using hi
   have hh':((live.map (·.2)).map fun k=>hs.toList.getD k 0)[i]? =some h:=by simpa using hh
   rw[getElem?_map] at hi'
   rw[getElem?_map,getElem?_map] at hh'
   cases ex:live[i]? with
   |none=>rw[ex] at hi';cases hi'
   |some x=>
    rw[ex] at hi' hh'
    simp at hi' hh'
    have hxl:=(hlive x.1 x.2).mp (mem_of_getElem? ex)
    have hk:=(L.le _ _ hxl).2
    have hk2:x.2 < hs.size:=by simpa using hk
    obtain⟨j2,ej2,r⟩:=L.all x.2 h (by
     rw[getElem?_eq_getElem hk]
     simp[hk2] at hh'
     simpa using hh')
    have:j2=j:=by rw[<-hi'];exact L.one _ _ _ ej2 hxl
    subst this
    refine r.mono fun y hy=>?_
    show y∈(live.map (·.1)).toArray
    cases ey:own o y with
    |none=>rw[ey] at hy;cases hy
    |some k=>
     have:y∈live.map (·.1):=mem_map.mpr ⟨(y,k),(hlive y k).mpr ey,rfl⟩
     simpa using this
abbrev Pr:=Int×Int
def hp (p:Pr):Int:=reduceHash (Builtin.Tuple.tupleHashOf [hashInt p.1,hashInt p.2])
def Sm (p:Pr):Prop:=(0<=p.1/\p.1 < 8)/\(0<=p.2/\p.2 < 8)
def qj:List Pr:=(List.range 64).map fun k=>(((k / 8:Nat):Int),((k % 8:Nat):Int))
theorem mQ {p:Pr}(h:Sm p):p∈qj:=by
 unfold qj
 obtain⟨⟨a,b⟩,c,d⟩:=h
 refine mem_map.mpr ⟨p.1.toNat * 8 + p.2.toNat,mem_range.mpr (by omega),?_⟩
 refine Prod.ext ?_ ?_ <;> dsimp only <;> omega
theorem Ca:(qj.map hp).Nodup:=by decide +kernel
theorem mY {α β:Type}{f:α->β}:∀{l:List α},(l.map f).Nodup->∀a b,a∈l->b∈l->f a=f b->a=b
 | [],_,_,_,h,_,_=>by cases h
 |x :: l,hn,a,b,ha,hb,e=>by
  have hn':=nodup_cons.mp hn
  rcases mem_cons.mp ha with ea |ha
  ·rcases mem_cons.mp hb with eb |hb
   ·rw[ea,eb]
   ·exact absurd (mem_map.mpr ⟨b,hb,by rw[<-e,ea]⟩) hn'.1
  ·rcases mem_cons.mp hb with eb |hb
   ·exact absurd (mem_map.mpr ⟨a,ha,by rw[e,eb]⟩) hn'.1
   ·exact mY hn'.2 a b ha hb e
theorem Gi {p q:Pr}(hp1:Sm p)(hq:Sm q)(e:hp p=hp q):p=q:=mY Ca p q (mQ hp1) (mQ hq) e
theorem x9 {l:List Pr}(hn:l.Nodup)(h:∀p,p∈l->Sm p):l.length<=64:=by
 have:=bW (m:=qj) hn fun x hx=>mQ (h x hx)
 simpa[qj] using this
section
variable {prog:Program}{w:World}{A:Around}{E:Value->Shared->Prop}{s:Shared}
abbrev b4 (prog:Program)(w:World)(h:Heap)(p:Pr)(a:Addr):Prop:=IsTupleKey (intKind prog w) h [p.1,p.2] a
theorem b4.inj {h:Heap}{p q:Pr}{a:Addr}(x:b4 prog w h p a)(y:b4 prog w h q a):p=q:=by
 have:=IsTupleKey.inj x y
 simp at this
 exact Prod.ext this.1 this.2
structure tR (f:Pr->Int)(prog:Program)(w:World)(led:Bool)(h:Heap)(S:Addr)(ps:List (Addr×Pr)):Prop where
 ex:∃o ep t,h.get? S=some o/\o.ExactSet/\o.data=.set (ps.map fun q=>(f q.2,Value.ref q.1)).toArray ep t/\Tab t (ps.map fun q=>f q.2)/\t.led=led
 at':∀q,q∈ps->b4 prog w h q.2 q.1/\Sm q.2
 nd:(ps.map (·.2)).Nodup
theorem nj {t:SetTable}{hs:List Int}(T:Tab t hs){n:Nat}(e:n=hs.length):t.fits n=true:=by
 unfold SetTable.fits SetTable.fill
 have:=T.load'
 simp[T.size,T.dum,e]
 rw[T.size] at this;exact this
theorem BC (a:Addr)(wanted:Nat):setRelay a wanted=(do
  let (es,_,t) <-setState a
  if SetTable.sizeAbove wanted > sizeLine then unsupported "set:memory"
  let (es,t) <-(do
   let some (t,order):=t.relaid (es.map (·.1)) wanted |unsupported "internal:set-table-without-room"
   let es':=order.filterMap (es[·]?)
   if es'.size != es.size then unsupported "internal:set-table-lost-an-element"
   pure (es',t))
  storeSet a es t):=rfl
theorem zZ (a:Addr)(x:Value)(h:Int)(fuel:Nat):setSearchFrom a x h true (fuel + 1) none=(do
  let (es,_,t) <-setState a
  if t.gaveWay then unsupported "set:on-a-table-that-gave-way"
  let some met:=t.probe (fun i=>(es[i]?.map (·.1)).getD 0) h (t.probeStart h) |unsupported "internal:set-table-without-an-empty-slot"
  match met with
  | .empty j dummy=>
   match dummy with
   |none=>return .free j false
   |some d=>
    if true && t.slot d != .dummy then rule "set.search.the-dummy-was-taken";return <-setSearchFrom a x h true fuel none
    return .free d true
  | .candidate j i next=>
   if !t.led then
    if <-searchCouldBeSeen x ((es.filter (·.1 == h)).toList.map (·.2)) then unsupported "set:the-search-would-show-the-table"
   let some (_,y):=es[i]? |unsupported "internal:set-entry"
   let equal <-holding [y] (eqBool y x)
   let (es',_,t') <-setState a
   if true && equal then return .there none
   let some same:=t'.sameMemory t.moves t.mask |unsupported "set.changed-during-lookup:is-the-new-block-at-the-old-address"
   let still <-match (if same then t'.slot j else .empty) with
    | .live i'=>match es'[i']? with
     |some (_,y')=>do pure (if <-isSame y' y then some i' else none)
     |none=>pure none
    |_=>pure none
   match still with
   |none=>rule "set.search.anew";setSearchFrom a x h true fuel none
   |some i'=>if equal then return .there (some i') else setSearchFrom a x h true fuel (some next)):=rfl
theorem v7 (n:Nat){v:Value}(h:carriedByValue v=true):ofAClassStatement n v=pure false:=by
 cases v with
 |ref a=>simp[carriedByValue] at h
 |_=>first |rfl | (unfold ofAClassStatement;rfl)
theorem wQ (n:Nat){v:Value}{k:Int}(h:(intKind prog w).is k v=true):hashByValue n v=pure true:=by
 obtain⟨t,rfl⟩:=Value.isInt_shape h
 cases n <;> rfl
theorem nh {p:Pr}{a:Addr}{Q:Bool->Shared->Prop}(hk:b4 prog w s.heap p a)(h:Q false s):wpAny (model prog w) A (ofAClassStatement 8 (.ref a)) Q E s:=by
 have hT:=hk.typeIs
 obtain⟨o,items,n,ho,hc,hd,hi⟩:=hk
 unfold ofAClassStatement
 refine wpAny_bind (wpAny_typeOf hT ?_)
 dsimp only
 rw[if_pos (by decide)]
 refine wpAny_bind (wpAny_pure ?_)
 simp only[Bool.not_true,Bool.false_eq_true,if_false]
 refine wpAny_bind (wpAny_seqItems ho hd ?_)
 dsimp only
 refine wpAny_bind ?_
 rw[<-Array.forIn_toList]
 refine wpAny_forIn_list _ (fun rest r s'=>r.1=none/\s'=s/\∀v∈rest,carriedByValue v=true) _ ?_ ?_ _ _ ⟨rfl,rfl,hi.byValue⟩
 ·rintro v rest r s' ⟨hr,rfl,hall⟩
  rw[v7 _ (hall v mem_cons_self)]
  refine wpAny_bind (wpAny_pure ?_)
  simp only[Bool.false_eq_true,if_false]
  exact wpAny_pure ⟨rfl,rfl,fun u hu'=>hall u (mem_cons_of_mem _ hu')⟩
 ·rintro⟨r1,r2⟩ s' ⟨hr,rfl,_⟩
  simp only at hr
  subst hr
  exact wpAny_pure h
theorem uO {p:Pr}{a:Addr}{Q:Bool->Shared->Prop}(hk:b4 prog w s.heap p a)(h:Q true s):wpAny (model prog w) A (hashByValue 8 (.ref a)) Q E s:=by
 have hT:=hk.typeIs
 obtain⟨o,items,n,ho,hc,hd,hi⟩:=hk
 unfold hashByValue
 refine wpAny_bind (wpAny_specialOf hT F.slot_tuple_hash.lookup ?_)
 dsimp only
 refine wpAny_bind (wpAny_seqItems ho hd ?_)
 simp only[Option.getD_some]
 refine wpAny_bind ?_
 rw[<-Array.forIn_toList]
 refine wpAny_forIn_list _ (fun rest r s'=>r.1=none/\s'=s/\∀v∈rest,∃k,(intKind prog w).is k v=true) _ ?_ ?_ _ _ ⟨rfl,rfl,fun v hv=>?_⟩
 ·rintro v rest r s' ⟨hr,rfl,hall⟩
  obtain⟨k,hk⟩:=hall v mem_cons_self
  rw[wQ _ hk]
  refine wpAny_bind (wpAny_pure ?_)
  simp only[Bool.not_true,Bool.false_eq_true,if_false]
  exact wpAny_pure ⟨rfl,rfl,fun u hu'=>hall u (mem_cons_of_mem _ hu')⟩
 ·rintro⟨r1,r2⟩ s' ⟨hr,rfl,_⟩
  simp only at hr
  subst hr
  exact wpAny_pure h
 ·generalize items.toList=l at *
  cases hi with
  |cons h1 hi=>
   cases hi with
   |cons h2 hi=>
    cases hi
    rcases mem_cons.mp hv with rfl |hv
    ·exact⟨_,h1⟩
    ·rcases mem_cons.mp hv with rfl |hv
     ·exact⟨_,h2⟩
     ·cases hv
theorem xW {p:Pr}{a:Addr}(hk:b4 prog w s.heap p a):∀(l:List Value) {Q:Bool->Shared->Prop},(∀v∈l,∃q b,v=.ref b/\b4 prog w s.heap q b)->Q false s->wpAny (model prog w) A (searchCouldBeSeen (.ref a) l) Q E s:=by
 intro l Q hl h
 unfold searchCouldBeSeen
 refine wpAny_bind ?_
 refine wpAny_forIn_list _ (fun rest r s'=>r.1=none/\s'=s/\∀v∈rest,∃q b,v=.ref b/\b4 prog w s.heap q b) _ ?_ ?_ _ _ ⟨rfl,rfl,hl⟩
 ·rintro v rest r s' ⟨hr,rfl,hall⟩
  obtain⟨q,b,rfl,hb⟩:=hall v mem_cons_self
  have hrest:=fun u hu'=>hall u (mem_cons_of_mem _ hu')
  dsimp only
  split
  ·exact wpAny_pure ⟨rfl,rfl,hrest⟩
  ·refine wpAny_bind (wpAny_eqIsQuiet_tuple hk ?_)
   simp only[Bool.not_true,Bool.false_eq_true,if_false]
   refine wpAny_bind (wpAny_eqIsQuiet_tuple hb ?_)
   simp only[Bool.not_true,Bool.false_eq_true,if_false]
   refine wpAny_bind (nh hk ?_)
   simp only[Bool.false_eq_true,if_false]
   refine wpAny_bind (nh hb ?_)
   simp only[Bool.false_eq_true,if_false]
   exact wpAny_pure ⟨rfl,rfl,hrest⟩
 ·rintro⟨r1,r2⟩ s' ⟨hr,rfl,_⟩
  simp only at hr
  subst hr
  exact wpAny_pure h
end
section
variable {prog:Program}{w:World}{A:Around}{E:Value->Shared->Prop}{s:Shared}
theorem v3 (t:SetTable)(hs:Array Int)(wanted:Nat)(hp:t.plain=true):t.relaid hs wanted=laid (sizeAbove wanted - 1) t.finger (t.movedTo (sizeAbove wanted - 1)) t.led true hs:=by
 unfold relaid;rw[hp]
theorem Eu:sizeAbove (grown 5)=32/\sizeAbove (grown 19)=128:=by decide +kernel
theorem filterMap_get {α:Type}(es:Array α):∀(order:List Nat),(∀k,k∈order->k < es.size)->∃l:List α,order.filterMap (fun i=>es[i]?)=l/\l.length=order.length/\(∀(i k:Nat),order[i]? =some k->l[i]? =es[k]?)/\∀x,x∈l->∃k,k∈order/\es[k]? =some x
 | [],_=>⟨[],rfl,rfl,fun i k h=>by simp at h,fun x hx=>by cases hx⟩
 |k :: r,h=>by
  obtain⟨l,e1,e2,e3,e4⟩:=filterMap_get es r fun x hx=>h x (mem_cons_of_mem _ hx)
  have hk:=h k (mem_cons_self ..)
  refine⟨es[k] :: l,by rw[filterMap_cons,Array.getElem?_eq_getElem hk,e1],by simp[e2],fun i x hi=>?_,fun x hx=>?_⟩
  ·cases i with
   |zero=>simp at hi;subst hi;simp[hk]
   |succ i=>simp at hi;simpa using e3 i x hi
  ·rcases mem_cons.mp hx with rfl |hx
   ·exact⟨k,mem_cons_self ..,by simp[hk]⟩
   ·obtain⟨y,hy,q⟩:=e4 x hx
    exact⟨y,mem_cons_of_mem _ hy,q⟩
abbrev fx (f:Pr->Int)(q:Addr×Pr):Int×Value:=(f q.2,Value.ref q.1)
theorem tG (f:Pr->Int){mask:Nat}(hm:Bf mask){ps:List (Addr×Pr)}(hl:ps.length * 5 < mask * 3)(finger moves:Nat)(led:Bool) :
  ∃(t:SetTable) (order:Array Nat) (ps':List (Addr×Pr)),laid mask finger moves led true ((ps.map (fx f)).toArray.map (·.1))=some (t,order)/\order.filterMap (fun i=>(ps.map (fx f)).toArray[i]?)=(ps'.map (fx f)).toArray/\ps'.length=ps.length/\
   (∀q,q∈ps'↔q∈ps)/\Tab t (ps'.map fun q=>f q.2)/\t.led=led:=by
 obtain⟨t,order,e,el,em,nd,mem,T⟩:=za hm ((ps.map (fx f)).toArray.map (·.1)) (by simpa using hl) finger moves led
 have hsz:((ps.map (fx f)).toArray.map (·.1)).size=ps.length:=by simp
 obtain⟨ps',f1,f2,f3,f4⟩:=filterMap_get ps.toArray order.toList fun k hk=>by
  have:=(mem k).mp hk;rw[hsz] at this;simpa using this
 have hlen:order.toList.length=ps.length:=by
  have a1:=bW (m:=List.range ps.length) nd fun x hx=>mem_range.mpr (by have:=(mem x).mp hx;rwa [hsz] at this)
  have a2:=bW (l:=List.range ps.length) (m:=order.toList) nodup_range fun x hx=>(mem x).mpr (by rw[hsz];exact mem_range.mp hx)
  simp at a1 a2 ⊢;omega
 refine⟨t,order,ps',e,?_,by omega,fun q=>⟨fun hq=>?_,fun hq=>?_⟩,?_,el⟩
 ·apply Array.toList_inj.mp
  rw[Array.toList_filterMap,<-f1]
  simp only[toList_toArray]
  rw[List.map_filterMap]
  congr 1
  funext i
  simp
 ·obtain⟨k,_,q2⟩:=f4 q hq
  rw[getElem?_toArray] at q2
  exact mem_of_getElem? q2
 ·obtain⟨k,hk,q2⟩:=mem_iff_getElem.mp hq
  have hko:k∈order.toList:=(mem k).mpr (by rw[hsz];exact hk)
  obtain⟨i,hi,e2⟩:=mem_iff_getElem.mp hko
  have:=f3 i k (by rw[getElem?_eq_getElem hi,e2])
  rw[getElem?_toArray,getElem?_eq_getElem hk,q2] at this
  exact mem_of_getElem? this
 ·have:(order.toList.map fun k=>((ps.map (fx f)).toArray.map (·.1)).toList.getD k 0)=ps'.map fun q=>f q.2:=by
   apply ext_getElem?
   intro i
   rw[getElem?_map,getElem?_map]
   cases hi:order.toList[i]? with
   |none=>
    have:ps'[i]? =none:=List.getElem?_eq_none_iff.mpr (by rw[f2];exact List.getElem?_eq_none_iff.mp hi)
    rw[this];rfl
   |some k=>
    have hk:k < ps.length:=by have:=(mem k).mp (mem_of_getElem? hi);rwa [hsz] at this
    have:=f3 i k hi
    rw[getElem?_toArray,getElem?_eq_getElem hk] at this
    rw[this]
    simp[hk]
  rw[<-this];exact T
theorem oF:∀{l m:List Int},m.Nodup->(∀x,x∈m->x∈l)->l.length<=m.length->l.Nodup
 | [],_,_,_,_=>nodup_nil
 |a :: l,m,hn,hs,hl=>by
  by_cases ha:a∈m
  ·have hnot:a∉l:=fun z=>by
    have:=bW (m:=l) hn fun x hx=>by
     rcases mem_cons.mp (hs x hx) with e |e
     ·rw[e];exact z
     ·exact e
    simp only[length_cons] at hl;omega
   refine nodup_cons.mpr ⟨hnot,oF (m:=m.erase a) (hn.erase a) (fun x hx=>?_) ?_⟩
   ·have:=(hn.mem_erase_iff).mp hx
    rcases mem_cons.mp (hs x this.2) with e |e
    ·exact absurd e this.1
    ·exact e
   ·rw[length_erase_of_mem ha];simp only[length_cons] at hl;omega
  ·have:=bW (m:=l) hn fun x hx=>by
    rcases mem_cons.mp (hs x hx) with e |e
    ·exact absurd (e▸hx) ha
    ·exact e
   simp only[length_cons] at hl;omega
theorem uh (a:Addr)(es:Array (Int×Value)):byScan (.ref a) es=false:=by unfold byScan Value.scannable;simp
theorem wZ {t:SetTable}(h:Bf t.mask):t.gaveWay=false:=by
 unfold SetTable.gaveWay
 rcases h with e |e |e <;> rw[e] <;> decide
theorem tR.add {f:Pr->Int}(hinj:∀p q,Sm p->Sm q->f p=f q->p=q){led:Bool}{S a:Addr}{ps:List (Addr×Pr)}{p:Pr}{Q:Bool->Shared->Prop}(P:tR f prog w led s.heap S ps)(hk:b4 prog w s.heap p a)(hs:Sm p)(hu:A.units < cLine)
  (h:∀(b:Bool) (h':Heap) (ps':List (Addr×Pr)),Heap.SameBut S s.heap h'->tR f prog w led h' S ps'->(∀q,q∈ps'->q∈ps\/q=(a,p))->(∀q,q∈ps->q∈ps')->(∃q,q∈ps'/\q.2=p)->Q b {s with heap:=h'}) :
  wpAny (model prog w) A (setAddHashed S (.ref a) (f p)) Q E s:=by
 obtain⟨o,ep,t,ho,hex,hd,T,hled⟩:=P.ex
 have hfit:t.fits (ps.map (fx f)).toArray.size=true:=nj T (by simp)
 have ha:∀i,i < (ps.map fun q=>f q.2).length->some ((((ps.map (fx f)).toArray)[i]?.map (·.1)).getD 0)=(ps.map fun q=>f q.2)[i]?:=fun i hi=>by
  have hi':i < ps.length:=by simpa using hi
  simp[hi']
 unfold setAddHashed
 refine wpAny_holding ?_
 unfold setAddHashedIn
 refine wpAny_bind (wpAny_setState_of ho hd hfit ?_)
 dsimp only
 rw[uh]
 simp only[Bool.false_eq_true,if_false]
 unfold setSearch
 rw[zZ]
 refine wpAny_bind (wpAny_bind (wpAny_setState_of ho hd hfit ?_))
 dsimp only
 rw[wZ T.mask]
 simp only[Bool.false_eq_true,if_false]
 by_cases hm:f p∈ps.map fun q=>f q.2
 ·
  obtain⟨j,i,nx,e1,e2,e3,e4⟩:=T.present ha hm
  rw[e1]
  dsimp only
  have hi:i < ps.length:=by simpa using e3
  have e5:f (ps[i].2)=f p:=by
   rw[getElem?_map,getElem?_eq_getElem hi] at e4
   simpa using e4
  have hq:=P.at' ps[i] (getElem_mem hi)
  have e6:ps[i].2=p:=hinj _ _ hq.2 hs e5
  have hget:((ps.map (fx f)).toArray)[i]? =some (f ps[i].2,.ref ps[i].1):=by simp[hi]
  have rest:wpAny (model prog w) A (do
    let some (_,y):=((ps.map (fx f)).toArray)[i]? |unsupported "internal:set-entry"
    let equal <-holding [y] (eqBool y (.ref a))
    let (es',_,t') <-setState S
    if true && equal then return SetFound.there none
    let some same:=t'.sameMemory t.moves t.mask |unsupported "set.changed-during-lookup:is-the-new-block-at-the-old-address"
    let still <-match (if same then t'.slot j else .empty) with
     | .live i'=>match es'[i']? with
      |some (_,y')=>do pure (if <-isSame y' y then some i' else none)
      |none=>pure none
     |_=>pure none
    match still with
    |none=>rule "set.search.anew";setSearchFrom S (.ref a) (f p) true 99999 none
    |some i'=>if equal then return .there (some i') else setSearchFrom S (.ref a) (f p) true 99999 (some nx))
    (fun r s'=>s'=s/\r=.there none) E s:=by
   rw[hget]
   dsimp only
   refine wpAny_bind (wpAny_holding (wpAny_eqBool_tuple hu hq.1 hk ?_))
   rw[decide_eq_true (by rw[e6])]
   refine wpAny_bind (wpAny_setState_of ho hd hfit ?_)
   dsimp only
   simp only[Bool.and_self,if_true]
   exact wpAny_pure ⟨rfl,rfl⟩
  have fin:∀r s',s'=s/\r=SetFound.there none->wpAny (model prog w) A (match r with
    | .free slot wasDummy=>(do
     let (es,_,t) <-setState S
     let (t,p'):=t.put slot
     let byValue <-if t.plain then hashByValue 8 (.ref a) else pure true
     let t:=if byValue then t else {t with plain:=false}
     storeSet S (SetTable.insertAt es p' (f p,.ref a)) t
     if !wasDummy && t.tooFull then setRelay S (SetTable.grown (es.size + 1))
     return true)
    |_=>pure false) Q E s':=by
   rintro r s' ⟨rfl,rfl⟩
   exact wpAny_pure (h false s'.heap ps (Heap.SameBut.refl ..) P (fun q hq=>.inl hq) (fun q hq=>hq) ⟨ps[i],getElem_mem hi,e6⟩)
  cases hl:led with
  |true=>
   rw[hled,hl]
   simp only[Bool.not_true,Bool.false_eq_true,if_false]
   exact wpAny_mono rest (fun r s' hr=>fin r s' hr) fun _ _ x=>x
  |false=>
   rw[hled,hl]
   simp only[Bool.not_false,if_true]
   refine wpAny_bind (xW hk _ (fun v hv=>?_) ?_)
   ·obtain⟨x,hx,rfl⟩:=mem_map.mp hv
    have hx':x∈(ps.map (fx f)).toArray:=(Array.mem_filter.mp (Array.mem_toList_iff.mp hx)).1
    have hx2:x∈ps.map (fx f):=by simpa using hx'
    obtain⟨q,hq,rfl⟩:=mem_map.mp hx2
    exact⟨q.2,q.1,rfl,(P.at' q hq).1⟩
   ·simp only[Bool.false_eq_true,if_false]
    exact wpAny_mono rest (fun r s' hr=>fin r s' hr) fun _ _ x=>x
 ·
  obtain⟨j,e1,e2,e3,e4⟩:=T.absent ha hm
  rw[e1]
  dsimp only
  refine wpAny_pure ?_
  dsimp only
  refine wpAny_bind (wpAny_setState_of ho hd hfit ?_)
  dsimp only
  obtain⟨q1,q2⟩:=se t j T.dum
  have hpl:(t.put j).1.plain=true:=by rw[q1];exact T.plain
  rw[hpl]
  simp only[if_true]
  refine wpAny_bind (uO hk ?_)
  simp only[if_true]
  have hb:(t.put j).2<=ps.length:=by
   rw[q2]
   have:=(eH T.rise j).1
   rw[T.size] at this;simpa using this
  have hins:insertAt (ps.map (fx f)).toArray (t.put j).2 (f p,Value.ref a)=((ps.take (t.put j).2 ++ (a,p) :: ps.drop (t.put j).2).map (fx f)).toArray:=by
   apply Array.toList_inj.mp
   rw[cx _ _ _ (by simpa using hb)]
   simp[List.map_take,List.map_drop]
  rw[hins]
  generalize hps':ps.take (t.put j).2 ++ (a,p) :: ps.drop (t.put j).2=ps1
  have mem1:∀q,q∈ps1↔q∈ps\/q=(a,p):=fun q=>by
   rw[<-hps',mem_append,mem_cons]
   conv=>rhs;rw[<-List.take_append_drop (t.put j).2 ps,mem_append]
   constructor
   ·rintro (z |z |z)
    ·exact .inl (.inl z)
    ·exact .inr z
    ·exact .inl (.inr z)
   ·rintro ((z |z) |z)
    ·exact .inl z
    ·exact .inr (.inr z)
    ·exact .inr (.inl z)
  have len1:ps1.length=ps.length + 1:=by rw[<-hps'];simp;omega
  have nd1:(ps1.map (·.2)).Nodup:=by
   have hnot:p∉ps.map (·.2):=fun z=>by
    obtain⟨q,hq,e⟩:=mem_map.mp z
    exact hm (mem_map.mpr ⟨q,hq,by rw[e]⟩)
   have perm:(ps1.map (·.2)).Perm (p :: ps.map (·.2)):=by
    rw[<-hps']
    have:(ps.take (t.put j).2 ++ (a,p) :: ps.drop (t.put j).2).Perm ((a,p) :: ps):=by
     refine List.perm_middle.trans ?_
     rw[List.take_append_drop]
    exact this.map (·.2)
   exact perm.nodup_iff.mpr (nodup_cons.mpr ⟨hnot,P.nd⟩)
  have ne:∀b q,b4 prog w s.heap q b->b≠S:=fun b q ⟨o',_,_,ho',_,hd',_⟩ e=>by
   subst e
   rw[ho] at ho';cases ho'
   rw[hd] at hd';cases hd'
  have at1:∀{h':Heap},Heap.SameBut S s.heap h'->∀q,q∈ps1->b4 prog w h' q.2 q.1/\Sm q.2:=fun {h'} hsb q hq=>by
   have key:∀{b:Addr} {q:Pr},b4 prog w s.heap q b->b4 prog w h' q b:=fun {b q} hb=>by
    have hne:=ne b q hb
    obtain⟨o',i',n',ho',r'⟩:=hb
    exact⟨o',i',n',(hsb.2 b hne).trans ho',r'⟩
   rcases (mem1 q).mp hq with z |z
   ·exact⟨key (P.at' q z).1,(P.at' q z).2⟩
   ·subst z;exact⟨key hk,hs⟩
  have hlen64:ps1.length<=64:=by
   have:=x9 nd1 fun x hx=>by
    obtain⟨q,hq,rfl⟩:=mem_map.mp hx
    exact (at1 (Heap.SameBut.refl ..) q hq).2
   simpa using this
  have hsize:((ps1.map (fx f)).toArray).size<=sizeLine:=by rw[sizeLine_eq];simp;omega
  refine wpAny_bind (wpAny_storeSet_of ho hd ?_ hsize)
  have ho1:(s.heap.update S (Obj.putSet (ps1.map (fx f)).toArray (t.put j).1)).get? S=some {o with data:=.set (ps1.map (fx f)).toArray (ep + 1) (t.put j).1}:=by
   have:=Heap.get?_update_self (Obj.putSet (ps1.map (fx f)).toArray (t.put j).1) ho (by rw[putSet_of _ _ hd];rfl)
   rw[putSet_of _ _ hd] at this;exact this
  have sb1:=Heap.SameBut.update s.heap S (Obj.putSet (ps1.map (fx f)).toArray (t.put j).1)
  have hex1:({o with data:=.set (ps1.map (fx f)).toArray (ep + 1) (t.put j).1}:Obj).ExactSet:=hex
  have psz:(t.put j).1.place.size=ps.length + 1:=by
   rw[q1]
   show (insertAt t.place (below t.place j) j).size=_
   rw[<-Array.length_toList,cx _ _ _ (eH T.rise j).1]
   have:=T.size
   simp at this ⊢
   have:=(eH T.rise j).1
   omega
  have dum1:(t.put j).1.dummies=#[]:=by rw[q1];exact T.dum
  have mask1:(t.put j).1.mask=t.mask:=by rw[q1]
  have tsz:t.place.size=ps.length:=by simpa using T.size
  simp only[Bool.not_false,Bool.true_and]
  cases htf:(t.put j).1.tooFull with
  |false=>
   simp only[Bool.false_eq_true,if_false]
   have hload:(t.place.size + 1) * 5 < t.mask * 3:=by
    unfold SetTable.tooFull SetTable.fill at htf
    rw[psz,dum1,mask1] at htf
    simp at htf
    rw[tsz];exact htf
   obtain⟨T1,_⟩:=T.put e2 e3 e4 hload
   refine wpAny_bind (wpAny_pure (wpAny_pure (h true _ ps1 sb1 ⟨⟨_,ep + 1,_,ho1,hex1,rfl,?_,?_⟩,at1 sb1,nd1⟩ (fun q hq=>(mem1 q).mp hq) (fun q hq=>(mem1 q).mpr (.inl hq)) ⟨(a,p),(mem1 _).mpr (.inr rfl),rfl⟩)))
   ·rw[<-hps']
    simpa[List.map_take,List.map_drop] using T1
   ·rw[q1];exact hled
  |true=>
   simp only[if_true]
   have hfull:t.mask * 3<=(ps.length + 1) * 5:=by
    unfold SetTable.tooFull SetTable.fill at htf
    rw[psz,dum1,mask1] at htf
    simpa using htf
   have hload:=T.load
   rw[tsz] at hload
   have hcase:∃mask',Bf mask'/\sizeAbove (grown (ps.length + 1)) - 1=mask'/\sizeAbove (grown (ps.length + 1))<=sizeLine/\(ps.length + 1) * 5 < mask' * 3:=by
    rcases T.mask with e |e |e
    ·have:ps.length + 1=5:=by rw[e] at hfull hload;omega
     rw[this,Eu.1]
     exact⟨31,.inr (.inl rfl),rfl,by rw[sizeLine_eq];decide,by decide⟩
    ·have:ps.length + 1=19:=by rw[e] at hfull hload;omega
     rw[this,Eu.2]
     exact⟨127,.inr (.inr rfl),rfl,by rw[sizeLine_eq];decide,by decide⟩
    ·rw[e] at hfull;omega
   obtain⟨mask',hm3,em,hline,hl2⟩:=hcase
   have hes:(ps.map (fx f)).toArray.size + 1=ps.length + 1:=by simp
   rw[hes,BC]
   have hfit1:(t.put j).1.fits ((ps1.map (fx f)).toArray).size=true:=by
    unfold SetTable.fits SetTable.fill
    have hpl2:ps.length + 1<=t.mask:=by
     rcases T.mask with e |e |e <;> rw[e] at hload ⊢ <;> omega
    rw[psz,dum1,mask1]
    simp[len1,hpl2]
   refine wpAny_bind (wpAny_bind (wpAny_setState_of ho1 rfl hfit1 ?_))
   dsimp only
   rw[if_neg (by omega)]
   rw[v3 _ _ _ hpl,em]
   obtain⟨t2,order,ps2,g1,g2,g3,g4,g5,g6⟩:=tG f hm3 (ps:=ps1) (by rw[len1];exact hl2) (t.put j).1.finger ((t.put j).1.movedTo mask') (t.put j).1.led
   rw[g1]
   simp only[bind_pure_comp,pure_bind]
   rw[g2]
   have hne:((ps2.map (fx f)).toArray.size != (ps1.map (fx f)).toArray.size)=false:=by simp[g3]
   rw[hne]
   simp only[Bool.false_eq_true,if_false]
   have hsize2:((ps2.map (fx f)).toArray).size<=sizeLine:=by rw[sizeLine_eq];simp;omega
   refine wpAny_bind (wpAny_pure ?_)
   refine wpAny_storeSet_of ho1 rfl ?_ hsize2
   have ho2:((s.heap.update S (Obj.putSet (ps1.map (fx f)).toArray (t.put j).1)).update S (Obj.putSet (ps2.map (fx f)).toArray t2)).get? S=some {o with data:=.set (ps2.map (fx f)).toArray (ep + 1 + 1) t2}:=by
    have:=Heap.get?_update_self (Obj.putSet (ps2.map (fx f)).toArray t2) ho1 (by rw[putSet_of (ep:=ep + 1) _ _ rfl];rfl)
    rw[putSet_of (ep:=ep + 1) _ _ rfl] at this;exact this
   have sb2:=sb1.trans (Heap.SameBut.update _ S (Obj.putSet (ps2.map (fx f)).toArray t2))
   have nd2:(ps2.map (·.2)).Nodup:=by
    have hmem:∀q,q∈ps2.map (·.2)↔q∈ps1.map (·.2):=fun q=>by
     rw[mem_map,mem_map]
     exact⟨fun⟨x,hx,e⟩=>⟨x,(g4 x).mp hx,e⟩,fun⟨x,hx,e⟩=>⟨x,(g4 x).mpr hx,e⟩⟩
    have hnd:(ps2.map fun q=>f q.2).Nodup:=by
     refine oF (m:=ps1.map fun q=>f q.2) ?_ (fun x hx=>?_) (by simp[g3])
     ·have:(ps1.map fun q=>f q.2)=(ps1.map (·.2)).map f:=by simp
      rw[this]
      refine pairwise_map.mpr (List.Pairwise.imp_of_mem ?_ nd1)
      intro x y hx hy hxy e
      obtain⟨q,hq,rfl⟩:=mem_map.mp hx
      obtain⟨r,hr,rfl⟩:=mem_map.mp hy
      exact hxy (hinj _ _ (at1 sb1 q hq).2 (at1 sb1 r hr).2 e)
     ·obtain⟨q,hq,rfl⟩:=mem_map.mp hx
      exact mem_map.mpr ⟨q,(g4 q).mpr hq,rfl⟩
    have:(ps2.map fun q=>f q.2)=(ps2.map (·.2)).map f:=by simp
    rw[this] at hnd
    exact (pairwise_map.mp hnd).imp fun hxy e=>hxy (by rw[e])
   refine wpAny_pure (h true _ ps2 sb2 ⟨⟨_,ep + 1 + 1,t2,ho2,hex,rfl,g5,?_⟩,fun q hq=>at1 sb2 q ((g4 q).mp hq),nd2⟩ (fun q hq=>(mem1 q).mp ((g4 q).mp hq)) (fun q hq=>(g4 q).mpr ((mem1 q).mpr (.inl hq))) ⟨(a,p),(g4 _).mpr ((mem1 _).mpr (.inr rfl)),rfl⟩)
   rw[g6,q1];exact hled
end
def kO (w:World):Bool:= !(w.params.followText "set-order")
def ym (prog:Program)(w:World)(p:Pr):Int:=tupleKeyHash (intKind prog w) [p.1,p.2]
theorem DO (prog:Program)(w:World):∀p q,Sm p->Sm q->ym prog w p=ym prog w q->p=q:=fun p q h1 h2 e=>Gi h1 h2 e
section
variable {prog:Program}{w:World}{A:Around}{E:Value->Shared->Prop}{s:Shared}{R:Result->Shared->Prop}{I:Addr}{fp wr:List Addr}{n:Nat}{P:Nat->Value->Prop}{St:Nat->Heap->Prop}
def dr (prog:Program)(w:World)(h:Heap)(vs:List Value)(ps:List Pr):Prop:=vs.length=ps.length/\∀(i:Nat) (v:Value) (p:Pr),vs[i]? =some v->ps[i]? =some p->∃a,v=.ref a/\b4 prog w h p a/\Sm p
abbrev pz (prog:Program)(w:World)(h:Heap)(S:Addr)(vs:List Value)(ps:List Pr)(k:Nat):Prop:=∃qs:List (Addr×Pr),tR (ym prog w) prog w (kO w) h S qs/\
 (∀q,q∈qs->Value.ref q.1∈vs.take k/\q.2∈ps.take k)/\∀p,p∈ps.take k->p∈qs.map (·.2)
theorem nN (W:Walks prog w A.in1 I fp wr n P St)(S:Addr)(hSf:S∉fp){vs:List Value}{ps:List Pr}(hn:vs.length=n)(hP:∀i v,P i v->vs[i]? =some v)(hu:A.in1.units < cLine)(h₀:Heap)
  (hps:dr prog w h₀ vs ps) (hwr:∀b o,b∈S :: wr->h₀.get? b=some o->False):∀(k i:Nat) (s:Shared),n - i=k->i<=n->St i s.heap->(∀b o,h₀.get? b=some o->s.heap.get? b=some o)->pz prog w s.heap S vs ps i->
   (∀h' tk,(∀b o,b∉S :: wr->s.heap.get? b=some o->h'.get? b=some o)->pz prog w h' S vs ps n->R (.ok (.ret .none)) {s with heap:=h',toks:=tk})->
   codeAny (model prog w) A (.builtin "set.update.loop" ⟨[.ref S,.ref I],[]⟩) R s:=by
 have nw:S∉wr:=fun h=>hSf (W.sub _ h)
 intro k
 induction k with
 |zero=>
  intro i s hk hi hst hk0 hF hR
  obtain rfl:i=n:=by omega
  refine codeAny_builtin PyProof.Rows.F.entry_set_update_loop ?_
  rw[Around.under_plainId PyProof.Rows.F.plain_set_update_loop _]
  show wpAny _ A.in1 (pyNext (.ref I) >>= fun r=>_) _ _ s
  refine wpAny_bind (W.done s _ _ hst fun h' tk hm=>?_)
  show wpAny _ A.in1 (ret Value.none) _ _ _
  refine wpAny_pure (hR h' tk (fun b o hb e=>hm b o (fun z=>hb (mem_cons_of_mem _ z)) e) ?_)
  obtain⟨qs,Q1,Q2,Q3⟩:=hF
  obtain⟨o,ep,t,ho,r⟩:=Q1.ex
  refine⟨qs,⟨⟨o,ep,t,hm S o nw ho,r⟩,fun q hq=>⟨?_,(Q1.at' q hq).2⟩,Q1.nd⟩,Q2,Q3⟩
  obtain⟨m,hm1,hm2⟩:=mem_iff_getElem.mp (mem_of_mem_take (Q2 q hq).1)
  have hm1':m < ps.length:=by rw[<-hps.1];exact hm1
  obtain⟨a,ea,ha,_⟩:=hps.2 m vs[m] ps[m] (getElem?_eq_getElem hm1) (getElem?_eq_getElem hm1')
  rw[hm2] at ea
  cases ea
  obtain⟨o',it',n',ho',r'⟩:=(Q1.at' q hq).1
  obtain⟨o2,it2,n2,ho2,r2⟩:=ha
  have:o'=o2:=Option.some.inj (ho'.symm.trans (hk0 _ _ ho2))
  subst this
  exact⟨o',it',n',hm _ _ (fun z=>hwr _ _ (mem_cons_of_mem _ z) ho2) ho',r'⟩
 |succ k ih=>
  intro i s hk hi hst hk0 hF hR
  have hlt:i < n:=by omega
  refine codeAny_builtin PyProof.Rows.F.entry_set_update_loop ?_
  rw[Around.under_plainId PyProof.Rows.F.plain_set_update_loop _]
  show wpAny _ A.in1 (pyNext (.ref I) >>= fun r=>_) _ _ s
  refine wpAny_bind (W.item i s _ _ hlt hst fun v h1 tk1 hv hst1 hm=>?_)
  have hvi:=hP i v hv
  have hip:i < ps.length:=by rw[<-hps.1,hn];exact hlt
  obtain⟨a,rfl,ha,hsm⟩:=hps.2 i v ps[i] hvi (getElem?_eq_getElem hip)
  have k1:∀b o,h₀.get? b=some o->h1.get? b=some o:=fun b o e=>hm b o (fun z=>hwr b o (mem_cons_of_mem _ z) e) (hk0 b o e)
  obtain⟨qs,Q1,Q2,Q3⟩:=hF
  have old:∀{q:Addr×Pr} {h:Heap},q∈qs->(∀b o,h₀.get? b=some o->h.get? b=some o)->b4 prog w h q.2 q.1:=fun {q h} hq kk=>by
   obtain⟨m,hm1,hm2⟩:=mem_iff_getElem.mp (mem_of_mem_take (Q2 q hq).1)
   have hm1':m < ps.length:=by rw[<-hps.1];exact hm1
   obtain⟨a,ea,ha,_⟩:=hps.2 m vs[m] ps[m] (getElem?_eq_getElem hm1) (getElem?_eq_getElem hm1')
   rw[hm2] at ea
   cases ea
   obtain⟨o',it',n',ho',r'⟩:=(Q1.at' q hq).1
   obtain⟨o2,it2,n2,ho2,r2⟩:=ha
   have:o'=o2:=Option.some.inj (ho'.symm.trans (hk0 _ _ ho2))
   subst this
   exact⟨o',it',n',kk _ _ ho2,r'⟩
  have P1:tR (ym prog w) prog w (kO w) h1 S qs:=by
   obtain⟨o,ep,t,ho,r⟩:=Q1.ex
   exact⟨⟨o,ep,t,hm S o nw ho,r⟩,fun q hq=>⟨old hq k1,(Q1.at' q hq).2⟩,Q1.nd⟩
  have ha1:b4 prog w h1 ps[i] a:=by
   obtain⟨o',it',n',ho',r'⟩:=ha
   exact⟨o',it',n',k1 _ _ ho',r'⟩
  show wpAny _ A.in1 (holding [Value.ref a] (setAdd S (.ref a)) >>= fun _=>_) _ _ _
  refine wpAny_bind (wpAny_holding ?_)
  unfold setAdd
  refine wpAny_holding (wpAny_bind (wpAny_pyHash_tuple hu ha1 ?_))
  refine tR.add (DO prog w) (s:={s with heap:=h1,toks:=tk1 + ([ps[i].1,ps[i].2].length + 1)}) P1 ha1 hsm hu fun b h2 qs' sb P2 m1 m2 m3=>?_
  have sbS:∀b o,h₀.get? b=some o->h2.get? b=some o:=fun b o e=>(sb.2 b (fun z=>hwr b o (by rw[z];exact mem_cons_self) e)).trans (k1 b o e)
  refine wpAny_pure ⟨plainId_quiet PyProof.Rows.F.plain_set_update_loop _,ih (i + 1) _ (by omega) hlt (W.frame _ _ _ hst1 fun b hb o e=>?_) sbS ⟨qs',P2,fun q hq=>?_,fun p hp=>?_⟩ fun h' tk hm' F'=>?_⟩
  ·rw[sb.2 b fun z=>hSf (by rw[<-z];exact hb)];exact e
  ·have htk:∀{α:Type} {l:List α} {x:α},x∈l.take i->x∈l.take (i + 1):=fun {α l x} hx=>by
    rw[take_add_one];exact mem_append_left _ hx
   rcases m1 q hq with z |z
   ·exact⟨htk (Q2 q z).1,htk (Q2 q z).2⟩
   ·subst z
    refine⟨?_,?_⟩
    ·rw[take_add_one,hvi];exact mem_append_right _ (by simp)
    ·rw[take_add_one,getElem?_eq_getElem hip];exact mem_append_right _ (by simp)
  ·rw[take_add_one,getElem?_eq_getElem hip] at hp
   rcases mem_append.mp hp with z |z
   ·obtain⟨q,hq,rfl⟩:=mem_map.mp (Q3 p z)
    exact mem_map.mpr ⟨q,m2 q hq,rfl⟩
   ·have:p=ps[i]:=by simpa using z
    obtain⟨q,hq,e⟩:=m3
    exact mem_map.mpr ⟨q,hq,by rw[e,this]⟩
  ·refine hR h' tk (fun b o hb e=>hm' b o hb ?_) F'
   show h2.get? b=some o
   rw[sb.2 b fun z=>hb (by rw[z];exact mem_cons_self)]
   exact hm b o (fun z=>hb (mem_cons_of_mem _ z)) e
theorem vH (a:Value){Q1:Value->Shared->Prop}
  (h:Q1 (.ref s.heap.objs.size) {s with heap:=s.heap.push {cls:=.type "set",dict:=none,data:=.set #[] 0 (.fresh 0 0 (kO w))}}) :
  codeAny (model prog w) A (.call (.builtin "set.__new__") ⟨[.type "set",a],[]⟩) (wants Q1 E) s:=by
 refine codeAny_of_tree ?_
 show wpAny _ A.in1 (do (checkBuiltinCall "set.__new__" ⟨[.type "set",a],[]⟩);again (.builtin "set.__new__" ⟨[.type "set",a],[]⟩)) _ _ s
 refine wpAny_bind (wpAny_of_eq (F.newCall_set_1 a) (wpAny_pure ⟨plainId_quiet F.plain_set_new _,codeAny_builtin F.entry_set_new ?_⟩))
 rw[Around.under_plainId F.plain_set_new _]
 (unfold Builtin.«set.__new__» Builtin.Frozenset.newClass)
 have hsub0:=sub_set_self
 obtain⟨hp0,g0,d0,tk0,os0⟩:=s
 dsimp only
 wp_walk
 (refine wpAny_askSetting (wpAny_pure ?_))
 dsimp only
 simp only[newObj]
 (refine wpAny_bind (wpAny_alloc (wpAny_pure ?_)))
 exact wpAny_pure h
theorem Aa (led:Bool):Tab (.fresh 0 0 led) []:=
 ⟨.inl rfl,rfl,List.Pairwise.nil,fun j h=>(by cases (Array.mem_toList_iff.mpr h)),rfl,(by show (0:Nat) * 5 < 7 * 3;decide),fun i j h e=>(by simp[SetTable.fresh] at e),rfl⟩
structure Src (prog:Program)(w:World)(h:Heap)(l:Addr)(vs:List Value)(T:String)(itO:Obj)(St:Addr->Nat->Heap->Prop):Prop where
 ty:∃o,h.get? l=some o/\o.cls=.type T
 ns:isSubtype (.type T) (.type "set")=pure false
 nf:isSubtype (.type T) (.type "frozenset")=pure false
 nd:(Value.type T == Value.type "dict")=false
 it:∀(A:Around) (s1:Shared) (Q:Value->Shared->Prop) (E:Value->Shared->Prop),(∀b o,h.get? b=some o->s1.heap.get? b=some o)->Q (.ref s1.heap.objs.size) {s1 with heap:=s1.heap.push itO}->wpAny (model prog w) A (pyIter (.ref l)) Q E s1
 st:∀(h1:Heap),(∀b o,h.get? b=some o->h1.get? b=some o)->St h1.objs.size 0 (h1.push itO)
 wk:∀(A:Around) (I:Addr),A.handled=none->l≠I->Walks prog w A I [I,l] [I] vs.length (fun i v=>vs[i]? =some v) (St I)
theorem Src.list {h:Heap}{l:Addr}{vs:List Value}(hl:h.IsList l vs.toArray):Src prog w h l vs "list" {cls:=.type "list_iterator",data:=.fields #[.ref l,.int 0 0]} (fun I i h'=>h'.IsListIter I l i/\h'.IsList l vs.toArray):=by
 obtain⟨o,ho,hc,n,hd⟩:=id hl
 refine⟨⟨o,ho,hc⟩,F.sub_list_set,F.sub_list_frozenset,by decide,fun A s1 Q E k hQ=>wpAny_pyIter_list ⟨o,k _ _ ho,hc,n,hd⟩ hQ,fun h1 k=>⟨⟨_,Heap.get?_push_size _ rfl,rfl,rfl⟩,⟨o,Heap.get?_push_of_some _ (k _ _ ho),hc,n,hd⟩⟩,fun A I hh hne=>?_⟩
 have:=Walks.list (prog:=prog) (w:=w) hh I l hne vs.toArray
 simpa using this
theorem sub_tuple_set:isSubtype (.type "tuple") (.type "set")=pure false:=by rw[isSubtype_type];kernel_rfl
theorem sub_tuple_frozenset:isSubtype (.type "tuple") (.type "frozenset")=pure false:=by rw[isSubtype_type];kernel_rfl
theorem Src.tuple {h:Heap}{l:Addr}{vs:List Value}(hl:h.IsTuple l vs.toArray):Src prog w h l vs "tuple" {cls:=.type "tuple_iterator",data:=.fields #[.ref l,.int 0 0]} (fun I i h'=>h'.IsTupleIter I l i/\h'.IsTuple l vs.toArray):=by
 obtain⟨o,ho,hc,n,hd⟩:=id hl
 refine⟨⟨o,ho,hc⟩,sub_tuple_set,sub_tuple_frozenset,by decide,fun A s1 Q E k hQ=>wpAny_pyIter_tuple ⟨o,k _ _ ho,hc,n,hd⟩ hQ,fun h1 k=>⟨⟨_,Heap.get?_push_size _ rfl,rfl,rfl⟩,⟨o,Heap.get?_push_of_some _ (k _ _ ho),hc,n,hd⟩⟩,fun A I hh hne=>?_⟩
 have:=Walks.tuple (prog:=prog) (w:=w) hh I l hne vs.toArray
 simpa using this
set_option maxHeartbeats 3200000 in
theorem pI {l:Addr}{vs:List Value}{ps:List Pr}{T:String}{itO:Obj}{St:Addr->Nat->Heap->Prop}{Q:Value->Shared->Prop}(X:Src prog w s.heap l vs T itO St)(hh:A.handled=none)(hu:A.units + 64 < cLine)(hps:dr prog w s.heap vs ps)
  (h:∀(h':Heap) (tk:Nat),pz prog w h' s.heap.objs.size vs ps vs.length->(∀b o,s.heap.get? b=some o->h'.get? b=some o)->Q (.ref s.heap.objs.size) {s with heap:=h',toks:=tk}) :
  wpAny (model prog w) A (call (.type "set") [.ref l]) Q E s:=by
 obtain⟨c0,tl0,hmro0⟩:=F.called_set.mro
 have hmade0:=F.called_set.made
 have hsub0:=F.called_set.sub
 refine wpAny_call (codeAny_of_tree ?_)
 show wpAny _ _ (callAny (.type "set") ⟨[.ref l],[]⟩) _ _ _
 refine wpAny_pure ⟨Code.quiet_builtin _ (by decide +kernel),codeAny_builtin F.entry_type_call ?_⟩
 (rw[Around.under_plain (weight_type_call_type "set" [.ref l] []) rfl])
 have g1:=F.called_set.notType
 have g2:=F.called_set.canCreate
 have g3:=F.typeCall_set_1 (.ref l)
 repeat (any_goals (first |assumption |wp_step))
 refine codeAny_mono (vH (.ref l) (E:=E) (Q1:=fun obj s1=>obj=.ref s.heap.objs.size/\s1={s with heap:=s.heap.push {cls:=.type "set",dict:=none,data:=.set #[] 0 (.fresh 0 0 (kO w))}}) ⟨rfl,rfl⟩) fun r s1 hr=>?_
 cases r with
 |error e=>exact hr
 |ok fl=>
  cases fl with
  |ret obj=>
   obtain⟨rfl,rfl⟩:=hr
   generalize hO:({cls:=.type "set",dict:=none,data:=.set #[] 0 (.fresh 0 0 (kO w))}:Obj)=O
   have hS0:(s.heap.push O).get? s.heap.objs.size=some O:=Heap.get?_push_size _ (by rw[<-hO];rfl)
   have hT0:Shared.TypeIs {s with heap:=s.heap.push O} (.ref s.heap.objs.size) "set":=⟨_,hS0,by rw[<-hO]⟩
   have g4:=F.called_set.init.lookup
   have g5:=F.called_set.init.bind (.ref s.heap.objs.size)
   repeat (any_goals (first |assumption |wp_step))
   refine codeAny_mono (codeAny_call_builtin (R:=wants (fun r s2=>r=.none/\∃h' tk,s2={s with heap:=h',toks:=tk}/\pz prog w h' s.heap.objs.size vs ps vs.length/\(∀b o,s.heap.get? b=some o->h'.get? b=some o)) E)
    F.called_set.init.plain F.entry_set_init (check_set_init_1 hT0 ?_)) fun r2 s2 hr2=>?_
   ·obtain⟨ol,hol,hcl⟩:=X.ty
    have hol':(s.heap.push O).get? l=some ol:=Heap.get?_push_of_some _ hol
    have e1:=X.ns
    have e2:=X.nf
    have e3:=X.nd
    have hTl:Shared.TypeIs {s with heap:=s.heap.push O} (.ref l) T:=⟨ol,hol',hcl⟩
    have hdat:O.data=.set #[] 0 (.fresh 0 0 (kO w)):=by rw[<-hO]
    (unfold Builtin.«set.__init__» noKeywords Builtin.Frozenset.updateFrom)
    subst hO
    obtain⟨oc,od,odt,osl⟩:=ol
    simp only at hcl
    subst hcl
    (generalize hPI0:pyIter=PI0)
    wp_walk
    subst hPI0
    have kp:∀b o,s.heap.get? b=some o->(s.heap.push {cls:=.type "set",dict:=none,data:=.set #[] 0 (.fresh 0 0 (kO w))}).get? b=some o:=fun b o e=>Heap.get?_push_of_some _ e
    refine X.it _ _ _ _ kp ?_
    refine wpAny_bind (wpAny_runValue ?_)
    have hlS:l < s.heap.objs.size:=Heap.lt_size hol
    have hh3:A.in1.in1.in1.handled=none:=by simp[hh]
    have hneI:l≠(s.heap.push {cls:=.type "set",dict:=none,data:=.set #[] 0 (.fresh 0 0 (kO w))}).objs.size:=by
     rw[Heap.size_push];exact Nat.ne_of_lt (Nat.lt_succ_of_lt hlS)
    have hSf:s.heap.objs.size∉ [(s.heap.push {cls:=.type "set",dict:=none,data:=.set #[] 0 (.fresh 0 0 (kO w))}).objs.size,l]:=by
     rw[Heap.size_push]
     intro z
     rcases mem_cons.mp z with e |z
     ·exact absurd e (Nat.ne_of_lt (Nat.lt_succ_self _))
     ·exact absurd (mem_singleton.mp z) (Nat.ne_of_gt hlS)
    refine nN (X.wk _ _ hh3 hneI) s.heap.objs.size hSf rfl (fun i v e=>e) (by simp;omega) s.heap hps (fun b o hb e=>?_) (vs.length - 0) 0 _ (by omega) (Nat.zero_le _) (X.st _ kp) (fun b o e=>Heap.get?_push_of_some _ (kp b o e)) ?_ ?_
    ·have hlt:=Heap.lt_size e
     rw[Heap.size_push] at hb
     rcases mem_cons.mp hb with z |z
     ·exact absurd hlt (by rw[z];exact Nat.lt_irrefl _)
     ·rw[mem_singleton.mp z] at hlt
      exact absurd hlt (Nat.not_lt.mpr (Nat.le_succ _))
    ·refine⟨[],⟨⟨_,0,_,Heap.get?_push_of_some _ hS0,⟨rfl,rfl,rfl⟩,rfl,Aa _,rfl⟩,fun q hq=>(by cases hq),nodup_nil⟩,fun q hq=>(by cases hq),fun p hp=>(by simp at hp)⟩
    ·intro h' tk hm F'
     show wpAny _ _ _ _ _ _
     refine wpAny_pure ?_
     show wpAny _ _ (ret Value.none) _ _ _
     refine wpAny_pure ⟨rfl,h',tk,rfl,F',fun b o e=>hm b o (fun z=>?_) (Heap.get?_push_of_some _ (kp b o e))⟩
     have hlt:=Heap.lt_size e
     rw[Heap.size_push] at z
     rcases mem_cons.mp z with z |z
     ·exact absurd hlt (by rw[z];exact Nat.lt_irrefl _)
     ·rw[mem_singleton.mp z] at hlt
      exact absurd hlt (Nat.not_lt.mpr (Nat.le_succ _))
   ·cases r2 with
    |error e=>exact hr2
    |ok fl2=>
     cases fl2 with
     |ret r=>
      obtain⟨rfl,h',tk,rfl,hF,hk⟩:=hr2
      repeat (any_goals (first |assumption |wp_step))
      exact h _ _ hF hk
     |_=>exact hr2.elim
  |_=>exact hr.elim
end
end L2.ST
namespace L2.SO
open PySem PySem.W PyProof.Rows
def lr {α:Type}(lt:Nat->Nat->Bool):KasT α->α
 | .ret a=>a
 | .ask i j k=>lr lt (k (lt i j))
theorem gm {α β:Type}(lt:Nat->Nat->Bool)(f:α->KasT β):∀t:KasT α,lr lt (t.bind f)=lr lt (f (lr lt t))
 | .ret _=>rfl
 | .ask i j k=>gm lt f (k (lt i j))
def uM {α:Type}(n:Nat)(lt:Nat->Nat->Bool):KasT α->Prop
 | .ret _=>True
 | .ask i j k=>i < n/\j < n/\uM n lt (k (lt i j))
theorem iX {α β:Type}{n:Nat}{lt:Nat->Nat->Bool}{f:α->KasT β}:∀{t:KasT α},uM n lt t->uM n lt (f (lr lt t))->uM n lt (t.bind f)
 | .ret _,_,h=>h
 | .ask i j k,h,h'=>⟨h.1,h.2.1,iX h.2.2 h'⟩
section
variable {n:Nat}{key:Nat->Int}
abbrev oI (key:Nat->Int)(i j:Nat):Bool:=decide (key i < key j)
abbrev Kp (key:Nat->Int)(p:Array Nat)(k:Nat):Int:=key (p.getD k 0)
structure Pm (n:Nat)(p:Array Nat):Prop where
 sz:p.size=n
 nd:p.toList.Nodup
 lt:∀x,x∈p->x < n
theorem Pm.at {p:Array Nat}(P:Pm n p){k:Nat}(hk:k < n):p.getD k 0 < n:=by
 have h:k < p.size:=by rw[P.sz];exact hk
 simp only[Array.getD,h,dif_pos]
 exact P.lt _ (Array.getElem_mem h)
theorem Pm.ne {p:Array Nat}(P:Pm n p){i k:Nat}(hi:i < n)(hk:k < n)(hne:i≠k):p.getD i 0≠p.getD k 0:=by
 have h1:i < p.toList.length:=by simpa using (by rw[P.sz];exact hi:i < p.size)
 have h2:k < p.toList.length:=by simpa using (by rw[P.sz];exact hk:k < p.size)
 have h1':i < p.size:=by rw[P.sz];exact hi
 have h2':k < p.size:=by rw[P.sz];exact hk
 have a1:p.getD i 0=p.toList[i]:=by simp[Array.getD,h1']
 have a2:p.getD k 0=p.toList[k]:=by simp[Array.getD,h2']
 rw[a1,a2]
 have q:=pairwise_iff_getElem.mp P.nd
 rcases Nat.lt_or_ge i k with c |c
 ·exact q i k h1 h2 c
 ·exact (q k i h2 h1 (by omega)).symm
theorem Pm.perm {p q:Array Nat}(P:Pm n p)(h:q.Perm p):Pm n q:=by
 have h':=Array.perm_iff_toList_perm.mp h
 exact⟨by rw[h.size_eq];exact P.sz,h'.nodup_iff.mpr P.nd,fun x hx=>P.lt x (by simpa using h'.mem_iff.mp (by simpa using hx))⟩
theorem vN (n:Nat):Pm n (List.toArray (List.range n)):=⟨by simp,by simpa using nodup_range,fun x hx=>by simpa using hx⟩
def Inj (n:Nat)(key:Nat->Int):Prop:=∀i j,i < n->j < n->key i=key j->i=j
theorem Pm.tri {p:Array Nat}(P:Pm n p)(hi:Inj n key){i k:Nat}(h1:i < n)(h2:k < n)(hne:i≠k):Kp key p i < Kp key p k\/Kp key p k < Kp key p i:=by
 have:Kp key p i≠Kp key p k:=fun e=>P.ne h1 h2 hne (hi _ _ (P.at h1) (P.at h2) e)
 omega
def Up (key:Nat->Int)(p:Array Nat)(m:Nat):Prop:=∀i j,i < j->j < m->Kp key p i < Kp key p j
def Dn (key:Nat->Int)(p:Array Nat)(m:Nat):Prop:=∀i j,i < j->j < m->Kp key p j < Kp key p i
theorem Up.snoc {p:Array Nat}{m:Nat}(U:Up key p m)(h1:1<=m)(h:Kp key p (m - 1) < Kp key p m):Up key p (m + 1):=fun i j hij hj=>by
 rcases Nat.lt_or_ge j m with c |c
 ·exact U i j hij c
 ·have:j=m:=by omega
  subst this
  rcases Nat.lt_or_ge i (j - 1) with d |d
  ·exact Int.lt_trans (U i (j - 1) d (by omega)) h
  ·have:i=j - 1:=by omega
   rw[this];exact h
theorem Dn.snoc {p:Array Nat}{m:Nat}(U:Dn key p m)(h1:1<=m)(h:Kp key p m < Kp key p (m - 1)):Dn key p (m + 1):=fun i j hij hj=>by
 rcases Nat.lt_or_ge j m with c |c
 ·exact U i j hij c
 ·have:j=m:=by omega
  subst this
  rcases Nat.lt_or_ge i (j - 1) with d |d
  ·exact Int.lt_trans h (U i (j - 1) d (by omega))
  ·have:i=j - 1:=by omega
   rw[this];exact h
theorem p8 {p:Array Nat}(P:Pm n p)(hi:Inj n key):∀(f m:Nat),1<=m->m + f<=n->Up key p m->
  ∃r,(lr (oI key) (kas_asc p f m)=r/\uM n (oI key) (kas_asc p f m))/\m<=r/\r<=m + f/\Up key p r/\(r < m + f->Kp key p r < Kp key p (r - 1))
 | 0,m,_,_,U=>⟨m,⟨rfl,trivial⟩,Nat.le_refl _,Nat.le_refl _,U,fun h=>absurd h (Nat.lt_irrefl _)⟩
 |f + 1,m,h1,hn,U=>by
  have b1:p.getD m 0 < n:=P.at (by omega)
  have b2:p.getD (m - 1) 0 < n:=P.at (by omega)
  unfold kas_asc lr uM
  by_cases c:Kp key p m < Kp key p (m - 1)
  ·rw[show oI key (p.getD m 0) (p.getD (m - 1) 0)=true from decide_eq_true c]
   simp only[if_true]
   exact⟨m,⟨rfl,b1,b2,trivial⟩,Nat.le_refl _,by omega,U,fun _=>c⟩
  ·rw[show oI key (p.getD m 0) (p.getD (m - 1) 0)=false from decide_eq_false c]
   simp only[Bool.false_eq_true,if_false]
   have up:Kp key p (m - 1) < Kp key p m:=(P.tri hi (by omega) (by omega) (by omega)).resolve_right c
   obtain⟨r,⟨e,o⟩,a,b,u,d⟩:=p8 P hi f (m + 1) (by omega) (by omega) (U.snoc h1 up)
   exact⟨r,⟨e,b1,b2,o⟩,by omega,by omega,u,fun h=>d (by omega)⟩
theorem rY {p:Array Nat}(P:Pm n p)(hi:Inj n key):∀(f m:Nat),1<=m->m + f<=n->Dn key p m->
  ∃r,(lr (oI key) (kas_desc f p m 0)=(p,r,0)/\uM n (oI key) (kas_desc f p m 0))/\m<=r/\r<=m + f/\Dn key p r
 | 0,m,_,_,U=>⟨m,⟨rfl,trivial⟩,Nat.le_refl _,Nat.le_refl _,U⟩
 |f + 1,m,h1,hn,U=>by
  have b1:p.getD m 0 < n:=P.at (by omega)
  have b2:p.getD (m - 1) 0 < n:=P.at (by omega)
  unfold kas_desc lr uM
  by_cases c:Kp key p m < Kp key p (m - 1)
  ·rw[show oI key (p.getD m 0) (p.getD (m - 1) 0)=true from decide_eq_true c]
   simp only[if_true,Nat.lt_irrefl,gt_iff_lt,if_false]
   obtain⟨r,⟨e,o⟩,a,b,u⟩:=rY P hi f (m + 1) (by omega) (by omega) (U.snoc h1 c)
   exact⟨r,⟨e,b1,b2,o⟩,by omega,by omega,u⟩
  ·rw[show oI key (p.getD m 0) (p.getD (m - 1) 0)=false from decide_eq_false c]
   simp only[Bool.false_eq_true,if_false]
   unfold lr uM
   have up:Kp key p (m - 1) < Kp key p m:=(P.tri hi (by omega) (by omega) (by omega)).resolve_right c
   rw[show oI key (p.getD (m - 1) 0) (p.getD m 0)=true from decide_eq_true up]
   simp only[if_true]
   exact⟨m,⟨rfl,b1,b2,b2,b1,trivial⟩,Nat.le_refl _,by omega,U⟩
theorem Bo {p:Array Nat}{j k:Nat}(hj:j<=p.size)(hk:k < j):(kas_rev p 0 j).getD k 0=p.getD (j - 1 - k) 0:=by
 unfold kas_rev
 rw[Array.getD_eq_getD_getElem?,getElem?_mirror_all hj k,if_pos ⟨Nat.zero_le _,hk⟩,Array.getD_eq_getD_getElem?]
 congr 2
 omega
theorem Fb {p:Array Nat}{m:Nat}(hm:m<=p.size)(D:Dn key p m):Up key (kas_rev p 0 m) m:=fun i j hij hj=>by
 unfold Kp
 rw[Bo hm (by omega),Bo hm hj]
 exact D (m - 1 - j) (m - 1 - i) (by omega) (by omega)
theorem Pm.rev {p:Array Nat}(P:Pm n p)(j:Nat):Pm n (kas_rev p 0 j):=P.perm (mirror_perm ..)
theorem wX {p:Array Nat}(P:Pm n p)(hi:Inj n key)(h1:1<=n) :
  ∃m q,(lr (oI key) (kas_count n p)=(m,q)/\uM n (oI key) (kas_count n p))/\Pm n q/\1<=m/\m<=n/\Up key q m:=by
 obtain⟨r,⟨e,o⟩,a,b,u,d⟩:=p8 P hi (n - 1) 1 (Nat.le_refl _) (by omega) (fun i j hij hj=>by omega)
 have rest:∃m q,(lr (oI key) (if (r == n)=true then KasT.ret (r,p) else if r > 1 then .ask (p.getD 0 0) (p.getD (r - 1) 0) fun c=>if c=true then .ret (r,p) else kas_descPart r n (kas_rev p 0 r) else kas_descPart r n p)=(m,q)/\
   uM n (oI key) (if (r == n)=true then KasT.ret (r,p) else if r > 1 then .ask (p.getD 0 0) (p.getD (r - 1) 0) fun c=>if c=true then .ret (r,p) else kas_descPart r n (kas_rev p 0 r) else kas_descPart r n p))/\Pm n q/\1<=m/\m<=n/\Up key q m:=by
  by_cases c:(r == n)=true
  ·rw[if_pos c]
   exact⟨r,p,⟨rfl,trivial⟩,P,a,by omega,u⟩
  ·rw[if_neg c]
   have hrn:r≠n:=by simpa using c
   have dd:=d (by omega)
   by_cases c2:r > 1
   ·rw[if_pos c2]
    unfold lr uM
    rw[show oI key (p.getD 0 0) (p.getD (r - 1) 0)=true from decide_eq_true (u 0 (r - 1) (by omega) (by omega))]
    simp only[if_true]
    exact⟨r,p,⟨rfl,P.at (by omega),P.at (by omega),trivial⟩,P,a,by omega,u⟩
   ·rw[if_neg c2]
    have hr1:r=1:=by omega
    subst hr1
    unfold kas_descPart
    rw[gm]
    have D2:Dn key p 2:=fun i j hij hj=>by
     have e1:i=0:=by omega
     have e2:j=1:=by omega
     rw[e1,e2];exact dd
    obtain⟨x,⟨e2,o2⟩,a2,b2,u2⟩:=rY P hi (n - 2) 2 (by omega) (by omega) D2
    obtain⟨y,⟨e3,o3⟩,a3,b3,u3,_⟩:=p8 (P.rev x) hi (n - x) x (by omega) (by omega) (Fb (by rw[P.sz];omega) u2)
    rw[show n - (1 + 1)=n - 2 from rfl,show (1 + 1:Nat)=2 from rfl]
    have t3:uM n (oI key) (kas_tail3 x n p):=by
     unfold kas_tail3
     exact iX o3 trivial
    refine⟨y,kas_rev p 0 x,⟨?_,iX o2 ?_⟩,P.rev x,by omega,by omega,u3⟩
    ·rw[e2]
     simp only[Nat.lt_irrefl,gt_iff_lt,if_false]
     unfold kas_tail3
     rw[gm,e3]
     rfl
    ·rw[e2]
     simp only[Nat.lt_irrefl,gt_iff_lt,if_false]
     exact t3
 obtain⟨m,q,⟨f1,f2⟩,f3⟩:=rest
 refine⟨m,q,⟨?_,?_⟩,f3⟩
 ·unfold kas_count
  rw[gm,e]
  exact f1
 ·unfold kas_count
  refine iX o ?_
  rw[e]
  exact f2
theorem place_spec {p:Array Nat}{k:Nat}(P:Pm n p)(hi:Inj n key)(hk:k < n)(U:Up key p k):∀(f l r:Nat),l<=r->r<=k->r - l<=f->(∀i,i < l->Kp key p i < Kp key p k)->(∀i,r<=i->i < k->Kp key p k < Kp key p i)->
  ∃x,(lr (oI key) (kas_place p k f l r)=x/\uM n (oI key) (kas_place p k f l r))/\x<=k/\(∀i,i < x->Kp key p i < Kp key p k)/\(∀i,x<=i->i < k->Kp key p k < Kp key p i)
 | 0,l,r,h1,h2,h3,a,b=>⟨l,⟨rfl,trivial⟩,by omega,a,fun i hi=>b i (by omega)⟩
 |f + 1,l,r,h1,h2,h3,a,b=>by
  unfold kas_place
  by_cases c:l>=r
  ·rw[if_pos c]
   exact⟨l,⟨rfl,trivial⟩,by omega,a,fun i hi=>b i (by omega)⟩
  ·rw[if_neg c]
   have b1:p.getD k 0 < n:=P.at hk
   have b2:p.getD ((l + r) / 2) 0 < n:=P.at (by omega)
   unfold lr uM
   by_cases d:Kp key p k < Kp key p ((l + r) / 2)
   ·rw[show oI key (p.getD k 0) (p.getD ((l + r) / 2) 0)=true from decide_eq_true d]
    simp only[if_true]
    have side:∀i,(l + r) / 2<=i->i < k->Kp key p k < Kp key p i:=fun i h1 h2=>by
     rcases Nat.lt_or_ge ((l + r) / 2) i with z |z
     ·exact Int.lt_trans d (U _ _ z h2)
     ·have:i=(l + r) / 2:=by omega
      rw[this];exact d
    obtain⟨x,⟨e1,e2⟩,e3⟩:=place_spec P hi hk U f l ((l + r) / 2) (by omega) (by omega) (by omega) a side
    exact⟨x,⟨e1,b1,b2,e2⟩,e3⟩
   ·rw[show oI key (p.getD k 0) (p.getD ((l + r) / 2) 0)=false from decide_eq_false d]
    simp only[Bool.false_eq_true,if_false]
    have d':Kp key p ((l + r) / 2) < Kp key p k:=(P.tri hi (by omega) hk (by omega)).resolve_right d
    have side:∀i,i < (l + r) / 2 + 1->Kp key p i < Kp key p k:=fun i h=>by
     rcases Nat.lt_or_ge i ((l + r) / 2) with z |z
     ·exact Int.lt_trans (U _ _ z (by omega)) d'
     ·have:i=(l + r) / 2:=by omega
      rw[this];exact d'
    obtain⟨x,⟨e1,e2⟩,e3⟩:=place_spec P hi hk U f ((l + r) / 2 + 1) r (by omega) h2 (by omega) side b
    exact⟨x,⟨e1,b1,b2,e2⟩,e3⟩
theorem Ct {p:Array Nat}{k l j:Nat}(hk:k < p.size)(hl:l<=k):(bubble p k (k - l)).getD j 0=if j=l then p.getD k 0 else if l < j/\j<=k then p.getD (j - 1) 0 else p.getD j 0:=by
 rw[Array.getD_eq_getD_getElem?,getElem?_bubble hk (k - l) (by omega) j,show k - (k - l)=l by omega]
 simp only[Array.getD_eq_getD_getElem?]
 split
 ·rfl
 ·split <;> rfl
theorem vc (hi:Inj n key):∀(f k:Nat) (p:Array Nat),Pm n p->1<=k->k + f=n->Up key p k->∃q,(lr (oI key) (kas_bin f p k)=q/\uM n (oI key) (kas_bin f p k))/\Pm n q/\Up key q n
 | 0,k,p,P,_,e,U=>⟨p,⟨rfl,trivial⟩,P,by rw[<-e];exact U⟩
 |f + 1,k,p,P,h1,e,U=>by
  have hk:k < n:=by omega
  obtain⟨l,⟨el,ol⟩,hl,a,b⟩:=place_spec P hi hk U k 0 k (Nat.zero_le _) (Nat.le_refl _) (by omega) (fun i h=>by omega) (fun i h h'=>by omega)
  have side:Up key (bubble p k (k - l)) (k + 1):=fun i j hij hj=>by
   have hks:k < p.size:=by rw[P.sz];exact hk
   unfold Kp
   rw[Ct hks hl,Ct hks hl]
   by_cases i1:i=l
   ·rw[if_pos i1,if_neg (by omega)]
    by_cases j2:l < j/\j<=k
    ·rw[if_pos j2];exact b _ (by omega) (by omega)
    ·omega
   ·rw[if_neg i1]
    by_cases i2:l < i/\i<=k
    ·rw[if_pos i2,if_neg (by omega),if_pos (by omega)]
     exact U _ _ (by omega) (by omega)
    ·rw[if_neg i2]
     by_cases j1:j=l
     ·rw[if_pos j1];exact a _ (by omega)
     ·rw[if_neg j1]
      by_cases j2:l < j/\j<=k
      ·rw[if_pos j2]
       rcases Nat.lt_or_ge i (j - 1) with z |z
       ·exact U _ _ z (by omega)
       ·omega
      ·rw[if_neg j2];exact U _ _ hij (by omega)
  obtain⟨q,⟨q1,q2⟩,q3⟩:=vc hi f (k + 1) (bubble p k (k - l)) (P.perm (bubble_perm ..)) (by omega) (by omega) side
  refine⟨q,⟨?_,?_⟩,q3⟩
  ·unfold kas_bin;rw[gm,el];exact q1
  ·unfold kas_bin;refine iX ol ?_;rw[el];exact q2
theorem zT (hi:Inj n key)(h2:2<=n):∃q,(lr (oI key) (kas_sort n)=q/\uM n (oI key) (kas_sort n))/\Pm n q/\Up key q n:=by
 obtain⟨m,q,⟨e,o⟩,P,a,b,u⟩:=wX (vN n) hi (by omega)
 by_cases c:m < n
 ·obtain⟨q',⟨e1,o1⟩,r⟩:=vc hi (n - m) m q P a (by omega) u
  refine⟨q',⟨?_,?_⟩,r⟩
  ·unfold kas_sort;rw[gm,e];dsimp only;rw[if_pos c,Nat.max_eq_left a];exact e1
  ·unfold kas_sort;refine iX o ?_;rw[e];dsimp only;rw[if_pos c,Nat.max_eq_left a];exact o1
 ·refine⟨q,⟨?_,?_⟩,P,fun i j hij hj=>u i j hij (by omega)⟩
  ·unfold kas_sort;rw[gm,e];dsimp only;rw[if_neg c];rfl
  ·unfold kas_sort;refine iX o ?_;rw[e];dsimp only;rw[if_neg c];trivial
theorem wp_run {α:Type}{n:Nat}{lt:Nat->Nat->Bool}{cmp:Nat->Nat->(Bool->Shared->Prop)->Shared->Prop}{Q:α->Shared->Prop}{s:Shared} :
  ∀(t:KasT α),(∀i j C,i < n->j < n->C (lt i j) s->cmp i j C s)->uM n lt t->Q (lr lt t) s->t.kasWp cmp Q s
 | .ret a,_,_,h=>h
 | .ask i j k,hc,ho,h=>hc i j _ ho.1 ho.2.1 (wp_run (k (lt i j)) hc ho.2.2 h)
end
end L2.SO
namespace L2.ST
open PySem PySem.SetTable PySem.W PyProof.Rows
def code (p:Pr):Int:=p.1 * 8 + p.2
theorem yI {p q:Pr}(h1:Sm p)(h2:Sm q):code p < code q↔p.1 < q.1\/(p.1=q.1/\p.2 < q.2):=by
 unfold code Sm at *;omega
theorem code_inj {p q:Pr}(h1:Sm p)(h2:Sm q)(e:code p=code q):p=q:=by
 unfold code Sm at *
 refine Prod.ext ?_ ?_ <;> omega
section
variable {prog:Program}{w:World}{A:Around}{E:Value->Shared->Prop}{s:Shared}
abbrev rg (ps:List Pr)(i:Nat):Int:=code (ps.getD i (0,0))
theorem Bm {ps:List Pr}(nd:ps.Nodup)(hs:∀p,p∈ps->Sm p):L2.SO.Inj ps.length (rg ps):=fun i j hi hj e=>by
 have a1:ps.getD i (0,0)=ps[i]:=by simp[hi]
 have a2:ps.getD j (0,0)=ps[j]:=by simp[hj]
 unfold rg at e
 rw[a1,a2] at e
 have e':=code_inj (hs _ (getElem_mem hi)) (hs _ (getElem_mem hj)) e
 have q:=pairwise_iff_getElem.mp nd
 rcases Nat.lt_trichotomy i j with c |c |c
 ·exact absurd e' (q i j hi hj c)
 ·exact c
 ·exact absurd e'.symm (q j i hj hi c)
theorem C4 {a b:Addr}{p q:Pr}{Q:Bool->Shared->Prop}(ha:b4 prog w s.heap p a)(hb:b4 prog w s.heap q b)(hp:Sm p)(hq:Sm q)(h:Q (decide (code p < code q)) s) :
  wpAny (model prog w) A (keyLt' (tuples' true) (.ref a) (.ref b)) Q E s:=by
 obtain⟨oa,ia,na,hoa,hca,hda,hia⟩:=ha
 obtain⟨ob,ib,nb,hob,hcb,hdb,hib⟩:=hb
 obtain⟨l1,rfl⟩:∃l,ia=List.toArray l:=⟨ia.toList,by simp⟩
 obtain⟨l2,rfl⟩:∃l,ib=List.toArray l:=⟨ib.toList,by simp⟩
 simp only[toList_toArray] at hia hib
 cases hia with
 | @cons _ v1 _ _ h1 hia=>
  cases hia with
  | @cons _ v2 _ _ h2 hia=>
   cases hia
   cases hib with
   | @cons _ u1 _ _ g1 hib=>
    cases hib with
    | @cons _ u2 _ _ g2 hib=>
     cases hib
     obtain⟨t1,rfl⟩:=Value.isInt_shape h1
     obtain⟨t2,rfl⟩:=Value.isInt_shape h2
     obtain⟨t3,rfl⟩:=Value.isInt_shape g1
     obtain⟨t4,rfl⟩:=Value.isInt_shape g2
     refine kat_lt hoa hda hob hdb ?_
     have hc:=yI hp hq
     refine kat_cons (wpAny_eqBool_int ?_)
     by_cases e1:p.1=q.1
     ·rw[show (p.1 == q.1)=true by simpa using e1]
      refine kat_yes (kat_cons (wpAny_eqBool_int ?_))
      by_cases e2:p.2=q.2
      ·rw[show (p.2 == q.2)=true by simpa using e2]
       refine kat_yes (kat_nil ?_)
       have:decide (code p < code q)=false:=decide_eq_false (by rw[hc];omega)
       rw[this] at h
       simpa using h
      ·rw[show (p.2 == q.2)=false by simpa using e2]
       refine kat_no ?_
       show wpAny _ _ (oneLt' false _ _) _ _ _
       refine kat_one _ _ (lt_int ?_)
       have:decide (code p < code q)=decide (p.2 < q.2):=by
        by_cases z:p.2 < q.2
        ·rw[decide_eq_true z];exact decide_eq_true (hc.mpr (.inr ⟨e1,z⟩))
        ·rw[decide_eq_false z];exact decide_eq_false (by rw[hc];omega)
       rw[this] at h;exact h
     ·rw[show (p.1 == q.1)=false by simpa using e1]
      refine kat_no ?_
      show wpAny _ _ (oneLt' true _ _) _ _ _
      refine oneLt_int ?_
      have:decide (code p < code q)=decide (p.1 < q.1):=by
       by_cases z:p.1 < q.1
       ·rw[decide_eq_true z];exact decide_eq_true (hc.mpr (.inl z))
       ·rw[decide_eq_false z];exact decide_eq_false (by rw[hc];omega)
      rw[this] at h;exact h
theorem y2:∀{vs:List Value} {ps:List Pr},dr prog w s.heap vs ps->∃fs,KatTups s.heap vs fs/\fs.length=vs.length/\∀v∈fs,∃(i:Int) (t:Tok),v=.int i t
 | [],ps,_=>⟨[],KatTups.nil,rfl,fun v hv=>by cases hv⟩
 |v :: vs,[],h=>by have:=h.1;simp at this
 |v :: vs,p :: ps,h=>by
  obtain⟨a,rfl,⟨o,items,n,ho,hc,hd,hi⟩,_⟩:=h.2 0 v p rfl rfl
  obtain⟨fs,k,e,f⟩:=y2 (vs:=vs) (ps:=ps) ⟨by simpa using h.1,fun i v p h1 h2=>h.2 (i + 1) v p (by simpa using h1) (by simpa using h2)⟩
  obtain⟨l1,rfl⟩:∃l,items=List.toArray l:=⟨items.toList,by simp⟩
  simp only[toList_toArray] at hi
  cases hi with
  | @cons _ v1 _ _ h1 hi=>
   obtain⟨t1,rfl⟩:=Value.isInt_shape h1
   exact⟨_ :: fs,KatTups.cons ho hc hd rfl k,by simp[e],fun v hv=>by
    rcases mem_cons.mp hv with z |z
    ·exact⟨_,_,z⟩
    ·exact f v z⟩
theorem wt {a:Addr}{vs:List Value}{ps:List Pr}{n:Nat}{P:PySem.Fin->Shared->Prop}(ho:s.heap.get? a=some (seqObj "list" vs.toArray n))(hps:dr prog w s.heap vs ps)(nd:ps.Nodup)(h64:vs.length < 64)
  (h:∀(h':Heap) (c:Nat) (ix:Array Nat),L2.SO.Pm vs.length ix->L2.SO.Up (rg ps) ix vs.length->(∀b o,b≠a->s.heap.get? b=some o->h'.get? b=some o)->
   h'.get? a=some (seqObj "list" (ix.toList.map fun i=>vs.getD i Value.none).toArray c)->P (.done (.ret .none)) {s with heap:=h'}) :
  wpAny (model prog w) A (Builtin.«list.sort» ⟨[.ref a],[]⟩) P E s:=by
 have ha:a < s.heap.objs.size:=Heap.lt_size ho
 obtain⟨e1,ho1⟩:∃e1,(s.heap.update a (Obj.mapSeq fun _=>(#[]:Array Value))).get? a=some (seqObj "list" #[] e1):=⟨_,get?_update_seq ho fun _=>#[]⟩
 generalize hH1:(s.heap.update a (Obj.mapSeq fun _=>(#[]:Array Value)))=H1 at ho1
 have sb1:Heap.SameBut a s.heap H1:=by rw[<-hH1];exact Heap.SameBut.update ..
 have kp2:∀b o,H1.get? b=some o->((H1.push (seqObj "tuple" vs.toArray 0)).push (seqObj "list" #[] 0)).get? b=some o:=fun b o e=>Heap.get?_push_of_some _ (Heap.get?_push_of_some _ e)
 generalize hH2:((H1.push (seqObj "tuple" vs.toArray 0)).push (seqObj "list" #[] 0))=H2 at kp2
 have kp:∀b o,b≠a->s.heap.get? b=some o->H2.get? b=some o:=fun b o hb e=>kp2 b o ((sb1.2 b hb).trans e)
 have ho2:=kp2 _ _ ho1
 have hps2:dr prog w H2 vs ps:=⟨hps.1,fun i v p h1 h2=>by
  obtain⟨b,e,⟨o,it,m,hb,hc,hd,r⟩,hs⟩:=hps.2 i v p h1 h2
  refine⟨b,e,⟨o,it,m,kp b o (fun z=>?_) hb,hc,hd,r⟩,hs⟩
  subst z
  rw[ho] at hb;cases hb
  exact absurd hc (by simp[seqObj])⟩
 have hz:vs.length<=sizeLine:=by rw[sizeLine_eq];omega
 rw[list_sort_plain]
 refine wpAny_bind (listItems_at ho rfl (wpAny_bind (listUpdate_at ho rfl ?_ (by simpa using hz) (Nat.zero_le _))))
 rw[hH1]
 refine wpAny_bind (seqEpoch_at (s:={s with heap:=H1}) ho1 rfl (wpAny_bind (wpAny_newTuple ?_ (by simpa using hz))))
 refine wpAny_bind (wpAny_newList ?_ (Nat.zero_le _))
 refine wpAny_holding ?_
 show wpAny (model prog w) A _ P E {s with heap:=(H1.push (seqObj "tuple" vs.toArray 0)).push (seqObj "list" #[] 0)}
 rw[hH2]
 have fin:∀(ix:Array Nat) (st:SortSt),L2.SO.Pm vs.length ix->L2.SO.Up (rg ps) ix vs.length->(arrOf st).map (·.2)=List.toArray (ix.toList.map fun i=>vs.getD i Value.none)->failedOf st=none->
   wpAny (model prog w) A (do
    let sorted:=(arrOf st).map (·.2)
    let touched:=(<-seqEpoch a) != e1
    Builtin.List.listUpdate (.ref a) fun _=>sorted
    if let some e:=failedOf st then rule "list.sort.comparison-raised";throw e
    if touched then rule "list.sort.modified";raiseError "ValueError" "list modified during sort"
    ret .none) P E {s with heap:=H2}:=fun ix st P1 U1 hout hf=>by
  dsimp only
  rw[hout]
  have hsz:(List.toArray (ix.toList.map fun i=>vs.getD i Value.none)).size=vs.length:=by simp[P1.sz]
  refine wpAny_bind (seqEpoch_at (s:={s with heap:=H2}) ho2 rfl ?_)
  refine wpAny_bind (listUpdate_at (s:={s with heap:=H2}) ho2 rfl ?_ (Nat.zero_le _) (Nat.le_trans (Nat.le_of_eq hsz) (Nat.le_succ_of_le hz)))
  rw[hf]
  simp only[bne_self_eq_false,Bool.false_eq_true,if_false]
  obtain⟨c2,hc2⟩:∃c2,(H2.update a (Obj.mapSeq fun _=>List.toArray (ix.toList.map fun i=>vs.getD i Value.none))).get? a=some (seqObj "list" (List.toArray (ix.toList.map fun i=>vs.getD i Value.none)) c2):=⟨_,get?_update_seq ho2 fun _=>List.toArray (ix.toList.map fun i=>vs.getD i Value.none)⟩
  exact wpAny_pure (h _ c2 ix P1 U1 (fun b o hb e=>((Heap.SameBut.update H2 a _).2 b hb).trans (kp b o hb e)) hc2)
 by_cases h2:vs.length < 2
 ·have h2':vs.toArray.size < 2:=by simpa using h2
  dsimp only
  rw[if_pos h2',if_pos h2']
  refine wpAny_bind (wpAny_pure ?_)
  rw[StateT.run_pure]
  refine wpAny_bind (wpAny_pure ?_)
  refine fin (List.toArray (List.range vs.length)) (SortSt.mk' general' (vs.toArray.zip vs.toArray) #[] 7 none) (L2.SO.vN _) (fun i j hij hj=>by omega) ?_ rfl
  have:∀{l:List Value},l.length < 2->((l.toArray.zip l.toArray).map (·.2))=List.toArray ((List.range l.length).map fun i=>l.getD i Value.none):=fun {l} hl=>by
   match l,hl with
   | [],_=>simp
   | [x],_=>simp
  exact (this h2).trans (by simp)
 ·have h2':¬vs.toArray.size < 2:=by simpa using h2
  dsimp only
  rw[if_neg h2',if_neg h2']
  obtain⟨fs,kt,fl,ff⟩:=y2 (s:={s with heap:=H2}) hps2
  refine wpAny_bind (kat_kind (s:={s with heap:=H2}) (T:=.type "int") kt (by omega) (fun v hv=>?_) (by decide) ?_)
  ·obtain⟨i,t,rfl⟩:=ff v hv
   exact .now
  ·rw[show ((Value.type "int" != Value.type "tuple"):Bool)=true by decide]
   have hinj:L2.SO.Inj vs.length (rg ps):=by
    rw[hps.1]
    refine Bm nd fun p hp=>?_
    obtain⟨i,hi,e⟩:=mem_iff_getElem.mp hp
    have hi':i < vs.length:=by rw[hps.1];exact hi
    obtain⟨_,_,_,hs⟩:=hps.2 i vs[i] p (getElem?_eq_getElem hi') (by rw[getElem?_eq_getElem hi,e])
    exact hs
   obtain⟨ix,⟨er,ok⟩,P1,U1⟩:=L2.SO.zT hinj (by omega)
   refine wpAny_bind (wpAny_mono (kat_run (s:={s with heap:=H2}) (κ:=tuples' true) (ks:=vs) (Q:=fun st s'=>s'={s with heap:=H2}/\arrOf st=ix.map (kas_item (vs.toArray.zip vs.toArray))/\failedOf st=none)
    (G:=fun p s'=>p=ix/\s'={s with heap:=H2}) rfl (by omega) h64 (fun p st s' a1 a2 a3 a4=>?_) (L2.SO.wp_run (n:=vs.length) (lt:=L2.SO.oI (rg ps)) _ (fun i j C hi hj hC=>?_) ok ⟨er,rfl⟩)) ?_ fun _ _ x=>x)
   ·obtain⟨rfl,rfl⟩:=a4
    exact⟨rfl,a2,a3⟩
   ·unfold kas_ask
    have hi':i < ps.length:=by rw[<-hps.1];exact hi
    have hj':j < ps.length:=by rw[<-hps.1];exact hj
    obtain⟨b1,eb1,hb1,s1⟩:=hps2.2 i vs[i] ps[i] (getElem?_eq_getElem hi) (getElem?_eq_getElem hi')
    obtain⟨b2,eb2,hb2,s2⟩:=hps2.2 j vs[j] ps[j] (getElem?_eq_getElem hj) (getElem?_eq_getElem hj')
    have e1:vs.getD i Value.none=.ref b1:=by rw[<-eb1];simp[hi]
    have e2:vs.getD j Value.none=.ref b2:=by rw[<-eb2];simp[hj]
    rw[e1,e2]
    refine C4 (s:={s with heap:=H2}) hb1 hb2 s1 s2 ?_
    have:L2.SO.oI (rg ps) i j=decide (code ps[i] < code ps[j]):=by
     unfold L2.SO.oI rg;simp[hi',hj']
    rw[<-this];exact hC
   ·rintro⟨⟨⟩,st⟩ s' ⟨rfl,har,hf⟩
    exact fin ix st P1 U1 (kat_snds rfl har) hf
end
theorem cy:Slot "set_iterator" "__next__" "set_iterator.__next__":=
 Slot.of (owner:="set_iterator") (n:="__next__") (by rw[typeLookup_type,builtinLookup_eq_fast];kernel_rfl) (by decide +kernel) (by decide +kernel) (by decide +kernel) (by first |exact .inl (by decide +kernel) |exact .inr (by decide +kernel)) (by rw[isSubtype_type];kernel_rfl)
theorem j6:entryFor table "set_iterator.__next__"=some Builtin.«set_iterator.__next__»:=entryFor_of_tree (by kernel_rfl)
theorem ll (a:Value):argsOk "set_iterator.__next__" ⟨[a],[]⟩:=by unfold argsOk;kernel_rfl
theorem qg:entryFor table "set.__iter__"=some Builtin.«frozenset.__iter__»:=entryFor_alias (id':="frozenset.__iter__") (by kernel_rfl) rfl (by decide +kernel) (by kernel_rfl)
theorem la:Slot "set_iterator" "__iter__" "set_iterator.__iter__":=
 Slot.of (owner:="set_iterator") (n:="__iter__") (by rw[typeLookup_type,builtinLookup_eq_fast];kernel_rfl) (by decide +kernel) (by decide +kernel) (by decide +kernel) (by first |exact .inl (by decide +kernel) |exact .inr (by decide +kernel)) (by rw[isSubtype_type];kernel_rfl)
theorem oh:entryFor table "set_iterator.__iter__"=some Builtin.«dict_keyiterator.__iter__»:=entryFor_alias (id':="dict_keyiterator.__iter__") (by kernel_rfl) rfl (by decide +kernel) (by kernel_rfl)
theorem oX (a:Value):argsOk "set_iterator.__iter__" ⟨[a],[]⟩:=by unfold argsOk;kernel_rfl
theorem DN (a:Addr)(slot given ep0:Nat):setNext a slot given ep0=(do
  let (es,epoch,t) <-setState a
  if (<-ask).params.followText "set-order" then
   if epoch != ep0 then unsupported "set_iterator.__next__:elements-changed"
   return ((<-setWalk a)[given]?).map fun e=>(e.2,slot)
  if !t.plain && es.size > 1 then unsupported "set_iterator.__next__:the-table-is-plain-no-more"
  let u:Unit <-(show Sem Unit from do if !t.led && !es.isEmpty then unsupported "set:maker-not-led")
  let i:=SetTable.below t.place slot
  return match es[i]?,t.place[i]? with
   |some (_,x),some j=>some (x,j + 1)
   |_,_=>none):=by
 unfold setNext setsByText
 simp only[bind_assoc,pure_bind]
 rfl
theorem Du (a:Addr):setWalk a=(do
  let (es,epoch,t) <-setState a
  if (<-ask).params.followText "set-order" then return pickOrder ((<-ask).params.setOrder a epoch) es
  if !t.plain && es.size > 1 then return (<-drawOrder es.size es.toList).toArray
  let u:Unit <-(show Sem Unit from do if !t.led && es.size > 1 then unsupported "set:maker-not-led")
  return es):=by
 unfold setWalk setsByText
 simp only[bind_assoc,pure_bind]
 rfl
theorem Bc (a:Addr):setDrawn a=(do
  let (es,_,t) <-setState a
  let byText <-(do return (<-ask).params.followText "set-order")
  return !byText && (!t.plain && es.size > 1)):=rfl
theorem i4 {α:Type}:∀(l:List α) (i:Nat) (h:i < l.length),(l[i] :: l.eraseIdx i).Perm l
 |a :: l,0,_=>List.Perm.refl _
 |a :: l,i + 1,h=>by
  have hi:i < l.length:=by simpa using h
  show (l[i] :: a :: l.eraseIdx i).Perm (a :: l)
  exact (List.Perm.swap ..).trans ((i4 l i hi).cons a)
theorem sy {α:Type}(next:Nat->Nat):∀(fuel k:Nat) (left:List α) (out:Array α),left.length=fuel->(pickOrder.go next fuel k left out).toList.Perm (out.toList ++ left)
 | 0,k,left,out,h=>by
  have:left= []:=List.length_eq_zero_iff.mp h
  subst this
  unfold pickOrder.go
  simp
 |fuel + 1,k,left,out,h=>by
  unfold pickOrder.go
  have hlt:next k % left.length < left.length:=Nat.mod_lt _ (by omega)
  rw[getElem?_eq_getElem hlt]
  dsimp only
  refine (sy next fuel (k + 1) _ _ (by rw[List.length_eraseIdx_of_lt hlt];omega)).trans ?_
  rw[Array.toList_push,append_assoc]
  refine List.Perm.append_left _ ?_
  exact i4 left _ hlt
theorem lW {α:Type}(next:Nat->Nat)(xs:Array α):(pickOrder next xs).toList.Perm xs.toList:=by
 have:=sy next xs.size 0 xs.toList #[] (by simp)
 simpa[pickOrder] using this
section
variable {prog:Program}{w:World}{A:Around}{E:Value->Shared->Prop}{s:Shared}
def told (w:World)(S:Addr)(ep:Nat)(es:Array (Int×Value)):Array (Int×Value):=if w.params.followText "set-order" then pickOrder (w.params.setOrder S ep) es else es
theorem rW (w:World)(S:Addr)(ep:Nat)(es:Array (Int×Value)):(told w S ep es).toList.Perm es.toList:=by
 unfold told;split
 ·exact lW _ _
 ·exact List.Perm.refl _
abbrev vV (S:Addr)(slot k n ep:Nat):Obj:={cls:=.type "set_iterator",data:=.fields #[.int (slot:Int) 0,.int (k:Int) 0,.ref S,.int (n:Int) 0,.int (ep:Int) 0]}
structure nt (w:World)(S:Addr)(o:Obj)(es:Array (Int×Value))(ep:Nat)(t:SetTable)(I:Addr)(k:Nat)(h:Heap):Prop where
 set:h.get? S=some o
 data:o.data=.set es ep t
 cls:o.cls=.type "set"
 tab:Tab t (es.toList.map (·.1))
 led:t.led=kO w
 it:∃slot,h.get? I=some (vV S slot k es.size ep)/\(kO w=true->slot=if k=0 then 0 else t.place.getD (k - 1) 0 + 1)
theorem nt.fits {S I:Addr}{o:Obj}{es:Array (Int×Value)}{ep k:Nat}{t:SetTable}{h:Heap}(X:nt w S o es ep t I k h):t.fits es.size=true:=nj X.tab (by simp)
theorem yr {S I:Addr}{o:Obj}{es:Array (Int×Value)}{ep k slot:Nat}{t:SetTable}{Q:Option (Value×Nat)->Shared->Prop}(X:nt w S o es ep t I k s.heap)(hk:k<=es.size)(hs:kO w=true->slot=if k=0 then 0 else t.place.getD (k - 1) 0 + 1)
  (h:∀(r:Option (Value×Nat)),(k < es.size->∃x nx,r=some (x,nx)/\(told w S ep es)[k]?.map (·.2)=some x/\(kO w=true->nx=t.place.getD k 0 + 1))->(k=es.size->r=none)->Q r s) :
  wpAny (model prog w) A (setNext S slot k ep) Q E s:=by
 rw[DN]
 refine wpAny_bind (wpAny_setState_of X.set X.data X.fits ?_)
 dsimp only
 refine wpAny_bind (wpAny_askSetting ?_)
 dsimp only
 cases hb:w.params.followText "set-order" with
 |true=>
  rw[if_pos (show (model prog w).w.params.followText "set-order"=true from hb)]
  simp only[bne_self_eq_false,Bool.false_eq_true,if_false]
  rw[Du]
  refine wpAny_bind (wpAny_bind (wpAny_setState_of X.set X.data X.fits ?_))
  dsimp only
  refine wpAny_bind (wpAny_askSetting ?_)
  dsimp only
  rw[if_pos (show (model prog w).w.params.followText "set-order"=true from hb)]
  refine wpAny_bind (wpAny_askSetting (wpAny_pure (wpAny_pure ?_)))
  have et:told w S ep es=pickOrder (w.params.setOrder S ep) es:=by unfold told;rw[if_pos hb]
  have hsz:(pickOrder (w.params.setOrder S ep) es).size=es.size:=by
   have:=(lW (w.params.setOrder S ep) es).length_eq;simpa using this
  refine h _ (fun hlt=>?_) (fun e=>?_)
  ·have hlt':k < (pickOrder (w.params.setOrder S ep) es).size:=by rw[hsz];exact hlt
   refine⟨(pickOrder (w.params.setOrder S ep) es)[k].2,slot,?_,?_,fun z=>?_⟩
   ·show Option.map _ (pickOrder (w.params.setOrder S ep) es)[k]? =_
    rw[Array.getElem?_eq_getElem hlt'];rfl
   ·rw[et,Array.getElem?_eq_getElem hlt'];rfl
   ·unfold kO at z;rw[hb] at z;cases z
  ·show Option.map _ (pickOrder (w.params.setOrder S ep) es)[k]? =_
   rw[Array.getElem?_eq_none (by rw[hsz];omega)];rfl
 |false=>
  rw[if_neg (show ¬(model prog w).w.params.followText "set-order"=true by intro z;rw[show (model prog w).w.params.followText "set-order"=false from hb] at z;cases z)]
  have hl:kO w=true:=by unfold kO;rw[hb];rfl
  rw[X.tab.plain,X.led,hl]
  simp only[Bool.not_true,Bool.false_and,Bool.false_eq_true,if_false]
  have et:told w S ep es=es:=by unfold told;rw[hb];simp
  have hps:t.place.size=es.size:=by simpa using X.tab.size
  have hbl:below t.place slot=k:=by
   rw[hs hl]
   obtain⟨b1,b2,b3⟩:=eH X.tab.rise (if k=0 then 0 else t.place.getD (k - 1) 0 + 1)
   by_cases k0:k=0
   ·subst k0
    simp only[if_true] at b1 b2 b3 ⊢
    rcases Nat.eq_zero_or_pos (below t.place 0) with z |z
    ·exact z
    ·have:=b2 0 z;omega
   ·rw[if_neg k0] at b1 b2 b3 ⊢
    have hk1:k - 1 < t.place.size:=by omega
    rcases Nat.lt_trichotomy (below t.place (t.place.getD (k - 1) 0 + 1)) k with z |z |z
    ·have q:=b3 (k - 1) (by omega) hk1
     have e:t.place.getD (k - 1) (t.place.getD (k - 1) 0 + 1)=t.place.getD (k - 1) 0:=by simp[Array.getD,hk1]
     omega
    ·exact z
    ·have hks:k < t.place.size:=by omega
     have q:=b2 k z
     have e:t.place.getD k (t.place.getD (k - 1) 0 + 1)=t.place.getD k 0:=by simp[Array.getD,hks]
     have:=jE (d:=0) X.tab.rise (show k - 1 < k by omega) hks
     omega
  refine wpAny_pure ?_
  rw[hbl]
  refine h _ (fun hlt=>?_) (fun e=>?_)
  ·have hlt2:k < t.place.size:=by omega
   refine⟨es[k].2,t.place[k] + 1,?_,?_,fun _=>?_⟩
   ·rw[Array.getElem?_eq_getElem hlt,Array.getElem?_eq_getElem hlt2]
   ·rw[et,Array.getElem?_eq_getElem hlt];rfl
   ·simp[Array.getD,hlt2]
  ·rw[Array.getElem?_eq_none (by omega)]
theorem Ah {S I:Addr}{o:Obj}{es:Array (Int×Value)}{ep:Nat}{t:SetTable}(hh:A.handled=none)(hne:S≠I) :
  Walks prog w A I [I,S] [I] es.size (fun i v=>(told w S ep es)[i]?.map (·.2)=some v) (fun i h=>nt w S o es ep t I i h) where
 sub:=fun b hb=>mem_cons.mpr (.inl (mem_singleton.mp hb))
 frame:=fun i h h' X k=>by
  obtain⟨slot,e,r⟩:=X.it
  exact⟨k S (by simp) _ X.set,X.data,X.cls,X.tab,X.led,slot,k I (by simp) _ e,r⟩
 item:=fun i s Q E hi X hQ=>by
  obtain⟨slot,e,r⟩:=X.it
  have hT:s.TypeIs (.ref I) "set_iterator":=⟨_,e,rfl⟩
  unfold pyNext
  refine wpAny_bind (wpAny_attempt (wpAny_callSpecial?_slot (name:=Str.ofString "__next__") hT cy (wpAny_call_entry cy hT j6 ?_ (ll _))))
  unfold Builtin.«set_iterator.__next__»
  refine wpAny_bind (m:=slotArgs "__next__" 0 _) (wpAny_pure ?_)
  dsimp only
  unfold fieldsOf
  refine wpAny_bind (wpAny_bind (wpAny_load e (wpAny_pure ?_)))
  dsimp only
  unfold setEntries
  refine wpAny_bind (wpAny_bind (wpAny_setState_of X.set X.data X.fits (wpAny_pure ?_)))
  dsimp only
  rw[if_neg (by simp)]
  refine wpAny_bind ?_
  simp only[Int.toNat_natCast]
  refine yr X (Nat.le_of_lt hi) r fun rr h1 _=>?_
  obtain⟨x,nx,rfl,h2,h3⟩:=h1 hi
  dsimp only
  refine wpAny_bind (wpAny_setField e rfl (by simp) ?_)
  have e2:=Heap.get?_update_self (Obj.mapFields fun vs=>vs.setIfInBounds 0 (rawInt (nx:Int))) e rfl
  refine wpAny_bind (wpAny_setField e2 rfl (by simp) ?_)
  refine wpAny_pure ⟨x,rfl,wpAny_pure ?_⟩
  have sb:=(Heap.SameBut.update s.heap I (Obj.mapFields fun vs=>vs.setIfInBounds 0 (rawInt (nx:Int)))).trans (Heap.SameBut.update _ I (Obj.mapFields fun vs=>vs.setIfInBounds 1 (rawInt ((i:Int) + 1))))
  refine hQ x _ _ h2 ⟨(sb.2 S hne).trans X.set,X.data,X.cls,X.tab,X.led,nx,?_,fun z=>?_⟩ fun b o hb eb=>(sb.2 b (by simpa using hb)).trans eb
  ·exact Heap.get?_update_self (Obj.mapFields fun vs=>vs.setIfInBounds 1 (rawInt ((i:Int) + 1))) e2 rfl
  ·rw[if_neg (by omega)];exact h3 z
 done:=fun s Q E X hQ=>by
  obtain⟨slot,e,r⟩:=X.it
  have hT:s.TypeIs (.ref I) "set_iterator":=⟨_,e,rfl⟩
  unfold pyNext
  refine wpAny_bind (wpAny_attempt (wpAny_callSpecial?_slot (name:=Str.ofString "__next__") hT cy (wpAny_call_entry cy hT j6 ?_ (ll _))))
  unfold Builtin.«set_iterator.__next__»
  refine wpAny_bind (m:=slotArgs "__next__" 0 _) (wpAny_pure ?_)
  dsimp only
  unfold fieldsOf
  refine wpAny_bind (wpAny_bind (wpAny_load e (wpAny_pure ?_)))
  dsimp only
  unfold setEntries
  refine wpAny_bind (wpAny_bind (wpAny_setState_of X.set X.data X.fits (wpAny_pure ?_)))
  dsimp only
  rw[if_neg (by simp)]
  refine wpAny_bind ?_
  simp only[Int.toNat_natCast]
  refine yr X (Nat.le_refl _) r fun rr _ h1=>?_
  rw[h1 rfl]
  dsimp only
  refine wpAny_bind (wpAny_setField e rfl (by simp) ?_)
  (show wpAny _ _ (newExc (.type "StopIteration") [] >>= fun x=>raiseNew x) _ _ _)
  refine wpAny_bind ?_
  simp only[newExc,newTuple]
  (refine wpAny_bind (wpAny_newObj_type ?_ (by size_fits)))
  (refine wpAny_bind (m:=firstArgMember _ _) (wpAny_of_eq (a:=Value.none) (by first |rfl | (simp only[firstArgMember];rfl)) ?_))
  (refine wpAny_newObj_type ?_ (by size_fits))
  simp only[raiseNew]
  refine wpAny_bind (wpAny_handled ?_)
  (rw[show A.in1.handled=none from hh])
  refine wpAny_bind (wpAny_pure (wpAny_throw ?_))
  refine wpAny_bind (wpAny_isInstance (T:="StopIteration") (b:=true) ⟨_,Heap.get?_push_size _ rfl,rfl⟩ isSubtype_stop (wpAny_pure (hQ _ _ fun b o hb eb=>?_)))
  exact Heap.get?_push_of_some _ (Heap.get?_push_of_some _ (((Heap.SameBut.update ..).2 b (by simpa using hb)).trans eb))
 self:=fun i s Q E X hQ=>by
  obtain⟨slot,e,r⟩:=X.it
  have hT:s.TypeIs (.ref I) "set_iterator":=⟨_,e,rfl⟩
  refine wpAny_pyIter_slot hT la (wpAny_call_entry la hT oh ?_ (oX _))
  show wpAny _ _ (ret (.ref I)) _ _ s
  exact wpAny_pure ⟨_,rfl,"set_iterator",_,hT,cy.lookup,hQ⟩
theorem BZ {S:Addr}{o:Obj}{es:Array (Int×Value)}{ep:Nat}{t:SetTable}{Q:Value->Shared->Prop}(ho:s.heap.get? S=some o)(hd:o.data=.set es ep t)(hc:o.cls=.type "set")(T:Tab t (es.toList.map (·.1)))(hl:t.led=kO w)
  (h:Q (.ref s.heap.objs.size) {s with heap:=s.heap.push (vV S 0 0 es.size ep)}):wpAny (model prog w) A (pyIter (.ref S)) Q E s:=by
 have hT:s.TypeIs (.ref S) "set":=⟨o,ho,hc⟩
 have hf:t.fits es.size=true:=nj T (by simp)
 refine wpAny_pyIter_slot hT F.slot_set_iter (wpAny_call_entry F.slot_set_iter hT qg ?_ (F.args_set_iter_1 _))
 unfold Builtin.«frozenset.__iter__» Builtin.Frozenset.slot0
 refine wpAny_bind (wpAny_bind (m:=slotArgs "__iter__" 0 _) (wpAny_pure (wpAny_pure ?_)))
 unfold Builtin.Frozenset.sizeOf setEntries
 refine wpAny_bind (wpAny_bind (wpAny_bind (wpAny_setState_of ho hd hf (wpAny_pure (wpAny_pure ?_)))))
 rw[Bc]
 refine wpAny_bind (wpAny_bind (wpAny_setState_of ho hd hf ?_))
 dsimp only
 refine wpAny_bind (wpAny_bind (wpAny_askSetting (wpAny_pure (wpAny_pure ?_))))
 rw[T.plain]
 simp only[Bool.not_true,Bool.false_and,Bool.and_false,Bool.false_eq_true,if_false]
 refine wpAny_bind (wpAny_pure ?_)
 unfold setEpoch
 refine wpAny_bind (wpAny_bind (wpAny_setState_of ho hd hf (wpAny_pure ?_)))
 refine wpAny_bind (wpAny_newObj_type (wpAny_pure ⟨_,rfl,"set_iterator",_,⟨_,Heap.get?_push_size _ rfl,rfl⟩,cy.lookup,h⟩))
theorem va {S:Addr}{o:Obj}{es:Array (Int×Value)}{ep:Nat}{t:SetTable}{Q:List Value->Shared->Prop}(hh:A.handled=none)(ho:s.heap.get? S=some o)(hd:o.data=.set es ep t)(hc:o.cls=.type "set")(T:Tab t (es.toList.map (·.1)))(hl:t.led=kO w)
  (hn:es.size<=64) (h:∀h' tk vs,vs=(told w S ep es).toList.map (·.2)->(∀b o,s.heap.get? b=some o->h'.get? b=some o)->Q vs {s with heap:=h',toks:=tk}):wpAny (model prog w) A (collect (.ref S)) Q E s:=by
 have hz:es.size<=sizeLine:=by rw[sizeLine_eq];omega
 unfold collect
 (refine wpAny_bind (wpAny_runValue (codeAny_builtin F.entry_proto_collect ?_)))
 (rw[Around.under_plainId F.plain_proto_collect _])
 show wpAny _ A.in1 (newList [] >>= fun l=>again (.builtin "list.__iadd__" ⟨[l,.ref S],[]⟩)) _ _ s
 refine wpAny_bind (wpAny_newObj_type ?_)
 (refine wpAny_pure ⟨plainId_quiet F.plain_list_iadd _,codeAny_builtin F.entry_list_iadd ?_⟩)
 (rw[Around.under_plainId F.plain_list_iadd _])
 show wpAny _ A.in1 (Builtin.List.listExtendWith (.ref s.heap.objs.size) (.ref S) (.ref s.heap.objs.size)) _ _ {s with heap:=s.heap.push (seqObj "list" #[] 0)}
 generalize hH:s.heap.push (seqObj "list" #[] 0)=H1
 have kp1:∀b o,s.heap.get? b=some o->H1.get? b=some o:=fun b o e=>by rw[<-hH];exact Heap.get?_push_of_some _ e
 have hD:H1.get? s.heap.objs.size=some (seqObj "list" #[] 0):=by rw[<-hH];exact Heap.get?_push_size _ rfl
 have hHs:H1.objs.size=s.heap.objs.size + 1:=by rw[<-hH];exact Heap.size_push ..
 have hSD:S≠s.heap.objs.size:=Nat.ne_of_lt (Heap.lt_size ho)
 have hT:Shared.TypeIs {s with heap:=H1} (.ref S) "set":=⟨o,kp1 _ _ ho,hc⟩
 unfold Builtin.List.listExtendWith
 refine wpAny_bind (wpAny_typeOf hT ?_)
 have h1:Builtin.List.listSameRef (.ref s.heap.objs.size) (.ref S)=false:=by simp[Builtin.List.listSameRef,Ne.symm hSD]
 have h2:(Value.type "set" == Value.type "list")=false:=by decide
 have h3:(Value.type "set" == Value.type "tuple")=false:=by decide
 rw[h1,h2,h3]
 simp only[Bool.or_false,Bool.false_eq_true,if_false]
 refine wpAny_bind (BZ (s:={s with heap:=H1}) (kp1 _ _ ho) hd hc T hl ?_)
 refine wpAny_bind (wpAny_holding ?_)
 unfold Builtin.List.listLengthHint
 have hT2:Shared.TypeIs {s with heap:=H1.push (vV S 0 0 es.size ep)} (.ref S) "set":=⟨o,Heap.get?_push_of_some _ (kp1 _ _ ho),hc⟩
 refine wpAny_bind (wpAny_specialOf hT2 F.slot_set_len.lookup ?_)
 wp_delta
 refine wpAny_bind (wpAny_isInstance hT2 (b:=true) (by rw[isSubtype_type];kernel_rfl) ?_)
 show wpAny _ A.in1 (typeOf (Value.ref S) >>= fun _=>_) _ _ _
 refine wpAny_bind (wpAny_typeOf hT2 ?_)
 refine wpAny_pure ?_
 show wpAny _ A.in1 (rule "list.extend.makes-room" >>= fun _=>Builtin.List.listTouch (.ref s.heap.objs.size) >>= fun _=>again (.builtin "list.extend.loop" ⟨[.ref s.heap.objs.size,.ref H1.objs.size,.ref s.heap.objs.size],[]⟩)) _ _ _
 refine wpAny_bind (wpAny_rule (wpAny_bind ?_))
 generalize hH2:H1.push (vV S 0 0 es.size ep)=H2
 have kp2:∀b o,H1.get? b=some o->H2.get? b=some o:=fun b o e=>by rw[<-hH2];exact Heap.get?_push_of_some _ e
 have hI:H2.get? H1.objs.size=some (vV S 0 0 es.size ep):=by rw[<-hH2];exact Heap.get?_push_size _ rfl
 have hS0:=kp2 _ _ hD
 show wpAny _ A.in1 (updateSeq s.heap.objs.size (·.push .none) >>= fun _=>updateSeq s.heap.objs.size (·.pop)) _ _ _
 refine wpAny_bind (wpAny_updateSeq (s:={s with heap:=H2}) hS0 rfl ?_)
 have hS2:=Heap.get?_update_self (Obj.mapSeq (·.push Value.none)) hS0 rfl
 refine wpAny_updateSeq (hz:=by seq_fits) hS2 rfl ?_
 have hS3:=Heap.get?_update_self (Obj.mapSeq (·.pop)) hS2 rfl
 have oth:∀b o,b≠s.heap.objs.size->H2.get? b=some o->((H2.update s.heap.objs.size (Obj.mapSeq (·.push Value.none))).update s.heap.objs.size (Obj.mapSeq (·.pop))).get? b=some o:=fun b o hb e=>
  ((Heap.SameBut.update _ s.heap.objs.size (Obj.mapSeq (·.pop))).2 b hb).trans (((Heap.SameBut.update H2 s.heap.objs.size (Obj.mapSeq (·.push Value.none))).2 b hb).trans e)
 have hIS:S≠H1.objs.size:=by rw[hHs];exact Nat.ne_of_lt (Nat.lt_succ_of_lt (Heap.lt_size ho))
 have hID:H1.objs.size≠s.heap.objs.size:=by rw[hHs];exact Nat.succ_ne_self _
 have hDf:s.heap.objs.size∉ [H1.objs.size,S]:=fun z=>by
  rcases mem_cons.mp z with e |z
  ·exact hID e.symm
  ·exact hSD (mem_singleton.mp z).symm
 have X0:nt w S o es ep t H1.objs.size 0 ((H2.update s.heap.objs.size (Obj.mapSeq (·.push Value.none))).update s.heap.objs.size (Obj.mapSeq (·.pop))):=
  ⟨oth _ _ hSD (kp2 _ _ (kp1 _ _ ho)),hd,hc,T,hl,0,oth _ _ hID hI,fun _=>rfl⟩
 refine wpAny_pure ⟨plainId_quiet F.plain_extend_loop _,codeAny_extend_loopS (Ah (A:=A.in1) (o:=o) (t:=t) hh hIS).toS hz _ hDf _ es.size 0 _ _ _ rfl (Nat.zero_le _) X0 hS3 (ItemsOf.nil _) fun s' acc' c' hm hS' hacc=>?_⟩
 show wpAny _ A (load s.heap.objs.size >>= fun _=>_) _ _ s'
 refine wpAny_bind (wpAny_load hS' (wpAny_pure ?_))
 obtain⟨h',g',d',tk',os'⟩:=s'
 have eg:g'=s.gens:=hm.gens
 have ed:d'=s.drawn:=hm.drawn
 have eo:os'=s.os:=hm.os
 subst eg ed eo
 refine h h' tk' acc'.toList ?_ fun b ob e=>hm.heap b ob (fun hb=>?_) (oth b ob (Nat.ne_of_lt (Heap.lt_size e)) (kp2 _ _ (kp1 _ _ e)))
 ·have hts:(told w S ep es).size=es.size:=by have:=(rW w S ep es).length_eq;simpa using this
  apply ext_getElem?
  intro i
  rw[getElem?_map]
  by_cases hi:i < es.size
  ·have hi1:i < acc'.size:=by rw[hacc.1];exact hi
   have q:=hacc.2 i acc'[i] (Array.getElem?_eq_getElem hi1)
   rw[Array.getElem?_toList,Array.getElem?_toList,Array.getElem?_eq_getElem hi1]
   exact q.symm
  ·rw[Array.getElem?_toList,Array.getElem?_toList,Array.getElem?_eq_none (by rw[hacc.1];omega),Array.getElem?_eq_none (by omega)];rfl
 ·have hlt:=Heap.lt_size e
  rcases mem_cons.mp hb with z |z
  ·rw[z] at hlt;exact Nat.lt_irrefl _ hlt
  ·rw[mem_singleton.mp z,hHs] at hlt;exact absurd hlt (Nat.not_lt.mpr (Nat.le_succ _))
end
end L2.ST
namespace OM
abbrev Pr:=Int×Int
def CF (p q:Pr):Prop:=p.1 < q.1\/(p.1=q.1/\p.2 < q.2)
theorem kX (p:Pr):¬CF p p:=by unfold CF;omega
theorem zk {p q r:Pr}(a:CF p q)(b:CF q r):CF p r:=by unfold CF at *;omega
abbrev uL (l:List Pr):Prop:=l.Pairwise CF
theorem gK:∀{l m:List Pr},uL l->uL m->(∀x,x∈l↔x∈m)->l=m
 | [],[],_,_,_=>rfl
 | [],b :: m,_,_,h=>absurd ((h b).mpr (mem_cons_self ..)) (by simp)
 |a :: l,[],_,_,h=>absurd ((h a).mp (mem_cons_self ..)) (by simp)
 |a :: l,b :: m,hl,hm,h=>by
  have hl':=List.pairwise_cons.mp hl
  have hm':=List.pairwise_cons.mp hm
  have e:a=b:=by
   rcases mem_cons.mp ((h a).mp (mem_cons_self ..)) with e |e
   ·exact e
   ·rcases mem_cons.mp ((h b).mpr (mem_cons_self ..)) with e' |e'
    ·exact e'.symm
    ·exact absurd (zk (hm'.1 a e) (hl'.1 b e')) (kX _)
  subst e
  congr 1
  refine gK hl'.2 hm'.2 fun x=>⟨fun hx=>?_,fun hx=>?_⟩
  ·rcases mem_cons.mp ((h x).mp (mem_cons_of_mem _ hx)) with e |e
   ·subst e;exact absurd (hl'.1 x hx) (kX _)
   ·exact e
  ·rcases mem_cons.mp ((h x).mpr (mem_cons_of_mem _ hx)) with e |e
   ·subst e;exact absurd (hm'.1 x hx) (kX _)
   ·exact e
theorem eY {l:List Pr}(h:uL l):l.Nodup:=h.imp fun {a b} hab e=>by subst e;exact kX _ hab
theorem eQ {l:List Pr}(p:Pr->Bool)(h:uL l):uL (l.filter p):=h.sublist List.filter_sublist
def cN (n:Nat):List Pr:=(List.range (n * n)).map fun k=>(((k / n:Nat):Int),((k % n:Nat):Int))
theorem bh {n:Nat}{p:Pr}:p∈cN n↔(0<=p.1/\p.1 < n)/\(0<=p.2/\p.2 < n):=by
 unfold cN
 rw[mem_map]
 constructor
 ·rintro⟨k,hk,rfl⟩
  have hk:=mem_range.mp hk
  have hn:0 < n:=by
   rcases Nat.eq_zero_or_pos n with e |e
   ·subst e;omega
   ·exact e
  have h1:k / n < n:=Nat.div_lt_of_lt_mul hk
  have h2:k % n < n:=Nat.mod_lt _ hn
  generalize k / n=q at h1
  generalize k % n=r at h2
  exact⟨⟨Int.natCast_nonneg _,by dsimp only;omega⟩,⟨Int.natCast_nonneg _,by dsimp only;omega⟩⟩
 ·rintro⟨⟨a0,a1⟩,⟨b0,b1⟩⟩
  have hn:0 < n:=by omega
  refine⟨p.1.toNat * n + p.2.toNat,mem_range.mpr ?_,?_⟩
  ·have h1:p.1.toNat + 1<=n:=by omega
   have h2:p.2.toNat < n:=by omega
   have:=Nat.mul_le_mul_right n h1
   rw[Nat.add_mul] at this
   omega
  ·have h2:p.2.toNat < n:=by omega
   have e1:(p.1.toNat * n + p.2.toNat) / n=p.1.toNat:=by
    rw[Nat.mul_comm,Nat.mul_add_div hn,Nat.div_eq_of_lt h2];rfl
   have e2:(p.1.toNat * n + p.2.toNat) % n=p.2.toNat:=by
    rw[Nat.mul_comm,Nat.mul_add_mod,Nat.mod_eq_of_lt h2]
   rw[e1,e2]
   refine Prod.ext ?_ ?_ <;> dsimp only <;> omega
theorem g8 (n:Nat):uL (cN n):=by
 unfold cN
 refine pairwise_map.mpr (List.Pairwise.imp_of_mem ?_ List.pairwise_lt_range)
 intro a b ha hb hab
 have ha:=mem_range.mp ha
 have hb:=mem_range.mp hb
 have hn:0 < n:=by
  rcases Nat.eq_zero_or_pos n with e |e
  ·subst e;omega
  ·exact e
 have h1:a / n<=b / n:=Nat.div_le_div_right (Nat.le_of_lt hab)
 have e1:=Nat.div_add_mod a n
 have e2:=Nat.div_add_mod b n
 unfold CF
 dsimp only
 rcases Nat.lt_or_ge (a / n) (b / n) with c |c
 ·left;omega
 ·right
  have e:a / n=b / n:=by omega
  rw[e] at e1
  omega
open Classical in
noncomputable def bR (n:Nat)(R:Int->Int->Prop):List Pr:=(cN n).filter fun p=>decide (R p.1 p.2)
theorem aY {n:Nat}{R:Int->Int->Prop}{p:Pr}:p∈bR n R↔((0<=p.1/\p.1 < n)/\(0<=p.2/\p.2 < n))/\R p.1 p.2:=by
 unfold bR
 rw[mem_filter,bh]
 simp
theorem cA (n:Nat)(R:Int->Int->Prop):uL (bR n R):=eQ _ (g8 n)
theorem wF {n:Nat}{R S:Int->Int->Prop}(h:∀a b:Int,0<=a->a < n->0<=b->b < n->(R a b↔S a b)):bR n R=bR n S:=by
 refine gK (cA n R) (cA n S) fun x=>?_
 rw[aY,aY]
 constructor
 ·rintro⟨⟨⟨a,b⟩,c,d⟩,r⟩;exact⟨⟨⟨a,b⟩,c,d⟩,(h _ _ a b c d).mp r⟩
 ·rintro⟨⟨⟨a,b⟩,c,d⟩,r⟩;exact⟨⟨⟨a,b⟩,c,d⟩,(h _ _ a b c d).mpr r⟩
def Wn (n:Nat)(l:List Pr):Prop:=∀p,p∈l->(0<=p.1/\p.1 < n)/\(0<=p.2/\p.2 < n)
abbrev Mem (l:List Pr)(a b:Int):Prop:=(a,b)∈l
theorem zr {n:Nat}{l:List Pr}(w:Wn n l)(r:uL l):bR n (Mem l)=l:=by
 refine gK (cA n _) r fun x=>?_
 rw[aY]
 exact⟨fun h=>h.2,fun h=>⟨w x h,h⟩⟩
theorem pC (n:Nat)(R:Int->Int->Prop):Wn n (bR n R):=fun _ h=>(aY.mp h).1
theorem vM (n:Nat)(R:Int->Int->Prop):(bR n R).length<=n * n:=by
 unfold bR
 refine Nat.le_trans (length_filter_le ..) ?_
 unfold cN;simp
inductive Tr (R:Int->Int->Prop):Int->Int->Prop
 |one {a b}:R a b->Tr R a b
 |more {a b c}:R a b->Tr R b c->Tr R a c
theorem Tr.trans {R:Int->Int->Prop}{a b c:Int}(h:Tr R a b)(k:Tr R b c):Tr R a c:=by
 induction h with
 |one r=>exact .more r k
 |more r _ ih=>exact .more r (ih k)
theorem Tr.least {R S:Int->Int->Prop}(f:∀a b,R a b->S a b)(t:∀a b c,S a b->S b c->S a c){a b:Int}(h:Tr R a b):S a b:=by
 induction h with
 |one r=>exact f _ _ r
 |more r _ ih=>exact t _ _ _ (f _ _ r) ih
structure Ord (n:Nat)(l:List Pr):Prop where
 lo:1<=n
 hi:n<=8
 wn:Wn n l
 ris:uL l
 irr:∀a,(a,a)∉l
 tr:∀a b c,(a,b)∈l->(b,c)∈l->(a,c)∈l
theorem Ord.tr_mem {n:Nat}{l:List Pr}(O:Ord n l){a b:Int}:Tr (Mem l) a b↔(a,b)∈l:=
 ⟨fun h=>h.least (fun _ _ r=>r) fun a b c=>O.tr a b c,fun h=>.one h⟩
theorem Ord.closed {n:Nat}{l:List Pr}(O:Ord n l):bR n (Tr (Mem l))=l:=by
 rw[wF (S:=Mem l) fun a b _ _ _ _=>O.tr_mem,zr O.wn O.ris]
theorem Fi {n:Nat}{l:List Pr}(h1:1<=n)(h8:n<=8)(w:Wn n l)(hr:∀a,¬Tr (Mem l) a a):Ord n (bR n (Tr (Mem l))):=
 ⟨h1,h8,pC n _,cA n _,fun a h=>hr a (aY.mp h).2,fun a b c h k=>aY.mpr ⟨⟨(aY.mp h).1.1,(aY.mp k).1.2⟩,(aY.mp h).2.trans (aY.mp k).2⟩⟩
theorem jM {l m:List Pr}(hl:l.Nodup)(h:∀x,x∈l->x∈m):l.length<=m.length:=by
 induction l generalizing m with
 |nil=>exact Nat.zero_le _
 |cons a l ih=>
  have ha:=h a (mem_cons_self ..)
  have hl':=nodup_cons.mp hl
  have:=ih (m:=m.erase a) hl'.2 fun x hx=>by
   refine (List.mem_erase_of_ne ?_).mpr (h x (mem_cons_of_mem _ hx))
   rintro rfl;exact hl'.1 hx
  rw[length_erase_of_mem ha] at this
  have:0 < m.length:=List.length_pos_of_mem ha
  simp only[length_cons];omega
theorem sub_eq {l m:List Pr}(hl:uL l)(hm:uL m)(h:∀x,x∈l->x∈m)(e:l.length=m.length):l=m:=by
 refine gK hl hm fun x=>⟨h x,fun hx=>Classical.byContradiction fun hn=>?_⟩
 have:=jM (l:=x :: l) (m:=m) (nodup_cons.mpr ⟨hn,eY hl⟩) fun y hy=>by
  rcases mem_cons.mp hy with e |e
  ·subst e;exact hx
  ·exact h y e
 simp only[length_cons] at this
 omega
def more (l:List Pr):List Pr:=l.flatMap fun p=>(l.filter fun q=>decide (q.1=p.2)).map fun q=>(p.1,q.2)
theorem qH {l:List Pr}{x:Pr}:x∈more l↔∃b,(x.1,b)∈l/\(b,x.2)∈l:=by
 unfold more
 rw[List.mem_flatMap]
 constructor
 ·rintro⟨p,hp,hx⟩
  obtain⟨q,hq,rfl⟩:=mem_map.mp hx
  obtain⟨hq,e⟩:=mem_filter.mp hq
  have e:q.1=p.2:=by simpa using e
  exact⟨p.2,hp,by rw[<-e];exact hq⟩
 ·rintro⟨b,h1,h2⟩
  exact⟨(x.1,b),h1,mem_map.mpr ⟨(b,x.2),mem_filter.mpr ⟨h2,by simp⟩,rfl⟩⟩
noncomputable def lH (n:Nat)(l:List Pr):List Pr:=bR n (Mem (l ++ more l))
structure EH (n:Nat)(ps l:List Pr):Prop where
 wn:Wn n l
 ris:uL l
 sub:∀x,x∈ps->x∈l
 sup:∀x,x∈l->Tr (Mem ps) x.1 x.2
theorem zD {n:Nat}{ps:List Pr}(w:Wn n ps):EH n ps (bR n (Mem ps)):=
 ⟨pC n _,cA n _,fun x hx=>aY.mpr ⟨w x hx,hx⟩,fun _ hx=>.one (aY.mp hx).2⟩
theorem Cu {n:Nat}{ps l:List Pr}(B:EH n ps l):Wn n (l ++ more l):=fun x hx=>by
 rcases mem_append.mp hx with h |h
 ·exact B.wn x h
 ·obtain⟨b,h1,h2⟩:=qH.mp h
  exact⟨(B.wn _ h1).1,(B.wn _ h2).2⟩
theorem wj {n:Nat}{ps l:List Pr}(B:EH n ps l):EH n ps (lH n l)/\∀x,x∈l->x∈lH n l:=by
 have hs:∀x,x∈l->x∈lH n l:=fun x hx=>aY.mpr ⟨B.wn x hx,mem_append_left _ hx⟩
 refine⟨⟨pC n _,cA n _,fun x hx=>hs x (B.sub x hx),fun x hx=>?_⟩,hs⟩
 rcases mem_append.mp (aY.mp hx).2 with h |h
 ·exact B.sup _ h
 ·obtain⟨b,h1,h2⟩:=qH.mp h
  exact (B.sup _ h1).trans (B.sup _ h2)
theorem AU {n:Nat}{ps l:List Pr}(B:EH n ps l)(e:(lH n l).length=l.length):lH n l=bR n (Tr (Mem ps)):=by
 obtain⟨B2,hs⟩:=wj B
 have q:l=lH n l:=sub_eq B.ris B2.ris hs e.symm
 refine gK B2.ris (cA n _) fun x=>⟨fun h=>aY.mpr ⟨B2.wn x h,B2.sup x h⟩,fun h=>?_⟩
 rw[<-q]
 have tr:∀a b c:Int,(a,b)∈l->(b,c)∈l->(a,c)∈l:=fun a b c h1 h2=>by
  rw[q]
  exact aY.mpr ⟨⟨(B.wn _ h1).1,(B.wn _ h2).2⟩,mem_append_right _ (qH.mpr ⟨b,h1,h2⟩)⟩
 exact (aY.mp h).2.least (S:=Mem l) (fun a b r=>B.sub _ r) tr
abbrev Tb:=Nat->Nat->Bool
def Tb.set (M:Tb)(a b:Nat):Tb:=fun x y=>if x=a/\y=b then true else M x y
def Dp (M:Tb)(m:Nat):Prop:=∀k a b,k < m->M a k=true->M k b=true->M a b=true
def Phase (M0 M:Tb)(m:Nat)(D:Nat->Nat->Prop):Prop:=∀a b,M a b=true↔M0 a b=true\/(D a b/\M0 a m=true/\M0 m b=true)
theorem Phase.start (M:Tb)(m:Nat):Phase M M m fun _ _=>False:=fun a b=>by simp
theorem Phase.row {M0 M:Tb}{m:Nat}{D:Nat->Nat->Prop}(P:Phase M0 M m D)(a:Nat):M a m=true↔M0 a m=true:=by
 rw[P]
 exact⟨fun h=>h.elim id fun h=>h.2.1,.inl⟩
theorem Phase.col {M0 M:Tb}{m:Nat}{D:Nat->Nat->Prop}(P:Phase M0 M m D)(b:Nat):M m b=true↔M0 m b=true:=by
 rw[P]
 exact⟨fun h=>h.elim id fun h=>h.2.2,.inl⟩
theorem Phase.step {M0 M:Tb}{m:Nat}{D:Nat->Nat->Prop}(P:Phase M0 M m D)(x y:Nat) :
  Phase M0 (if M x m=true/\M m y=true then M.set x y else M) m (fun a b=>D a b\/(a=x/\b=y)):=fun a b=>by
 have r:=P.row x
 have c:=P.col y
 by_cases h:M x m=true/\M m y=true
 ·rw[if_pos h]
  unfold Tb.set
  by_cases e:a=x/\b=y
  ·rw[if_pos e]
   obtain⟨rfl,rfl⟩:=e
   simp only[true_iff]
   exact .inr ⟨.inr (by simp),r.mp h.1,c.mp h.2⟩
  ·rw[if_neg e,P]
   constructor
   ·rintro (q | ⟨d,q⟩)
    ·exact .inl q
    ·exact .inr ⟨.inl d,q⟩
   ·rintro (q | ⟨d |d,q⟩)
    ·exact .inl q
    ·exact .inr ⟨d,q⟩
    ·exact absurd d e
 ·rw[if_neg h,P]
  constructor
  ·rintro (q | ⟨d,q⟩)
   ·exact .inl q
   ·exact .inr ⟨.inl d,q⟩
  ·rintro (q | ⟨d | ⟨rfl,rfl⟩,q1,q2⟩)
   ·exact .inl q
   ·exact .inr ⟨d,q1,q2⟩
   ·exact absurd ⟨r.mpr q1,c.mpr q2⟩ h
theorem Phase.done {M0 M:Tb}{m n:Nat}{D:Nat->Nat->Prop}(P:Phase M0 M m D)(hD:∀a b,a < n->b < n->D a b)(hM:∀a b,M0 a b=true->a < n/\b < n)(T:Dp M0 m) :
  Dp M (m + 1)/\∀a b,M a b=true->a < n/\b < n:=by
 have hM':∀a b,M a b=true->a < n/\b < n:=fun a b h=>by
  rcases (P a b).mp h with q | ⟨_,q1,q2⟩
  ·exact hM a b q
  ·exact⟨(hM _ _ q1).1,(hM _ _ q2).2⟩
 have put:∀a b,M0 a m=true->M0 m b=true->M a b=true:=fun a b h1 h2=>(P a b).mpr (.inr ⟨hD a b (hM _ _ h1).1 (hM _ _ h2).2,h1,h2⟩)
 refine⟨fun k a b hk h1 h2=>?_,hM'⟩
 rcases Nat.lt_or_ge k m with c |c
 ·rcases (P a k).mp h1 with q1 | ⟨_,q1,q1'⟩
  ·rcases (P k b).mp h2 with q2 | ⟨_,q2,q2'⟩
   ·exact (P a b).mpr (.inl (T k a b c q1 q2))
   ·exact put a b (T k a m c q1 q2) q2'
  ·rcases (P k b).mp h2 with q2 | ⟨_,q2,q2'⟩
   ·exact put a b q1 (T k m b c q1' q2)
   ·exact put a b q1 q2'
 ·have e:k=m:=by omega
  subst e
  exact put a b ((P.row a).mp h1) ((P.col b).mp h2)
structure Tab (n:Nat)(ps:List Pr)(M:Tb):Prop where
 inn:∀a b,M a b=true->a < n/\b < n
 sub:∀a b:Nat,((a:Int),(b:Int))∈ps->M a b=true
 sup:∀a b:Nat,M a b=true->Tr (Mem ps) a b
theorem Tab.phase {n:Nat}{ps:List Pr}{M0 M:Tb}{m:Nat}{D:Nat->Nat->Prop}(T:Tab n ps M0)(P:Phase M0 M m D):Tab n ps M:=
 ⟨fun a b h=>by
  rcases (P a b).mp h with q | ⟨_,q1,q2⟩
  ·exact T.inn a b q
  ·exact⟨(T.inn _ _ q1).1,(T.inn _ _ q2).2⟩,
  fun a b h=>(P a b).mpr (.inl (T.sub a b h)),
  fun a b h=>by
  rcases (P a b).mp h with q | ⟨_,q1,q2⟩
  ·exact T.sup a b q
  ·exact (T.sup _ _ q1).trans (T.sup _ _ q2)⟩
theorem Tab.all {n:Nat}{ps:List Pr}{M:Tb}(w:Wn n ps)(T:Tab n ps M)(H:Dp M n)(a b:Nat):M a b=true↔Tr (Mem ps) a b:=by
 refine⟨T.sup a b,fun h=>?_⟩
 have key:∀{x y:Int},Tr (Mem ps) x y->M x.toNat y.toNat=true:=fun {x y} h=>by
  induction h with
  | @one x y r=>
   have:=w _ r
   refine T.sub _ _ ?_
   have e1:((x.toNat:Nat):Int)=x:=by simp only at this;omega
   have e2:((y.toNat:Nat):Int)=y:=by simp only at this;omega
   rw[e1,e2];exact r
  | @more x y z r _ ih=>
   have:=w _ r
   have e1:((x.toNat:Nat):Int)=x:=by simp only at this;omega
   have e2:((y.toNat:Nat):Int)=y:=by simp only at this;omega
   have q:M x.toNat y.toNat=true:=T.sub _ _ (by rw[e1,e2];exact r)
   exact H y.toNat _ _ (T.inn _ _ q).2 q ih
 have:=key h
 simpa using this
end OM
namespace L2.ST
open PySem PySem.SetTable PySem.W PyProof.Rows
section
variable {prog:Program}{w:World}{A:Around}{E:Value->Shared->Prop}{s:Shared}
theorem FQ {ps:List Pr}(hs:∀p,p∈ps->Sm p){ix:Array Nat}(P:L2.SO.Pm ps.length ix)(U:L2.SO.Up (rg ps) ix ps.length):OM.uL (ix.toList.map fun i=>ps.getD i (0,0)):=by
 refine pairwise_map.mpr (pairwise_iff_getElem.mpr fun i j hi hj hij=>?_)
 have hi':i < ix.size:=by simpa using hi
 have hj':j < ix.size:=by simpa using hj
 have q:=U i j hij (by rw[<-P.sz];exact hj')
 unfold L2.SO.Kp rg at q
 have ei:ix.getD i 0=ix.toList[i]:=by simp[Array.getD,hi']
 have ej:ix.getD j 0=ix.toList[j]:=by simp[Array.getD,hj']
 rw[ei,ej] at q
 have ai:ix.toList[i] < ps.length:=P.lt _ (by simp)
 have aj:ix.toList[j] < ps.length:=P.lt _ (by simp)
 have bi:Sm (ps.getD ix.toList[i] (0,0)):=by rw[getD_eq_getElem?_getD,getElem?_eq_getElem ai];exact hs _ (getElem_mem ai)
 have bj:Sm (ps.getD ix.toList[j] (0,0)):=by rw[getD_eq_getElem?_getD,getElem?_eq_getElem aj];exact hs _ (getElem_mem aj)
 exact (yI bi bj).mp q
theorem FN {n:Nat}{ix:Array Nat}(P:L2.SO.Pm n ix){k:Nat}(hk:k < n):k∈ix.toList:=by
 refine Classical.byContradiction fun hn=>?_
 have:=bW (l:=k :: ix.toList) (m:=List.range n) (nodup_cons.mpr ⟨hn,P.nd⟩) fun x hx=>by
  rcases mem_cons.mp hx with e |e
  ·rw[e];exact mem_range.mpr hk
  ·exact mem_range.mpr (P.lt x (by simpa using e))
 simp[P.sz] at this
 omega
theorem Hr {h:Heap}{vs:List Value}{ps:List Pr}(hps:dr prog w h vs ps){ix:Array Nat}(P:L2.SO.Pm vs.length ix) :
  dr prog w h (ix.toList.map fun i=>vs.getD i Value.none) (ix.toList.map fun i=>ps.getD i (0,0)):=by
 refine⟨by simp,fun i v p h1 h2=>?_⟩
 rw[getElem?_map] at h1 h2
 cases e:ix.toList[i]? with
 |none=>rw[e] at h1;cases h1
 |some k=>
  rw[e] at h1 h2
  have hk:k < vs.length:=P.lt k (by simpa using mem_of_getElem? e)
  have hk':k < ps.length:=by rw[<-hps.1];exact hk
  simp[hk,hk'] at h1 h2
  exact hps.2 k v p (by rw[getElem?_eq_getElem hk,h1]) (by rw[getElem?_eq_getElem hk',h2])
theorem sL {v:Value}{vs:List Value}{ps:List Pr}{Q:Value->Shared->Prop}(hps:dr prog w s.heap vs ps)(nd:ps.Nodup)(h64:vs.length < 64)
  (hcol:∀(Q':List Value->Shared->Prop),(∀h' tk,(∀b o,s.heap.get? b=some o->h'.get? b=some o)->Q' vs {s with heap:=h',toks:=tk})->wpAny (model prog w) A.in1 (collect v) Q' (fun e s'=>E e s') s)
  (h:∀(h1 h':Heap) (tk:Nat) (D:Addr) (out:List Value) (qs:List Pr) (c:Nat),(∀b o,s.heap.get? b=some o->h1.get? b=some o)->D=h1.objs.size->(∀b o,h1.get? b=some o->h'.get? b=some o)->h'.get? D=some (seqObj "list" out.toArray c)->dr prog w h' out qs->(∀u,u∈out->u∈vs)->OM.uL qs->(∀p,p∈qs↔p∈ps)->
   Q (.ref D) {s with heap:=h',toks:=tk}):wpAny (model prog w) A (call (.builtin "sorted") [v]) Q E s:=by
 have hsm:∀p,p∈ps->Sm p:=fun p hp=>by
  obtain⟨i,hi,e⟩:=mem_iff_getElem.mp hp
  have hi':i < vs.length:=by rw[hps.1];exact hi
  obtain⟨_,_,_,hs⟩:=hps.2 i vs[i] p (getElem?_eq_getElem hi') (by rw[getElem?_eq_getElem hi,e])
  exact hs
 (refine Calls.call_function_entry kind_sorted plain_sorted entry_sorted (args_sorted1 _) ?_)
 unfold Builtin.«sorted»
 refine wpAny_bind (m:=checkCount "sorted" 1 1 ([v]:List Value).length) (wpAny_pure ?_)
 refine wpAny_bind (hcol _ fun h1 tk1 k1=>?_)
 have hz:vs.length<=sizeLine:=by rw[sizeLine_eq];omega
 refine wpAny_bind (wpAny_newList ?_ hz)
 show wpAny _ _ _ _ _ {s with heap:=h1.push (seqObj "list" vs.toArray 0),toks:=tk1}
 have hoL:(h1.push (seqObj "list" vs.toArray 0)).get? h1.objs.size=some (seqObj "list" vs.toArray 0):=Heap.get?_push_size _ rfl
 have kp:∀b o,s.heap.get? b=some o->(h1.push (seqObj "list" vs.toArray 0)).get? b=some o:=fun b o e=>Heap.get?_push_of_some _ (k1 b o e)
 have hp1:dr prog w (h1.push (seqObj "list" vs.toArray 0)) vs ps:=⟨hps.1,fun i v p a b=>by
  obtain⟨c,e,⟨o,it,n,ho,r⟩,hs⟩:=hps.2 i v p a b
  exact⟨c,e,⟨o,it,n,kp _ _ ho,r⟩,hs⟩⟩
 have hne:∀b o,s.heap.get? b=some o->b≠h1.objs.size:=fun b o e=>Nat.ne_of_lt (Heap.lt_size (k1 b o e))
 refine wpAny_bind (wpAny_holding (wpAny_call_entry slot_list_sort ⟨_,hoL,rfl⟩ entry_list_sort ?_ (args_list_sort _)))
 refine wt (s:={s with heap:=h1.push (seqObj "list" vs.toArray 0),toks:=tk1}) hoL hp1 nd h64 fun h' c ix P U hk ho=>?_
 refine⟨_,rfl,wpAny_pure ⟨_,rfl,?_⟩⟩
 have kk:∀b o,s.heap.get? b=some o->h'.get? b=some o:=fun b o e=>hk b o (hne b o e) (kp b o e)
 have P':L2.SO.Pm ps.length ix:=by rw[<-hps.1];exact P
 have k2:∀b o,h1.get? b=some o->h'.get? b=some o:=fun b o e=>hk b o (Nat.ne_of_lt (Heap.lt_size e)) (Heap.get?_push_of_some _ e)
 refine h h1 h' tk1 h1.objs.size _ (ix.toList.map fun i=>ps.getD i (0,0)) c k1 rfl k2 ho (Hr ⟨hps.1,fun i v p a b=>?_⟩ P) (fun u hu=>?_) (FQ hsm P' (by rw[<-hps.1];exact U)) fun p=>⟨fun hp=>?_,fun hp=>?_⟩
 ·obtain⟨c,e,⟨o,it,n,ho,r⟩,hs⟩:=hps.2 i v p a b
  exact⟨c,e,⟨o,it,n,kk _ _ ho,r⟩,hs⟩
 ·obtain⟨i,hi,rfl⟩:=mem_map.mp hu
  have:i < vs.length:=P.lt i (by simpa using hi)
  rw[getD_eq_getElem?_getD,getElem?_eq_getElem this]
  exact getElem_mem this
 ·obtain⟨i,hi,rfl⟩:=mem_map.mp hp
  have:i < ps.length:=P'.lt i (by simpa using hi)
  rw[getD_eq_getElem?_getD,getElem?_eq_getElem this]
  exact getElem_mem this
 ·obtain⟨i,hi,e⟩:=mem_iff_getElem.mp hp
  refine mem_map.mpr ⟨i,FN P' hi,?_⟩
  rw[getD_eq_getElem?_getD,getElem?_eq_getElem hi,e];rfl
end
end L2.ST
namespace L2
open PySem PySem.Spec PyProof.Rows
abbrev Pr:=Int×Int
abbrev Sm:=L2.ST.Sm
section
variable {X:Cx}{pins:List (Addr×Obj)}{σ:St}{H H':Hp}{s:Shared}
def iU (H H':Hp):Prop:=(∀b xs,H b=some (.tup xs)->H' b=some (.tup xs))/\∀b o u,H b=some (.bp o u)->H' b=some (.bp o u)
theorem iU.trans {H H1 H2:Hp}(a:iU H H1)(b:iU H1 H2):iU H H2:=⟨fun c xs h=>b.1 c xs (a.1 c xs h),fun c o u h=>b.2 c o u (a.2 c o u h)⟩
theorem ax.grow {H H':Hp}(e:ax H H'):iU H H':=⟨fun b xs h=>e b _ h,fun b o u h=>e b _ h⟩
theorem iU.new {H:Hp}{l:Addr}{o:HO}(h:H l=none):iU H (upd H l o):=⟨fun b xs e=>by rw[aE (aO e h)];exact e,fun b o' u e=>by rw[aE (aO e h)];exact e⟩
theorem ax.new {H:Hp}{l:Addr}{o:HO}(h:H l=none):ax H (upd H l o):=fun b u e=>by rw[aE (aO e h)];exact e
theorem gJ.grow {K:Frag}{a:Addr}{xs:List V}(h:gJ K H a xs)(g:iU H H'):gJ K H' a xs:=by
 rcases h with (h | ⟨o,h⟩) |h
 ·exact .inl (.inl (g.1 _ _ h))
 ·exact .inl (.inr ⟨o,g.2 _ _ _ h⟩)
 ·exact .inr h
theorem iU.list {a:Addr}{ys:List V}{o:HO}(h:H a=some (.lst ys)):iU H (upd H a o):=
 ⟨fun b xs e=>by rw[aE (Et e h (by intro z;cases z))];exact e,fun b o' u e=>by rw[aE (Et e h (by intro z;cases z))];exact e⟩
theorem rm {α β:Type}{f:α->β}:∀{l:List α} {m:List β},m.Perm (l.map f)->∃l':List α,m=l'.map f/\l'.Perm l:=by
 intro l m h
 generalize hk:l.map f=k at h
 induction h generalizing l with
 |nil=>
  have:l= []:=by simpa using hk
  exact⟨[],rfl,by rw[this]⟩
 | @cons x m1 m2 _ ih=>
  cases l with
  |nil=>cases hk
  |cons a l=>
   simp only[map_cons,List.cons.injEq] at hk
   obtain⟨l',e,p⟩:=ih hk.2
   exact⟨a :: l',by rw[map_cons,hk.1,e],p.cons a⟩
 |swap x y m1=>
  cases l with
  |nil=>cases hk
  |cons a l=>
   cases l with
   |nil=>simp at hk
   |cons b l=>
    simp only[map_cons,List.cons.injEq] at hk
    exact⟨b :: a :: l,by rw[map_cons,map_cons,hk.1,hk.2.1,hk.2.2],List.Perm.swap ..⟩
 |trans _ _ ih1 ih2=>
  obtain⟨l1,e1,p1⟩:=ih2 hk
  obtain⟨l2,e2,p2⟩:=ih1 e1.symm
  exact⟨l2,e2,p2.trans p1⟩
def aW (K:Frag)(H:Hp):List V->List Pr->Prop:=Paired fun v p=>∃a,v=.ref a/\gJ K H a [.int p.1,.int p.2]
theorem aW.grow {K:Frag}{vs:List V}{ps:List Pr}(h:aW K H vs ps)(g:iU H H'):aW K H' vs ps:=Paired.mapP h fun v p ⟨a,e,q⟩=>⟨a,e,q.grow g⟩
theorem Paired.getP {α β:Type}{F:α->β->Prop}:∀{l:List α} {m:List β} {i:Nat} {x:α},Paired F l m->l[i]? =some x->∃y,m[i]? =some y/\F x y
 |_,_,_,_,.nil,e=>by simp at e
 |_,_,0,_,.cons r _,e=>by simp at e;subst e;exact⟨_,rfl,r⟩
 |_,_,i + 1,x,.cons _ t,e=>by
  obtain⟨u,h1,h2⟩:=Paired.getP (i:=i) (x:=x) t (by simpa using e)
  exact⟨u,by simpa using h1,h2⟩
theorem Paired.getQ {α β:Type}{F:α->β->Prop}:∀{l:List α} {m:List β} {i:Nat} {y:β},Paired F l m->m[i]? =some y->∃x,l[i]? =some x/\F x y
 |_,_,_,_,.nil,e=>by simp at e
 |_,_,0,_,.cons r _,e=>by simp at e;subst e;exact⟨_,rfl,r⟩
 |_,_,i + 1,x,.cons _ t,e=>by
  obtain⟨u,h1,h2⟩:=Paired.getQ (i:=i) (y:=x) t (by simpa using e)
  exact⟨u,by simpa using h1,h2⟩
theorem sQ (I:Inv X pins σ H s){a:Addr}{p:Pr}(h:gJ X.K H a [.int p.1,.int p.2]):L2.ST.b4 X.prog X.w s.heap p a:=by
 obtain⟨its,r,⟨o,ho,hc,n,hd⟩,_⟩:=I.tuple h
 cases r with
 |cons r1 r=>
  cases r with
  |cons r2 r=>
   cases r
   obtain⟨t1,rfl⟩:=r1
   obtain⟨t2,rfl⟩:=r2
   exact⟨o,_,n,ho,hc,hd,.cons (intKind_is ..) (.cons (intKind_is ..) .nil)⟩
theorem pairs_at (I:Inv X pins σ H s){vs:List V}{us:List Value}{ps:List Pr}(hv:Vals vs us)(h:aW X.K H vs ps)(hs:∀p,p∈ps->Sm p):L2.ST.dr X.prog X.w s.heap us ps:=by
 refine⟨by rw[<-hv.length];exact Paired.length h,fun i u p e1 e2=>?_⟩
 obtain⟨v,ev,a,rfl,q⟩:=Paired.getQ h e2
 obtain⟨u',eu,ru⟩:=hv.get ev
 rw[e1] at eu;cases eu
 cases ru
 exact⟨a,rfl,sQ I q,hs p (mem_of_getElem? e2)⟩
theorem qm (I:Inv X pins σ H s){vs:List V}{us:List Value}{ps:List Pr}(hv:Vals vs us)(h:aW X.K H vs ps){h':Heap}(k:∀b o,s.heap.get? b=some o->h'.get? b=some o):∀{out:List Value} {qs:List Pr},
  (∀u,u∈out->u∈us)->L2.ST.dr X.prog X.w h' out qs->∃ws,Vals ws out/\aW X.K H ws qs
 | [],[],_,_=>⟨[],.nil,.nil⟩
 | [],_ :: _,_,hp=>by have:=hp.1;simp at this
 |_ :: _,[],_,hp=>by have:=hp.1;simp at this
 |u :: out,q :: qs,hm,hp=>by
  obtain⟨ws,a1,a2⟩:=qm I hv h k (out:=out) (qs:=qs) (fun x hx=>hm x (mem_cons_of_mem _ hx)) ⟨by have:=hp.1;simpa using this,fun i v p e1 e2=>hp.2 (i + 1) v p (by simpa using e1) (by simpa using e2)⟩
  obtain⟨i,hi,e⟩:=mem_iff_getElem.mp (hm u (mem_cons_self ..))
  have hi':i < vs.length:=by rw[hv.length];exact hi
  obtain⟨u',eu,ru⟩:=hv.get (getElem?_eq_getElem hi')
  rw[getElem?_eq_getElem hi,e] at eu
  cases eu
  obtain⟨p,ep,a,ea,qa⟩:=Paired.getP h (getElem?_eq_getElem hi')
  rw[ea] at ru
  cases ru
  obtain⟨b,eb,hb,_⟩:=hp.2 0 (.ref a) q rfl rfl
  cases eb
  have pa:L2.ST.b4 X.prog X.w h' p a:=by
   obtain⟨o,it,n,ho,r⟩:=sQ I qa
   exact⟨o,it,n,k _ _ ho,r⟩
  have:p=q:=L2.ST.b4.inj pa hb
  subst this
  exact⟨.ref a :: ws,.cons rfl a1,.cons ⟨a,rfl,qa⟩ a2⟩
def yd (K:Frag):List V->Hp->VK->Prop:=fun xs H Q=>∃a vs ps,xs= [.ref a]/\hX K H a vs/\aW K H vs ps/\(∀p,p∈ps->Sm p)/\ps.Nodup/\ps.length < 64/\
 ∀l ws qs,H l=none->aW K H ws qs->OM.uL qs->(∀p,p∈qs↔p∈ps)->Q (.ref l) (upd H l (.lst ws))
theorem qc (I:Inv X pins σ H s){vs:List V}{us:List Value}{ps:List Pr}(hv:Vals vs us)(hp:aW X.K H vs ps)(hlen:ps.length < 64){Q:VK}
  (q:∀l ws qs,H l=none->aW X.K H ws qs->OM.uL qs->(∀p,p∈qs↔p∈ps)->Q (.ref l) (upd H l (.lst ws)))
  {h1 h':Heap} {tk:Nat} {D:Addr} {out:List Value} {qs:List Pr} {c:Nat} (k1:∀b o,s.heap.get? b=some o->h1.get? b=some o) (eD:D=h1.objs.size) (k2:∀b o,h1.get? b=some o->h'.get? b=some o)
  (ho:h'.get? D=some (seqObj "list" out.toArray c)) (hpq:L2.ST.dr X.prog X.w h' out qs) (hm:∀u,u∈out->u∈us) (hr:OM.uL qs) (hmem:∀p,p∈qs↔p∈ps):EP X pins σ Q (.ref D) {s with heap:=h',toks:=tk}:=by
 obtain⟨ws,r1,r2⟩:=qm I hv hp (fun b o e=>k2 b o (k1 b o e)) hm hpq
 have I1:Inv X pins σ H {s with heap:=h1,toks:=tk}:=I.kept k1
 have hf:H D=none:=by rw[eD];exact I1.hok.fresh (Nat.le_refl _)
 have hz:ws.length<=sizeLine:=by
  have e1:=r1.length
  have e2:out.length=qs.length:=hpq.1
  have e3:=OM.jM (OM.eY hr) fun x hx=>(hmem x).mp hx
  rw[sizeLine_eq];omega
 have I2:Inv X pins σ (upd H D (.lst ws)) {s with heap:=h',toks:=tk}:=I1.laid (t':=tk) k2 (by rw[eD];exact Nat.le_refl _) (show cL X.prog X.w _ h' _ (.lst ws) from⟨hz,out,c,r1,ho⟩)
 exact⟨.ref D,_,I2,rfl,q D ws qs hf r2 hr hmem⟩
theorem vR:cY X (.builtin "sorted") (yd X.K):=by
 intro pins s σ H xs us Q I r h
 obtain⟨a,vs,ps,rfl,hq,hp,hs,nd,hl,q⟩:=h
 obtain⟨u,rfl,rx⟩:=vals1 r
 cases rx
 obtain⟨its,rv,pl,hz⟩:=I.list hq
 have hpa:=pairs_at I rv hp hs
 have h64:its.length < 64:=by rw[hpa.1];exact hl
 refine L2.ST.sL (v:=.ref a) hpa nd h64 (fun Q' hQ'=>collect_list pl.isList ?_ (by rw[sizeLine_eq];omega)) fun h1 h' tk D out qs c k1 eD k2 ho hpq hm hr hmem=>?_
 ·exact hQ' _ s.toks fun b o e=>by
   rw[Heap.get?_update_ne _ _ _ _ (Nat.ne_of_lt (Heap.lt_size e)),Heap.get?_push_ne _ _ _ (Nat.ne_of_lt (Heap.lt_size e))];exact e
 ·exact qc I rv hp hl q k1 eD k2 ho hpq hm hr hmem
abbrev vq (qs:List (Addr×Pr)):List V:=qs.map fun q=>V.ref q.1
abbrev pq (qs:List (Addr×Pr)):List Pr:=qs.map (·.2)
def Bk (prog:Program)(w:World)(S:Addr)(qs:List (Addr×Pr))(h:Heap):Prop:=∃o ep t,h.get? S=some o/\o.ExactSet/\o.data=.set (qs.map fun q=>(L2.ST.ym prog w q.2,Value.ref q.1)).toArray ep t/\L2.ST.Tab t (qs.map fun q=>L2.ST.ym prog w q.2)/\t.led=L2.ST.kO w
def xH (prog:Program)(w:World)(S:Addr)(qs:List (Addr×Pr)):HO:=.ext (Bk prog w S qs)
def FJ (P:Program)(w:World)(K:Frag):List V->Hp->VK->Prop:=fun xs H Q=>∃a vs ps,xs= [.ref a]/\(hX K H a vs\/gJ K H a vs)/\aW K H vs ps/\(∀p,p∈ps->Sm p)/\
 ∀S qs,H S=none->aW K H (vq qs) (pq qs)->(pq qs).Nodup->(∀p,p∈pq qs↔p∈ps)->Q (.ref S) (upd H S (xH P w S qs))
theorem v8 (hc:X.calm=true)(hu:X.A.units + 64 < cLine):cY X (.type "set") (FJ X.prog X.w X.K):=by
 intro pins s σ H xs us Q I r h
 obtain⟨a,vs,ps,rfl,hq,hp,hs,q⟩:=h
 obtain⟨u,rfl,rx⟩:=vals1 r
 cases rx
 have hh:=I.ok.hd hc
 have core:∀{its:List Value} {T:String} {itO:Obj} {St:Addr->Nat->Heap->Prop},Vals vs its->L2.ST.Src X.prog X.w s.heap a its T itO St->wpAny (model X.prog X.w) X.A (call (.type "set") [.ref a]) (EP X pins σ Q) X.xe s:=fun {its T itO St} rv src=>by
  refine L2.ST.pI src hh hu (pairs_at I rv hp hs) fun h' tk F k=>?_
  obtain⟨qs,P1,P2,P3⟩:=F
  have hlen:its.length=vs.length:=rv.length.symm
  have back:∀qv:Addr×Pr,qv∈qs->∃b,b=qv.1/\gJ X.K H b [.int qv.2.1,.int qv.2.2]:=fun qv hqv=>by
   obtain⟨i,hi,e⟩:=mem_iff_getElem.mp (mem_of_mem_take (P2 qv hqv).1)
   have hi':i < vs.length:=by rw[<-hlen];exact hi
   obtain⟨u',eu,ru⟩:=rv.get (getElem?_eq_getElem hi')
   rw[getElem?_eq_getElem hi,e] at eu
   cases eu
   obtain⟨p,ep,b,eb,qb⟩:=Paired.getP hp (getElem?_eq_getElem hi')
   rw[eb] at ru
   cases ru
   have pa:L2.ST.b4 X.prog X.w h' p qv.1:=by
    obtain⟨o,it,n,ho,r⟩:=sQ I qb
    exact⟨o,it,n,k _ _ ho,r⟩
   have:p=qv.2:=L2.ST.b4.inj pa (P1.at' qv hqv).1
   subst this
   exact⟨_,rfl,qb⟩
  have hpv:∀{l:List (Addr×Pr)},(∀x,x∈l->x∈qs)->aW X.K H (vq l) (pq l):=fun {l}=>by
   induction l with
   |nil=>intro _;exact .nil
   |cons y l ih=>
    intro hl
    obtain⟨b,eb,qb⟩:=back y (hl y (mem_cons_self ..))
    subst eb
    exact .cons ⟨_,rfl,qb⟩ (ih fun x hx=>hl x (mem_cons_of_mem _ hx))
  have hmem:∀p,p∈pq qs↔p∈ps:=fun p=>by
   have hpl:ps.length=its.length:=by rw[hlen];exact (Paired.length hp).symm
   constructor
   ·intro hx
    obtain⟨qv,hqv,rfl⟩:=mem_map.mp hx
    exact mem_of_mem_take (P2 qv hqv).2
   ·intro hx
    exact P3 p (by rw[<-hpl,take_of_length_le (Nat.le_refl _)];exact hx)
  have hf:H s.heap.objs.size=none:=I.hok.fresh (Nat.le_refl _)
  obtain⟨o,ep,t,ho,r1⟩:=P1.ex
  have new:cL X.prog X.w (upd H s.heap.objs.size (xH X.prog X.w s.heap.objs.size qs)) h' s.heap.objs.size (xH X.prog X.w s.heap.objs.size qs):=
   ⟨⟨o,ep,t,ho,r1⟩,⟨o,ho⟩,fun h1 h2 ⟨o1,ep1,t1,g1,g2⟩ kk=>⟨o1,ep1,t1,kk _ g1,g2⟩⟩
  exact⟨.ref _,_,I.laid (t':=tk) k (Nat.le_refl _) new,rfl,q _ qs hf (hpv fun x hx=>hx) P1.nd hmem⟩
 rcases hq with hq |hq
 ·obtain⟨its,rv,pl,hz⟩:=I.list hq
  exact core rv (L2.ST.Src.list pl.isList)
 ·obtain⟨its,rv,pl,hz⟩:=I.tuple hq
  exact core rv (L2.ST.Src.tuple pl)
def wo (P:Program)(w:World)(K:Frag):List V->Hp->VK->Prop:=fun xs H Q=>∃S qs,xs= [.ref S]/\H S=some (xH P w S qs)/\aW K H (vq qs) (pq qs)/\(∀p,p∈pq qs->Sm p)/\(pq qs).Nodup/\qs.length < 64/\
 ∀l ws rs,H l=none->aW K H ws rs->OM.uL rs->(∀p,p∈rs↔p∈pq qs)->Q (.ref l) (upd H l (.lst ws))
theorem tw (hc:X.calm=true):cY X (.builtin "sorted") (wo X.prog X.w X.K):=by
 intro pins s σ H xs us Q I r h
 obtain⟨S,qs,rfl,hS,hp,hs,nd,hl,q⟩:=h
 obtain⟨u,rfl,rx⟩:=vals1 r
 cases rx
 have hh:=I.ok.hd hc
 obtain⟨⟨o,ep,t,ho,hex,hd,T,hled⟩,_,_⟩:Bk X.prog X.w S qs s.heap/\_:=I.hok S _ hS
 have T':L2.ST.Tab t ((qs.map fun q=>(L2.ST.ym X.prog X.w q.2,Value.ref q.1)).toArray.toList.map (·.1)):=by
  rw[toList_toArray,map_map];exact T
 have htp:=L2.ST.rW X.w S ep (qs.map fun q=>(L2.ST.ym X.prog X.w q.2,Value.ref q.1)).toArray
 have hmem:∀x,x∈(L2.ST.told X.w S ep (qs.map fun q=>(L2.ST.ym X.prog X.w q.2,Value.ref q.1)).toArray).toList->∃q,q∈qs/\x=(L2.ST.ym X.prog X.w q.2,Value.ref q.1):=fun x hx=>by
  have:=htp.mem_iff.mp hx
  simp only[toList_toArray] at this
  obtain⟨q,hq,e⟩:=mem_map.mp this
  exact⟨q,hq,e.symm⟩
 obtain⟨q2,e2,p2⟩:∃q2:List (Addr×Pr),(L2.ST.told X.w S ep (qs.map fun q=>(L2.ST.ym X.prog X.w q.2,Value.ref q.1)).toArray).toList=q2.map (fun q=>(L2.ST.ym X.prog X.w q.2,Value.ref q.1))/\q2.Perm qs:=by
  have:=htp
  simp only[toList_toArray] at this
  exact rm this
 have hp2:aW X.K H (vq q2) (pq q2):=by
  have key:∀{l:List (Addr×Pr)},(∀x,x∈l->x∈qs)->aW X.K H (vq l) (pq l):=fun {l}=>by
   induction l with
   |nil=>intro _;exact .nil
   |cons y l ih=>
    intro hl
    obtain⟨i,hi,e⟩:=mem_iff_getElem.mp (hl y (mem_cons_self ..))
    obtain⟨p,ep',a,ea,qa⟩:=Paired.getP (l:=vq qs) (m:=pq qs) (i:=i) (x:=.ref y.1) hp (by simp[hi,e])
    have:p=y.2:=by simp[hi,e] at ep';exact ep'.symm
    subst this
    exact .cons ⟨a,ea,qa⟩ (ih fun x hx=>hl x (mem_cons_of_mem _ hx))
  exact key fun x hx=>p2.mem_iff.mp hx
 have hv2:Vals (vq q2) (q2.map fun q=>Value.ref q.1):=by
  induction q2 with
  |nil=>exact .nil
  |cons y l ih=>exact .cons rfl (by
    clear ih e2 p2 hp2
    induction l with
    |nil=>exact .nil
    |cons z l ih2=>exact .cons rfl ih2)
 have hm2:∀p,p∈pq q2↔p∈pq qs:=fun p=>(p2.map (·.2)).mem_iff
 have hpa:=pairs_at I hv2 hp2 fun p hpp=>hs p ((hm2 p).mp hpp)
 have hl2:q2.length < 64:=by rw[p2.length_eq];exact hl
 refine L2.ST.sL (v:=.ref S) hpa ((p2.map (·.2)).nodup_iff.mpr nd) (by simpa using hl2) (fun Q' hQ'=>L2.ST.va (by simpa using hh) ho hd hex.1 T' hled (by simp;omega) fun h' tk vs ev k=>?_) fun h1 h' tk D out qs' c k1 eD k2 ho' hpq hm hr hmem'=>?_
 ·rw[ev,e2]
  rw[map_map]
  exact hQ' h' tk k
 ·exact qc I hv2 hp2 (by simpa using hl2) (fun l ws rs a1 a2 a3 a4=>q l ws rs a1 a2 a3 fun p=>(a4 p).trans (hm2 p)) k1 eD k2 ho' hpq hm hr hmem'
end
def nY (cells:List (Str×Addr)):List (Str×NameKind)->List (Str×Addr)->List (Str×Addr)
 | [],cs=>cs
 | (n,k) :: r,cs=>nY cells r (if k == .free then (n,(cells.lookup n).getD 0) :: cs else cs)
theorem p7 {scope:Scope}{env:Env}(h:∀y∈scope.names,y.2=.free->∃c,env.cells.lookup y.1=some c):closureFor scope env=pure (nY env.cells scope.names []):=by
 unfold closureFor
 have key:∀(l:List (Str×NameKind)) (cs:List (Str×Addr)),(∀y∈l,y.2=.free->∃c,env.cells.lookup y.1=some c)->
   (forIn l cs (fun (x:Str×NameKind) (r:List (Str×Addr))=>if (x.2 == NameKind.free)=true then (do let a <-cellOf env x.1;pure (ForInStep.yield ((x.1,a) :: r)):Sem _) else pure (ForInStep.yield r)):Sem (List (Str×Addr)))=pure (nY env.cells l cs):=by
  intro l
  induction l with
  |nil=>intro cs _;rfl
  |cons y l ih=>
   intro cs hy
   obtain⟨n,k⟩:=y
   rw[List.forIn_cons]
   unfold nY
   by_cases hk:(k == NameKind.free)=true
   ·have hk':k=.free:=by simpa using hk
    obtain⟨c,hc⟩:=hy (n,k) (mem_cons_self ..) hk'
    have hce:cellOf env n=pure c:=by unfold cellOf;rw[hc]
    simp only[hk,if_true]
    have hc':env.cells.lookup n=some c:=hc
    rw[hce,hc']
    simp only[pure_bind,Option.getD_some]
    exact ih _ fun z hz=>hy z (mem_cons_of_mem _ hz)
   ·simp only[hk,if_false,Bool.false_eq_true]
    simp only[pure_bind]
    exact ih _ fun z hz=>hy z (mem_cons_of_mem _ hz)
 have:=key scope.names [] h
 simp only[bind_pure_comp] at this ⊢
 first
  |exact this
  | (rw[this];rfl)
  | (simpa using this)
theorem oy {cells:List (Str×Addr)}{x:Str}:∀{l:List (Str×NameKind)} {cs:List (Str×Addr)},((x,NameKind.free)∈l\/cs.lookup x=some ((cells.lookup x).getD 0))->(nY cells l cs).lookup x=some ((cells.lookup x).getD 0)
 | [],cs,h=>by
  rcases h with h |h
  ·cases h
  ·exact h
 | (n,k) :: r,cs,h=>by
  unfold nY
  refine oy ?_
  by_cases hk:(k == NameKind.free)=true
  ·rw[if_pos hk]
   by_cases hx:x=n
   ·subst hx;right;simp
   ·rcases h with h |h
    ·rcases mem_cons.mp h with e |e
     ·injection e with e1 _;exact absurd e1 hx
     ·exact .inl e
    ·right
     rw[lookup_cons,show (x == n)=false by simpa using hx]
     exact h
  ·rw[if_neg hk]
   rcases h with h |h
   ·rcases mem_cons.mp h with e |e
    ·injection e with _ e2;exact absurd (by rw[<-e2];rfl) hk
    ·exact .inl e
   ·exact .inr h
theorem n9 {cells:List (Str×Addr)}{x:Str}{c:Addr}:∀{l:List (Str×NameKind)} {cs:List (Str×Addr)},(nY cells l cs).lookup x=some c->((x,NameKind.free)∈l/\c=(cells.lookup x).getD 0)\/cs.lookup x=some c
 | [],cs,h=>.inr h
 | (n,k) :: r,cs,h=>by
  unfold nY at h
  rcases n9 h with⟨a,b⟩ |a
  ·exact .inl ⟨mem_cons_of_mem _ a,b⟩
  ·by_cases hk:(k == NameKind.free)=true
   ·rw[if_pos hk,lookup_cons] at a
    by_cases hx:x=n
    ·subst hx
     simp at a
     have:k=.free:=by simpa using hk
     subst this
     exact .inl ⟨mem_cons_self ..,a.symm⟩
    ·rw[show (x == n)=false by simpa using hx] at a
     exact .inr a
   ·rw[if_neg hk] at a
    exact .inr a
theorem oK {f:Str->NameKind->NameKind}{x:Str}:∀(l:List (Str×NameKind)),(l.map fun y=>(y.1,f y.1 y.2)).lookup x=(l.lookup x).map (f x)
 | []=>rfl
 | (n,k) :: l=>by
  rw[map_cons,lookup_cons,lookup_cons]
  by_cases hx:x=n
  ·subst hx;simp
  ·have hb:(x == n)=false:=by simpa using hx
   simp only[hb]
   exact oK l
theorem pZ (scope:Scope)(env:Env)(x:Str):(relabel scope env).names.lookup x=(scope.names.lookup x).map fun k=>if (k == .free && env.scope.kind == .function && env.kindOf x == some .cell) then .cell else k:=by
 have e:(relabel scope env).names=scope.names.map fun y=>(y.1,if (y.2 == .free && env.scope.kind == .function && env.kindOf y.1 == some .cell) then .cell else y.2):=by
  unfold relabel
  dsimp only
  refine map_congr_left fun y _=>?_
  obtain⟨n,k⟩:=y
  dsimp only
  split <;> rfl
 rw[e]
 exact oK (f:=fun n k=>if (k == .free && env.scope.kind == .function && env.kindOf n == some .cell) then .cell else k) scope.names
def jN (X:Cx)(NB:List Str)(scope:Scope)(C:Addr)(ex:List Addr)(s3:Shared)(H3:Hp)(pn:List (Addr×Obj)):Cx:=
 {X with N:=NB,s₀:=s3,H₀:=H3,env:=compEnvC scope (nY X.env.cells scope.names []) C X.env,outer:=X.stack,ex:=ex,fn:=fun _=>false,pn:=pn,xe:=fun _ _=>False}
def dH (own:Nat)(ixs:List Nat)(σ:St):St:=List.replicate own none ++ ixs.map fun i=>(σ[i]?).join
structure dz (X:Cx)(NB:List Str)(own:Nat)(ixs:List Nat)(scope:Scope):Prop where
 kind:scope.kind=.function
 nocell:∀y∈scope.names,y.2≠.cell
 names:∀y∈scope.names,scope.names.lookup y.1=some y.2
 frees:∀y∈scope.names,y.2=.free->X.env.kindOf y.1=some .cell\/X.env.kindOf y.1=some .free
 nd:NB.Nodup
 len:NB.length=own + ixs.length
 at':∀k,k < ixs.length->NB[own + k]? =X.N[ixs.getD k 0]?/\∀x,NB[own + k]? =some x->(x,NameKind.free)∈scope.names
section
variable {X:Cx}{NB:List Str}{own:Nat}{ixs:List Nat}{scope:Scope}{pins:List (Addr×Obj)}{σ:St}{H:Hp}{s:Shared}
theorem zq (S:dz X NB own ixs scope)(I:Inv X pins σ H s){fp:List Addr}(hfp:∀b∈fp,o5 X pins H b)(hob:∀b∈fp,∃o,s.heap.get? b=some o){h1:Heap}{tk:Nat}
  (hn:h1.Ns s.heap.objs.size (fun _=>none)) (hk:∀b o,s.heap.get? b=some o->h1.get? b=some o) :
  Inv (jN X NB scope s.heap.objs.size fp s H (X.pn ++ pins)) [] (dH own ixs σ) H {s with heap:=h1,toks:=tk}:=by
 have stk:=I.stack
 have frees:∀{x:Str},(x,NameKind.free)∈scope.names->∃c,X.env.cells.lookup x=some c:=fun {x} hx=>I.ok.has x (S.frees _ hx rfl)
 have clE:∀{x:Str} {c:Addr},(nY X.env.cells scope.names []).lookup x=some c->(x,NameKind.free)∈scope.names/\X.env.cells.lookup x=some c:=fun {x c} h=>by
  rcases n9 h with⟨a,b⟩ |a
  ·obtain⟨c',e⟩:=frees a
   rw[e] at b
   exact⟨a,by rw[e,b];rfl⟩
  ·simp at a
 have kindB:∀x,(jN X NB scope s.heap.objs.size fp s H (X.pn ++ pins)).env.kindOf x=(scope.names.lookup x).map fun k=>if (k == .free && X.env.scope.kind == .function && X.env.kindOf x == some .cell) then .cell else k:=fun x=>pZ scope X.env x
 have isFree:∀{x:Str},((jN X NB scope s.heap.objs.size fp s H (X.pn ++ pins)).env.kindOf x=some .cell\/(jN X NB scope s.heap.objs.size fp s H (X.pn ++ pins)).env.kindOf x=some .free)->(x,NameKind.free)∈scope.names:=fun {x} h=>by
  rw[kindB] at h
  cases e:scope.names.lookup x with
  |none=>rw[e] at h;simp at h
  |some k=>
   have hm:=PySem.mem_of_lookup e
   cases k with
   |free=>exact hm
   |cell=>exact absurd rfl (S.nocell _ hm)
   |_=>rw[e] at h;simp at h
 have neN:∀b o,s.heap.get? b=some o->b≠s.heap.objs.size:=fun b o e=>Nat.ne_of_lt (Heap.lt_size e)
 have cellN:∀{x:Str} {c:Addr},X.env.cells.lookup x=some c->c < s.heap.objs.size:=fun {x c} e=>by
  obtain⟨v,o,ho,_⟩:=I.cell x c e
  exact Heap.lt_size ho
 have ok:(jN X NB scope s.heap.objs.size fp s H (X.pn ++ pins)).Ok:=by
  refine⟨I.ok.mod,S.kind,I.ok.glob,I.ok.blt,Nat.le_refl _,fun x y c h1 h2=>I.ok.inj x y c (clE h1).2 (clE h2).2,fun x hx=>?_,fun x c h=>(by cases h),I.ok.hd,I.ok.frames,.inl rfl,fun b hb=>?_,I.bs,Nat.le_trans I.ok.bsz I.sz,fun b o e hb=>?_,fun b hb hs=>?_,stk,I.stkFree⟩
  ·have hm:=isFree hx
   exact⟨_,oy (.inl hm)⟩
  ·obtain⟨_,f1,f2,f3,f4,f5⟩:=hfp b hb
   refine⟨?_,fun x c h z=>f4 x c (clE h).2 z⟩
   obtain⟨o,ho⟩:=hob b hb
   exact neN b o ho
  ·obtain⟨_,f1,f2,f3,f4,f5⟩:=hfp b hb
   rcases f3 with f3 |f3
   ·exact I.ok.noex b o e f3
   ·exact absurd (Nat.lt_of_lt_of_le (Heap.lt_size e) (Nat.le_trans I.ok.bsz f3)) (Nat.lt_irrefl _)
  ·obtain⟨_,f1,f2,f3,f4,f5⟩:=hfp b hb
   rcases mem_cons.mp (I.stkSub b hs) with z |z
   ·exact f1 z
   ·exact f2 z
 refine⟨ok,rfl,I.bare,Un.kept hk,⟨_,hn,fun i x v h1' h2' h3'=>?_⟩,fun x c h=>?_,I.hok.fresh (Nat.le_refl _),fun x c h=>I.freeC x c (clE h).2,fun p hp=>?_,I.hok.kept hk,?_⟩
 ·
  have h1':NB[i]? =some x:=h1'
  have hown:own<=i:=by
   refine Classical.byContradiction fun hc=>?_
   have hlt:i < own:=Nat.lt_of_not_le hc
   unfold dH at h2'
   rw[getElem?_append_left (by simpa using hlt),getElem?_replicate,if_pos hlt] at h2'
   cases h2'
  obtain⟨k,rfl⟩:∃k,i=own + k:=⟨i - own,by omega⟩
  have hk':k < ixs.length:=by
   have:=(List.getElem?_eq_some_iff.mp h1').1
   rw[S.len] at this;omega
  obtain⟨e1,e2⟩:=S.at' k hk'
  have hm:=e2 x h1'
  unfold dH at h2'
  rw[getElem?_append_right (by simp),length_replicate,Nat.add_sub_cancel_left,getElem?_map,getElem?_eq_getElem hk'] at h2'
  simp only[Option.map_some,Option.some.injEq] at h2'
  have hix:ixs.getD k 0=ixs[k]:=by simp[hk']
  have hσ:σ[ixs[k]]? =some (some v):=by
   cases e:σ[ixs[k]]? with
   |none=>rw[e] at h2';cases h2'
   |some o=>rw[e] at h2';simp at h2';rw[h2']
  rw[e1,hix] at h1'
  have hkind:=S.frees _ hm rfl
  have hvis:zI X.env.scope x:=hkind.elim (fun z=>.inr (.inl z)) (fun z=>.inr (.inr z))
  obtain⟨m,hm',hl⟩:=I.loc
  obtain⟨u,r,look⟩:=hl _ x v h1' hσ hvis
  refine⟨u,r,.inr ⟨?_,?_⟩⟩
  ·rw[kindB]
   have hfr:scope.names.lookup x=some .free:=S.names _ hm
   rw[hfr]
   simp only[Option.map_some]
   split
   ·exact .inl rfl
   ·exact .inr rfl
  ·rcases look with⟨z,_⟩ | ⟨_,c,hc,hcell⟩
   ·rcases hkind with q |q
    ·rw[q] at z;cases z
    ·rw[q] at z;cases z
   ·refine⟨c,?_,?_⟩
    ·have:=oy (cells:=X.env.cells) (cs:=[]) (.inl hm)
     rw[hc] at this
     exact this
    ·obtain⟨o,ho,hd⟩:=hcell
     exact⟨o,hk _ _ ho,hd⟩
 ·obtain⟨v,o,ho,hd⟩:=I.cell x c (clE h).2
  exact⟨v,o,hk _ _ ho,hd⟩
 ·have hp':p∈X.pn ++ pins:=by
   rcases mem_append.mp hp with z |z
   ·exact z
   ·cases z
  obtain⟨e,n,ne,nf,d⟩:=I.pin p hp'
  refine⟨hk _ _ e,n,neN _ _ e,fun z=>?_,d⟩
  rcases mem_cons.mp (I.stkSub _ z) with q |q
  ·exact ne q
  ·exact nf q
 ·show (dH own ixs σ).length=NB.length
  unfold dH
  rw[S.len];simp
end
abbrev yn (ifs:List Expr)(env:Env):Sem Bool:=forIn ifs true fun c r=>if r=true then do let ok <-isTrue c env (eval c env);pure (ForInStep.yield ok) else pure (ForInStep.yield r)
theorem zV {prog:Program}{w:World}{A:Around}{R:Result->Shared->Prop}{s:Shared}{elt target iter:Expr}{ifs:List Expr}{scope:Scope}{pos:Pos}{it acc:Value}{env:Env}(I:Nat->Shared->Prop)
  (turn:∀n s,I n s->wpAny (model prog w) A (pyNext it) (fun r s1=>match r with
   |none=>R (.ok .next) s1
   |some v=>wpAny (model prog w) A (letOwnedTupleGo target it v) (fun _ s1'=>wpAny (model prog w) A (assign target env v) (fun _ s2=>
     wpAny (model prog w) A (yn ifs env) (fun ok s3=>
      if ok=true then wpAny (model prog w) A (eval elt env) (fun x s4=>wpAny (model prog w) A (call (.builtin "list.append") [acc,x]) (fun _ s5=>∃m,m < n/\I m s5) (fun _ _=>False) s4) (fun _ _=>False) s3
      else ∃m,m < n/\I m s3) (fun _ _=>False) s2) (fun _ _=>False) s1') (fun _ _=>False) s1) (fun _ _=>False) s)
  (n:Nat) (h:I n s):codeAny (model prog w) A (.compLoop (.ListComp elt [⟨target,iter,ifs,0⟩] scope pos) 0 it acc env) R s:=by
 refine codeAny_loop rfl I (fun n s hI=>?_) n h
 (show wpAny _ A ((compTurn (.ListComp elt [⟨target,iter,ifs,0⟩] scope pos) 0 it acc env).onRaise (fun x=>do (noteFrame x env);theTreesLotGoes x)) _ _ s)
 refine wpAny_noted ?_
 rw[compTurn_list]
 refine wpAny_bind (wpAny_standAt (wpAny_bind (wpAny_mono (turn n s hI) (fun r s1 h1=>?_) fun _ _ z=>z.elim)))
 cases r with
 |none=>exact wpAny_pure h1
 |some v=>
  refine wpAny_bind (wpAny_mono h1 (fun _ s1' h1'=>?_) fun _ _ z=>z.elim)
  refine wpAny_bind (wpAny_mono h1' (fun _ s2 h2=>wpAny_bind (wpAny_mono h2 (fun ok s3 h3=>?_) fun _ _ z=>z.elim)) fun _ _ z=>z.elim)
  cases ok with
  |false=>exact wpAny_pure ⟨rfl,h3⟩
  |true=>exact wpAny_bind (wpAny_bind (wpAny_mono h3 (fun x s4 h4=>wpAny_bind (wpAny_mono h4 (fun _ s5 h5=>wpAny_pure (wpAny_pure ⟨rfl,h5⟩)) fun _ _ z=>z.elim)) fun _ _ z=>z.elim))
def Cb (X:Cx)(ifs:List Expr)(t:TT):Prop:=
 ∀(pins:List (Addr×Obj)) (s:Shared) (σ:St) (H:Hp) (Q:Bool->Hp->Prop),Inv X pins σ H s->t σ H Q->wpAny (model X.prog X.w) X.A (yn ifs X.env) (TP X pins σ Q) X.xe s
def E2:TT:=fun _ H Q=>Q true H
theorem tM {X:Cx}:Cb X [] E2:=fun pins s σ H Q I h=>wpAny_pure ⟨H,I,h⟩
theorem yD {X:Cx}{c:Expr}{t:TT}(h:PT X c t):Cb X [c] t:=fun pins s σ H Q I q=>wpAny_tests_one (h pins s σ H Q I q)
def wW (own:Nat)(ixs:List Nat)(wi:TI)(g:TG)(tt:TT)(te:TE)(σ:St)(H:Hp)(Q:VK):Prop:=wi σ H fun J H1=>∀D,H1 D=none->∃W:Nat->Nat->St->Hp->Prop,(∃m,W 0 m (dH own ixs σ) (upd H1 D (.lst [])))/\∀i m σ' H',W i m σ' H'->
 (J.stop i H'/\(∃acc,H' D=some (.lst acc))/\Q (.ref D) H')\/
 (J.go i H'/\∃N:St->Hp->Prop,(∀σ2 H2,N σ2 H2->∃m',m' < m/\W (i + 1) m' σ2 H2)/\∀x H2,J.yld i H' x H2->g x σ' H2 fun σ3 H3=>tt σ3 H3 fun b H4=>
  if b=true then te σ3 H4 fun v H5=>∃acc,H5 D=some (.lst acc)/\acc.length < sizeLine/\N σ3 (upd H5 D (.lst (acc ++ [v]))) else N σ3 H4)
section
variable {X:Cx}{NB:List Str}{own:Nat}{ixs:List Nat}{scope:Scope}{elt tg iter:Expr}{ifs:List Expr}{pos:Pos}{wi:TI}{g:TG}{tt:TT}{te:TE}
theorem so (hc:X.calm=true)(S:dz X NB own ixs scope)
  (hg:∀C ex s3 H3 pn,PG (jN X NB scope C ex s3 H3 pn) tg g) (ht:∀C ex s3 H3 pn,Cb (jN X NB scope C ex s3 H3 pn) ifs tt) (he:∀C ex s3 H3 pn,PE (jN X NB scope C ex s3 H3 pn) elt te)
  {pins:List (Addr×Obj)} {σ:St} {H1:Hp} {s2:Shared} {it:Addr} {fp:List Addr} {tn:Nat->Heap->Prop} {J:It} {Q:VK} (I2:Inv X pins σ H1 s2) (T:Turn X.prog X.w X.K tg J fp it tn) (st2:tn 0 s2.heap) (f2:∀b∈fp,o5 X pins H1 b)
  (hQ:∀D,H1 D=none->∃W:Nat->Nat->St->Hp->Prop,(∃m,W 0 m (dH own ixs σ) (upd H1 D (.lst [])))/\∀i m σ' H',W i m σ' H'->
   (J.stop i H'/\(∃acc,H' D=some (.lst acc))/\Q (.ref D) H')\/
   (J.go i H'/\∃N:St->Hp->Prop,(∀σ2 H2,N σ2 H2->∃m',m' < m/\W (i + 1) m' σ2 H2)/\∀x H2,J.yld i H' x H2->g x σ' H2 fun σ3 H3=>tt σ3 H3 fun b H4=>
    if b=true then te σ3 H4 fun v H5=>∃acc,H5 D=some (.lst acc)/\acc.length < sizeLine/\N σ3 (upd H5 D (.lst (acc ++ [v]))) else N σ3 H4))
  {E:Value->Shared->Prop} {RR:Value->Addr->Result->Shared->Prop}
  (fin:∀D C H' s' m,Inv X pins σ H' s'->Q (.ref D) H'->s'.heap.Ns C m->H' C=none->C≠X.env.locals->(∀x c,X.env.cells.lookup x=some c->c≠C)->X.s₀.heap.objs.size<=C->(∀p∈X.pn ++ pins,p.1≠C)->RR (.ref D) C (.ok .next) s') :
  wpAny (model X.prog X.w) X.A (newList []) (fun acc s3=>wpAny (model X.prog X.w) X.A (newFunctionEnv scope X.env.globals (nY X.env.cells scope.names []) [] X.env.qual none .none (some X.env)) (fun cenv s4=>
   codeAny (model X.prog X.w) X.A (.compStart (.ListComp elt [⟨tg,iter,ifs,0⟩] scope pos) 0 (.ref it) acc {cenv with scope:=relabel scope X.env}) (RR acc cenv.locals) s4) E s3) E s2:=by
 refine wpAny_newList ?_ (Nat.zero_le _)
 have hD:H1 s2.heap.objs.size=none:=I2.hok.fresh (Nat.le_refl _)
 obtain⟨W,⟨m0,w0⟩,turn⟩:=hQ s2.heap.objs.size hD
 generalize hs3:({s2 with heap:=s2.heap.push (seqObj "list" ([]:List Value).toArray 0)}:Shared)=s3
 have I3:Inv X pins σ (upd H1 s2.heap.objs.size (.lst [])) s3:=by
  rw[<-hs3]
  exact I2.lnew (ys:=[]) (its:=[]) (t':=s2.toks) .nil (Nat.zero_le _)
 have k3:∀b o,s2.heap.get? b=some o->s3.heap.get? b=some o:=fun b o e=>by rw[<-hs3];exact Heap.get?_push_of_some _ e
 have sz3:s3.heap.objs.size=s2.heap.objs.size + 1:=by rw[<-hs3];exact Heap.size_push ..
 have ob2:∀b∈fp,∃o,s2.heap.get? b=some o:=fun b hb=>let ⟨o,e,_⟩:=T.obj 0 _ st2 b hb;⟨o,e⟩
 have neD:∀b∈fp,b≠s2.heap.objs.size:=fun b hb=>let ⟨o,e⟩:=ob2 b hb;Nat.ne_of_lt (Heap.lt_size e)
 have f3:∀b∈fp,o5 X pins (upd H1 s2.heap.objs.size (.lst [])) b:=fun b hb=>by
  obtain⟨a1,a2⟩:=f2 b hb
  exact⟨by rw[aE (neD b hb)];exact a1,a2⟩
 have st3:tn 0 s3.heap:=T.keep _ _ _ st2 fun b _ o e=>k3 b o e
 refine wpAny_newFunctionEnv S.nocell (fun y hy=>by simp at hy) (fun h4 hn4 sb4=>?_) S.kind
 have k4:∀b o,s3.heap.get? b=some o->h4.get? b=some o:=fun b o e=>sb4.extBut b o (Nat.ne_of_lt (Heap.lt_size e)) (Heap.get?_push_of_some _ e)
 have I4:Inv (jN X NB scope s3.heap.objs.size fp s3 (upd H1 s2.heap.objs.size (.lst [])) (X.pn ++ pins)) [] (dH own ixs σ) (upd H1 s2.heap.objs.size (.lst [])) {s3 with heap:=h4,toks:=s3.toks + ([]:List (Str×Value)).length}:=
  zq S I3 f3 (fun b hb=>let ⟨o,e⟩:=ob2 b hb;⟨o,k3 _ _ e⟩) (by simpa using hn4) k4
 have st4:tn 0 h4:=T.keep _ _ _ st3 fun b _ o e=>k4 b o e
 generalize hB:jN X NB scope s3.heap.objs.size fp s3 (upd H1 s2.heap.objs.size (.lst [])) (X.pn ++ pins)=B at I4
 have hgB:PG B tg g:=by rw[<-hB];exact hg _ _ _ _ _
 have htB:Cb B ifs tt:=by rw[<-hB];exact ht _ _ _ _ _
 have heB:PE B elt te:=by rw[<-hB];exact he _ _ _ _ _
 have eP:B.prog=X.prog:=by rw[<-hB];rfl
 have eW:B.w=X.w:=by rw[<-hB];rfl
 have eK:B.K=X.K:=by rw[<-hB];rfl
 have eA:B.A=X.A:=by rw[<-hB];rfl
 have eC:B.calm=true:=by rw[<-hB];exact hc
 have eX:B.xe=fun _ _=>False:=by rw[<-hB];rfl
 have eE:B.env=compEnvC scope (nY X.env.cells scope.names []) s3.heap.objs.size X.env:=by rw[<-hB];rfl
 have ex:B.ex=fp:=by rw[<-hB];rfl
 have eL:B.env.locals=s3.heap.objs.size:=by rw[eE];rfl
 have stat:∀{H':Hp},(∀b∈fp,H' b=none)->∀b∈fp,o5 B [] H' b:=fun {H'} hn b hb=>by
  obtain⟨a1,a2,a3,a4,a5,a6⟩:=f3 b hb
  obtain⟨o,eo⟩:=ob2 b hb
  refine⟨hn b hb,?_,fun z=>?_,.inl (by rw[ex];exact hb),fun x c e z=>?_,fun p hp z=>?_⟩
  ·rw[eL];exact Nat.ne_of_lt (Heap.lt_size (k3 _ _ eo))
  ·have hz:b∈jU X.stack:=by rw[<-hB] at z;exact z
   rcases mem_cons.mp (I3.stkSub b hz) with q |q
   ·exact a2 q
   ·exact a3 q
  ·rw[eE] at e
   rcases n9 e with⟨m1,m2⟩ |m1
   ·obtain⟨c',e'⟩:=I3.ok.has x (S.frees _ m1 rfl)
    rw[e'] at m2
    exact a5 x c' e' (by rw[<-z,m2];rfl)
   ·simp at m1
  ·have hp':p∈X.pn ++ pins:=by
    rw[<-hB] at hp
    rcases mem_append.mp hp with q |q
    ·exact q
    ·cases q
   exact a6 p hp' z
 have back:∀{σ':St} {H':Hp} {s':Shared},Inv B [] σ' H' s'->Inv X pins σ H' s':=fun {σ' H' s'} J'=>by
  have u:=J'.base
  have os:=J'.os
  have bare:=J'.bare
  have hok:=J'.hok
  subst hB
  exact I3.call' (ch:=fp) os u hok bare fun b hb=>by
   obtain⟨a1,a2,a3,a4,a5,a6⟩:=f3 b hb
   exact⟨a4,a2,a5,a6⟩
 have loop:∀s5:Shared,s5={s3 with heap:=h4,toks:=s3.toks + ([]:List (Str×Value)).length}->
   codeAny (model X.prog X.w) X.A (.compLoop (.ListComp elt [⟨tg,iter,ifs,0⟩] scope pos) 0 (.ref it) (.ref s2.heap.objs.size) (compEnvC scope (nY X.env.cells scope.names []) s3.heap.objs.size X.env)) (RR (.ref s2.heap.objs.size) s3.heap.objs.size) s5:=by
  rintro s5 rfl
  refine zV (fun n s'=>∃i σ' H',Inv B [] σ' H' s'/\tn i s'.heap/\(∀b∈fp,H' b=none)/\W i n σ' H') ?_ m0 ⟨0,_,_,I4,st4,fun b hb=>(f3 b hb).1,w0⟩
  rintro n s6 ⟨i,σ6,H6,I6,st6,fr6,w6⟩
  rcases turn i n σ6 H6 w6 with⟨stop,⟨acc,hacc⟩,qn⟩ | ⟨go,N,hN,step⟩
  ·have:=T.done B eP eW eK eC i [] s6 σ6 H6 (fun _ _=>False) I6 (stat fr6) st6 stop
   rw[eA] at this
   refine cS this fun r s7 ⟨hr,I7⟩=>?_
   subst hr
   obtain⟨m7,hn7,_⟩:=I7.loc
   rw[eL] at hn7
   have J7:=back I7
   refine fin _ _ H6 s7 m7 J7 qn hn7 (by rw[<-eL];exact I7.free) (fun z=>?_) (fun x c e z=>?_) ?_ fun p hp z=>?_
   ·have:=I3.lt
    rw[<-z] at this
    exact Nat.lt_irrefl _ this
   ·obtain⟨v,o,ho,_⟩:=I3.cell x c e
    exact absurd (Heap.lt_size ho) (by rw[z];exact Nat.lt_irrefl _)
   ·exact I3.sz
   ·have:=Heap.lt_size (I3.pin p hp).1
    rw[z] at this
    exact Nat.lt_irrefl _ this
  ·have hitem:=T.item B eP eW eK eC i [] s6 σ6 H6 (fun _ _=>False) I6 (stat fr6) st6 go
   rw[eA] at hitem
   refine cS hitem fun r s7 ⟨u,hr,h7⟩=>?_
   subst hr
   refine cS h7 fun _ s8 ⟨x,H8,I8,r8,y8,st8,fr8⟩=>?_
   have I8':=I8.pinned (stat fr8) (T.obj _ _ st8)
   have ha:=hgB _ s8 σ6 H8 x u _ I8' r8 (step x H8 y8)
   rw[eP,eW,eA,eE,eX] at ha
   refine cS ha fun _ s9 ⟨σ9,H9,I9,q9⟩=>?_
   have hb:=htB _ s9 σ9 H9 _ I9 q9
   rw[eP,eW,eA,eE,eX] at hb
   refine cS hb fun ok s10 ⟨H10,I10,q10⟩=>?_
   have again:∀{σ7:St} {H7:Hp} {s7:Shared},Inv B ([] ++ qf fp s8.heap) σ7 H7 s7->N σ7 H7->∃m,m < n/\∃i σ' H',Inv B [] σ' H' s7/\tn i s7.heap/\(∀b∈fp,H' b=none)/\W i m σ' H':=fun {σ7 H7 s7} I7 n7=>by
    obtain⟨m',hm,w7⟩:=hN σ7 H7 n7
    refine⟨m',hm,i + 1,σ7,H7,I7.unpinned,T.keep _ _ _ st8 fun b hb o e=>(I7.pin (b,o) (mem_append_right _ (mem_append_right _ (kA hb e)))).1,fun b hb=>?_,w7⟩
    obtain⟨o,e,d⟩:=T.obj _ _ st8 b hb
    exact (I7.pin (b,o) (mem_append_right _ (mem_append_right _ (kA hb e)))).2.1
   cases ok with
   |false=>
    simp only[Bool.false_eq_true,if_false] at q10 ⊢
    exact again I10 q10
   |true=>
    simp only[if_true] at q10 ⊢
    have hv:=heB _ s10 σ9 H10 _ I10 q10
    rw[eP,eW,eA,eE,eX] at hv
    refine cS hv fun y s11 ⟨v,H11,I11,r11,acc,hacc,hz,q11⟩=>?_
    have hap:=nR (X:=B) _ s11 σ9 H11 (.ref s2.heap.objs.size) [v] (.ref s2.heap.objs.size) [y] (fun z H'=>z=.non/\N σ9 H') I11 rfl (.cons r11 .nil) ⟨_,acc,v,rfl,rfl,hacc,hz,rfl,q11⟩
    rw[eP,eW,eA,eX] at hap
    exact cS hap fun _ s12 ⟨_,H12,I12,_,_,q12⟩=>again I12 q12
 exact codeAny_compStart_list (loop _ rfl) (T.self X.A 0 _ _ _ st4 (loop _ rfl))
theorem vm (hc:X.calm=true)(S:dz X NB own ixs scope)(hi:PI X tg iter wi)
  (hg:∀C ex s3 H3 pn,PG (jN X NB scope C ex s3 H3 pn) tg g) (ht:∀C ex s3 H3 pn,Cb (jN X NB scope C ex s3 H3 pn) ifs tt) (he:∀C ex s3 H3 pn,PE (jN X NB scope C ex s3 H3 pn) elt te)
  (hs:∀x,foldedSetIterable iter X.env x=pure x:=by intro _;rfl) :
  PE X (.ListComp elt [⟨tg,iter,ifs,0⟩] scope pos) (wW own ixs wi g tt te):=by
 intro pins s σ H Q I h
 rw[eval_ListComp]
 refine wpAny_comprehension_free (use:=none) rfl hs (p7 fun y hy e=>I.ok.has _ (S.frees y hy e)) S.kind (fun y hy e=>by rw[S.names y hy,e]) ?_
 refine cS (hi pins s σ H _ I h) fun v s1 h1=>cS h1 fun itv s2 h2=>?_
 obtain⟨it,fp,tn,J,H2,e,I2,T,st2,f2,q2⟩:=h2
 subst e
 refine so hc S hg ht he I2 T st2 f2 q2 (RR:=fun acc C=>compPost (model X.prog X.w) X.A X.xe none (EP X pins σ Q) acc C) fun D C H' s' m J' q hn hC n1 n2 n3 n4=>?_
 refine⟨m,hn,fun h'' sb=>⟨.ref D,H',?_,rfl,q⟩⟩
 exact J'.turned (t':=s'.toks) (it:=C) (fun b o hb e=>sb.extBut b o hb e) hC n1 (.inr n3) n2 n4
theorem B7 {i:Nat}{y:Str}{py spos:Pos}(hc:X.calm=true)(S:dz X NB own ixs scope)(hi:PI X tg iter wi)
  (hg:∀C ex s3 H3 pn,PG (jN X NB scope C ex s3 H3 pn) tg g) (ht:∀C ex s3 H3 pn,Cb (jN X NB scope C ex s3 H3 pn) ifs tt) (he:∀C ex s3 H3 pn,PE (jN X NB scope C ex s3 H3 pn) elt te)
  (hN:X.N.Nodup) (hy:X.N[i]? =some y) (hl:X.env.scope.names.lookup y=some .local)
  (hsw:swapsWith (.ListComp elt [⟨tg,iter,ifs,0⟩] scope pos) (some (.Name y py)) spos.line X.env=pure true)
  (hs:∀x,foldedSetIterable iter X.env x=pure x:=by intro _;rfl) :
  PS X (.Assign [.Name y py] (.ListComp elt [⟨tg,iter,ifs,0⟩] scope pos) spos) (fun D σ H=>wW own ixs wi g tt te σ H fun v H'=>D.nx (σ.set i (some v)) H'):=by
 intro pins s σ H D I h
 rw[exec_Assign_Name_used _ _ _ _ hsw]
 refine wpAny_bind (wpAny_standAt (wpAny_bind ?_))
 show wpAny _ X.A (comprehension (.ListComp elt [⟨tg,iter,ifs,0⟩] scope pos) scope X.env _ (newList []) false (eval iter X.env) (some (assign (.Name y py) X.env)) >>= fun _=>pure ()) _ _ s
 refine wpAny_bind (wpAny_mono (wpAny_comprehension_free (use:=some (assign (.Name y py) X.env)) (Q:=fun _ s'=>SP X pins D .next s') rfl hs (p7 fun y hy e=>I.ok.has _ (S.frees y hy e)) S.kind (fun y hy e=>by rw[S.names y hy,e]) ?_)
  (fun _ s' hq=>wpAny_pure (wpAny_pure hq)) fun _ _ e=>e)
 refine cS (hi pins s σ H _ I h) fun v s1 h1=>cS h1 fun itv s2 h2=>?_
 obtain⟨it,fp,tn,J,H2,e,I2,T,st2,f2,q2⟩:=h2
 subst e
 refine so hc S hg ht he I2 T st2 f2 q2 (Q:=fun v H'=>D.nx (σ.set i (some v)) H') (RR:=fun acc C=>compPost (model X.prog X.w) X.A X.xe (some (assign (.Name y py) X.env)) (fun _ s'=>SP X pins D .next s') acc C) fun D' C H' s' m J' q hn hC n1 n2 n3 n4=>?_
 show wpAny _ X.A (assign (.Name y py) X.env (.ref D')) _ _ s'
 refine wpAny_assign_Name (sD J' hN hy (.inl hl) (v:=.ref D') rfl (fun s'' I'' ⟨a,sb,ha⟩=>?_) (.inr hl))
 have hCa:C≠a:=by
  rcases ha with z |z
  ·rw[z];exact n1
  ·exact (n2 _ _ z).symm
 refine⟨m,hn.sameBut sb hCa,fun h3 sb3=>⟨_,H',?_,q⟩⟩
 exact I''.turned (t':=s''.toks) (it:=C) (fun b o hb e=>sb3.extBut b o hb e) hC n1 (.inr n3) n2 n4
end
section
variable {own:Nat}{ixs:List Nat}{g:TG}{tt:TT}{te:TE}{σ:St}{H:Hp}{Q:VK}{K:Frag}{D a:Addr}{xs:List V}
abbrev fD (g:TG)(tt:TT)(te:TE)(D:Addr)(x:V)(σ:St)(H:Hp)(N:St->Hp->Prop):Prop:=g x σ H fun σ3 H3=>tt σ3 H3 fun b H4=>
  if b=true then te σ3 H4 fun v H5=>∃acc,H5 D=some (.lst acc)/\acc.length < sizeLine/\N σ3 (upd H5 D (.lst (acc ++ [v]))) else N σ3 H4
theorem zW (Pv:Nat->St->Hp->Prop)(h0:Pv 0 (dH own ixs σ) (upd H D (.lst [])))(hl:∀i σ H,i<=xs.length->Pv i σ H->hX K H a xs)
  (hs:∀i x σ H,xs[i]? =some x->Pv i σ H->fD g tt te D x σ H (Pv (i + 1))) (hd:∀σ H,Pv xs.length σ H->(∃acc,H D=some (.lst acc))/\Q (.ref D) H) :
  ∃W:Nat->Nat->St->Hp->Prop,(∃m,W 0 m (dH own ixs σ) (upd H D (.lst [])))/\∀i m σ' H',W i m σ' H'->
   ((Ae K a).stop i H'/\(∃acc,H' D=some (.lst acc))/\Q (.ref D) H')\/
   ((Ae K a).go i H'/\∃N:St->Hp->Prop,(∀σ2 H2,N σ2 H2->∃m',m' < m/\W (i + 1) m' σ2 H2)/\∀x H2,(Ae K a).yld i H' x H2->fD g tt te D x σ' H2 N):=by
 refine⟨fun i m σ H=>m=xs.length - i/\i<=xs.length/\Pv i σ H,⟨xs.length,by simp,Nat.zero_le _,h0⟩,?_⟩
 rintro i m σ H ⟨rfl,hi,p⟩
 have q:=hl i σ H hi p
 by_cases hlt:i < xs.length
 ·refine .inr ⟨⟨xs,xs[i],q,by simp[hlt]⟩,Pv (i + 1),fun σ' H' p'=>⟨xs.length - (i + 1),by omega,rfl,hlt,p'⟩,fun x H' y=>?_⟩
  obtain⟨e,y⟩:=y
  subst e
  exact hs i x σ _ (y xs q) p
 ·have e:i=xs.length:=by omega
  subst e
  exact .inl ⟨⟨xs,q,Nat.le_refl _⟩,hd σ H p⟩
theorem xT {lo:Int}{n:Nat}(Pv:Nat->St->Hp->Prop)(h0:Pv 0 (dH own ixs σ) (upd H D (.lst [])))
  (hs:∀i σ H,i < n->Pv i σ H->fD g tt te D (.int (lo + i)) σ H (Pv (i + 1))) (hd:∀σ H,Pv n σ H->(∃acc,H D=some (.lst acc))/\Q (.ref D) H) :
  ∃W:Nat->Nat->St->Hp->Prop,(∃m,W 0 m (dH own ixs σ) (upd H D (.lst [])))/\∀i m σ' H',W i m σ' H'->
   ((zE lo n).stop i H'/\(∃acc,H' D=some (.lst acc))/\Q (.ref D) H')\/
   ((zE lo n).go i H'/\∃N:St->Hp->Prop,(∀σ2 H2,N σ2 H2->∃m',m' < m/\W (i + 1) m' σ2 H2)/\∀x H2,(zE lo n).yld i H' x H2->fD g tt te D x σ' H2 N):=by
 refine⟨fun i m σ H=>m=n - i/\i<=n/\Pv i σ H,⟨n,by simp,Nat.zero_le _,h0⟩,?_⟩
 rintro i m σ H ⟨rfl,hi,p⟩
 by_cases hlt:i < n
 ·refine .inr ⟨hlt,Pv (i + 1),fun σ' H' p'=>⟨n - (i + 1),by omega,rfl,hlt,p'⟩,fun x H' y=>?_⟩
  obtain⟨e,y⟩:=y
  subst e y
  exact hs i σ _ hlt p
 ·have e:i=n:=by omega
  subst e
  exact .inl ⟨Nat.le_refl _,hd σ H p⟩
end
mutual
inductive Rep (K:Frag)(H:Hp):V->PyData->Prop
 |non:Rep K H .non .none
 |bl (b:Bool):Rep K H (.bl b) (.bool b)
 |int (i:Int):Rep K H (.int i) (.int i)
 |str (x:Str):Rep K H (.str x) (.str x)
 |tup {a:Addr} {xs:List V} {ds:List PyData}:gJ K H a xs->lM K H xs ds->Rep K H (.ref a) (.tuple ds)
 |lst {a:Addr} {xs:List V} {ds:List PyData}:hX K H a xs->lM K H xs ds->Rep K H (.ref a) (.list ds)
inductive lM (K:Frag)(H:Hp):List V->List PyData->Prop
 |nil:lM K H [] []
 |cons {x:V} {xs:List V} {d:PyData} {ds:List PyData}:Rep K H x d->lM K H xs ds->lM K H (x :: xs) (d :: ds)
end
section
variable {X:Cx}{pins:List (Addr×Obj)}{σ:St}{H H':Hp}{s:Shared}
mutual
theorem Rep.reads (I:Inv X pins σ H s):∀{x:V} {d:PyData} {u:Value},Rep X.K H x d->RelV x u->∃as,Reads s.heap u d as
 |_,_,_,.non,r=>by cases r;exact⟨_,.none⟩
 |_,_,_,.bl b,r=>by cases r;exact⟨_,.bool b⟩
 |_,_,_,.int i,r=>by obtain⟨t,rfl⟩:=r;exact⟨_,.int i t⟩
 |_,_,_,.str x,r=>by obtain⟨t,rfl⟩:=r;exact⟨_,.str x t⟩
 |_,_,_,.tup h hs,r=>by
  cases r
  obtain⟨its,rv,⟨o,ho,hc,n,hd⟩,_⟩:=I.tuple h
  obtain⟨as,q⟩:=lM.reads I hs rv
  exact⟨_,.tuple ho hc hd (by simpa using q)⟩
 |_,_,_,.lst h hs,r=>by
  cases r
  obtain⟨its,rv,pl,_⟩:=I.list h
  obtain⟨o,ho,hc,n,hd⟩:=pl.isList
  obtain⟨as,q⟩:=lM.reads I hs rv
  exact⟨_,.list ho hc hd (by simpa using q)⟩
theorem lM.reads (I:Inv X pins σ H s):∀{xs:List V} {ds:List PyData} {us:List Value},lM X.K H xs ds->Vals xs us->∃as,ReadsAll s.heap us ds as
 |_,_,_,.nil,r=>by cases r;exact⟨_,.nil⟩
 |_,_,_,.cons h hs,r=>by
  cases r with
  |cons r1 r2=>
   obtain⟨as,q⟩:=Rep.reads I h r1
   obtain⟨bs,q'⟩:=lM.reads I hs r2
   exact⟨_,.cons q q'⟩
end
def FP (K:Frag)(neg:Bool):R2:=fun x y H Q=>∃d e,Rep K H x d/\Rep K H y e/\SeqAt.shaped d=true/\SeqAt.shaped e=true/\Q (.bl (if neg then !PyData.eqv d e else PyData.eqv d e)) H
theorem cv (hu:X.A.units + 64 < cLine):mw X (compareOp .Eq) (FP X.K false):=by
 intro pins s σ H x y v u Q I rx ry h
 obtain⟨d,e,h1,h2,s1,s2,q⟩:=h
 obtain⟨as,r1⟩:=h1.reads I rx
 obtain⟨bs,r2⟩:=h2.reads I ry
 exact SeqAt.compareEq_shaped r1 r2 s1 s2 hu ⟨.bl _,H,I,rfl,q⟩
theorem c9 (hu:X.A.units + 64 < cLine):mw X (compareOp .NotEq) (FP X.K true):=by
 intro pins s σ H x y v u Q I rx ry h
 obtain⟨d,e,h1,h2,s1,s2,q⟩:=h
 obtain⟨as,r1⟩:=h1.reads I rx
 obtain⟨bs,r2⟩:=h2.reads I ry
 exact SeqAt.compareNe_shaped r1 r2 s1 s2 hu ⟨.bl _,H,I,rfl,q⟩
def GK (K:Frag)(neg:Bool):R2:=fun x y H Q=>∃p xs d ds,y=.ref p/\(hX K H p xs\/gJ K H p xs)/\lM K H xs ds/\Rep K H x d/\SeqAt.shaped d=true/\(∀e,e∈ds->SeqAt.shaped e=true)/\
 Q (.bl (if neg then !(ds.any fun e=>PyData.eqv e d) else ds.any fun e=>PyData.eqv e d)) H
theorem lM.at' {K:Frag}:∀{xs:List V} {ds:List PyData} {i:Nat} {x:V},lM K H xs ds->xs[i]? =some x->∃d,ds[i]? =some d/\Rep K H x d
 |_,_,_,_,.nil,e=>by simp at e
 |_,_,0,_,.cons r _,e=>by simp at e;subst e;exact⟨_,rfl,r⟩
 |_,_,i + 1,x,.cons _ t,e=>by
  obtain⟨u,h1,h2⟩:=lM.at' (i:=i) (x:=x) t (by simpa using e)
  exact⟨u,by simpa using h1,h2⟩
open Classical in
theorem nJ (I:Inv X pins σ H s)(d:PyData):∀{xs:List V} {us:List Value} {ds:List PyData},Vals xs us->lM X.K H xs ds->(∀e,e∈ds->SeqAt.shaped e=true)->∃f:Value->Bool,us.any f=(ds.any fun e=>PyData.eqv e d)/\∀u,u∈us->∃e as,e∈ds/\Reads s.heap u e as/\f u=PyData.eqv e d:=by
 intro xs us ds hv hr hs
 let f:Value->Bool:=fun u=>if h:∃e as,SeqAt.shaped e=true/\Reads s.heap u e as then PyData.eqv (Classical.choose h) d else false
 have hf:∀{u:Value} {e:PyData} {as:List Addr},SeqAt.shaped e=true->Reads s.heap u e as->f u=PyData.eqv e d:=fun {u e as} h1 h2=>by
  have hx:∃e as,SeqAt.shaped e=true/\Reads s.heap u e as:=⟨e,as,h1,h2⟩
  show (if h:∃e as,SeqAt.shaped e=true/\Reads s.heap u e as then PyData.eqv (Classical.choose h) d else false)=_
  rw[dif_pos hx]
  obtain⟨bs,q1,q2⟩:=Classical.choose_spec hx
  rw[SeqAt.Reads.unique _ _ _ _ _ (SeqAt.canLay_of_shaped q1) q2 h2]
 refine⟨f,?_,?_⟩
 ·induction hv generalizing ds with
  |nil=>cases hr;rfl
  | @cons x u xs us r1 r2 ih=>
   cases hr with
   | @cons _ _ e es h1 h2=>
    obtain⟨as,q⟩:=h1.reads I r1
    rw[any_cons,any_cons,hf (hs e (mem_cons_self ..)) q,ih h2 fun z hz=>hs z (mem_cons_of_mem _ hz)]
 ·intro u hu
  obtain⟨i,hi,e0⟩:=mem_iff_getElem.mp hu
  have hi':i < xs.length:=by rw[hv.length];exact hi
  obtain⟨u',eu,ru⟩:=hv.get (getElem?_eq_getElem hi')
  rw[getElem?_eq_getElem hi,e0] at eu
  cases eu
  obtain⟨e,ee,re⟩:=lM.at' hr (getElem?_eq_getElem hi')
  obtain⟨as,q⟩:=re.reads I ru
  have hm:=mem_of_getElem? ee
  exact⟨e,as,hm,q,hf (hs e hm) q⟩
theorem uA (hu:X.A.units + 100 < cLine):mw X (compareOp .In) (GK X.K false):=by
 intro pins s σ H x y v u Q I rx ry h
 obtain⟨p,xs,d,ds,rfl,hq,hs,hx,s1,s2,q⟩:=h
 cases ry
 obtain⟨bs,r2⟩:=hx.reads I rx
 have key:∀{e:PyData} {as:List Addr} {u:Value},SeqAt.shaped e=true->Reads s.heap u e as->SeqAt.EqAt X.A.in1 s u v (PyData.eqv e d):=fun {e as u} h1 h2=>by
  refine SeqAt.eqAt_reads _ _ _ _ _ _ _ _ h2 r2 (SeqAt.canLay_of_shaped h1) (SeqAt.canLay_of_shaped s1) ?_
  have:=SeqAt.depth_of_shaped h1
  show X.A.units + 1 + _ < _
  omega
 rcases hq with hq |hq
 ·obtain⟨its,r,pl,hz⟩:=I.list hq
  obtain⟨f,e1,e2⟩:=nJ I d r hs s2
  refine SeqAt.in_listAt f pl.isList (fun w hw=>?_) ⟨.bl _,H,I,rfl,?_⟩
  ·obtain⟨e,as,hm,rd,ef⟩:=e2 w (by simpa using hw)
   rw[ef];exact key (s2 e hm) rd
  ·rw[show its.toArray.any f=its.any f by simp,e1];exact q
 ·obtain⟨its,r,pl,hz⟩:=I.tuple hq
  obtain⟨f,e1,e2⟩:=nJ I d r hs s2
  refine SeqAt.in_tupleAt f pl (fun w hw=>?_) ⟨.bl _,H,I,rfl,?_⟩
  ·obtain⟨e,as,hm,rd,ef⟩:=e2 w (by simpa using hw)
   rw[ef];exact key (s2 e hm) rd
  ·rw[show its.toArray.any f=its.any f by simp,e1];exact q
inductive El (K:Frag)(H:Hp):V->String->Prop
 |non:El K H .non "NoneType"
 |bl (b:Bool):El K H (.bl b) "bool"
 |int (i:Int):El K H (.int i) "int"
 |str (x:Str):El K H (.str x) "str"
 |tup {a:Addr} {xs:List V}:gJ K H a xs->El K H (.ref a) "tuple"
 |lst {a:Addr} {xs:List V}:hX K H a xs->El K H (.ref a) "list"
 |dic {a:Addr} {kvs:List (Key×V)}:H a=some (.dK kvs)->El K H (.ref a) "dict"
def Ju (K:Frag):List V->Hp->VK->Prop:=fun xs H Q=>∃x T t b,xs= [x,.ty T]/\El K H x t/\PySem.W.kitOne K (.type t) (.type T)=some b/\Q (.bl b) H
theorem BV:cY X (.builtin "isinstance") (Ju X.K):=by
 intro pins s σ H xs us Q I r h
 obtain⟨x,T,t,b,rfl,ty,e,q⟩:=h
 obtain⟨u,c,rfl,rx,rc⟩:=vals2 r
 cases rc
 have fin:∀tk,EP X pins σ Q (.bool b) {s with toks:=tk}:=fun tk=>⟨.bl b,H,I.tok tk,rfl,q⟩
 cases ty with
 |non=>exact j7 I rx .non e fin
 |bl b=>exact j7 I rx (.bl b) e fin
 |int i=>exact j7 I rx (.int i) e fin
 |str z=>exact j7 I rx (.str z) e fin
 |dic hk=>exact j7 I rx (.dK hk) e fin
 |tup hq=>
  cases rx
  obtain⟨its,rv,⟨o,h1,h2,_⟩,_⟩:=I.tuple hq
  exact PySem.W.kia_one PySem.W.kitx_tuple I.kIn ⟨o,h1,h2⟩ e (fun z=>nomatch z) fin
 |lst hq=>
  cases rx
  obtain⟨its,rv,pl,_⟩:=I.list hq
  obtain⟨o,h1,h2,_⟩:=pl.isList
  exact PySem.W.kia_one PySem.W.kitx_list I.kIn ⟨o,h1,h2⟩ e (fun z=>nomatch z) fin
theorem uP {A:Around}{its:List Value}{bs:List Bool}(hv:Vals (bs.map V.bl) its):TruthOf X.prog X.w A (fun i v=>its[i]? =some v) (fun i=>bs.getD i false):=fun i v s Q E hi hq=>by
 have hl:=hv.length
 have hi2:i < bs.length:=by
  have:=(List.getElem?_eq_some_iff.mp hi).1
  rw[<-hl] at this;simpa using this
 obtain⟨u,eu,ru⟩:=hv.get (i:=i) (x:=.bl bs[i]) (by simp[hi2])
 rw[hi] at eu;cases eu
 cases ru
 refine wpAny_truthy_bool ?_
 have:bs.getD i false=bs[i]:=by simp[hi2]
 rw[<-this];exact hq
theorem range_all (bs:List Bool):(List.range bs.length).all (fun i=>bs.getD i false)=bs.all id:=by
 induction bs with
 |nil=>rfl
 |cons b bs ih=>
  rw[length_cons,List.range_succ_eq_map,List.all_cons,List.all_map,List.all_cons,<-ih]
  rfl
theorem range_any (bs:List Bool):(List.range bs.length).any (fun i=>bs.getD i false)=bs.any id:=by
 induction bs with
 |nil=>rfl
 |cons b bs ih=>
  rw[length_cons,List.range_succ_eq_map,any_cons,List.any_map,any_cons,<-ih]
  rfl
def wD (K:Frag)(f:List Bool->Bool):List V->Hp->VK->Prop:=fun xs H Q=>∃a bs,xs= [.ref a]/\hX K H a (bs.map V.bl)/\Q (.bl (f bs)) H
theorem ql (hc:X.calm=true){a:Addr}{bs:List Bool}{Q:VK}(I:Inv X pins σ H s)(hq:hX X.K H a (bs.map V.bl)){f:List Bool->Bool}{g:(Nat->Bool)->Nat->Bool}(hfg:g (fun i=>bs.getD i false) bs.length=f bs)(q:Q (.bl (f bs)) H) :
  wpAny (model X.prog X.w) X.A.in1 (pyIter (.ref a)) (fun it s2=>∃Ii fp wr n P St tr,it=.ref Ii/\Walks X.prog X.w X.A.in1 Ii fp wr n P St/\St 0 s2.heap/\TruthOf X.prog X.w X.A.in1 P tr/\
   ∀h' tk,(∀b o,b∉wr->s2.heap.get? b=some o->h'.get? b=some o)->EP X pins σ Q (.bool (g tr n)) {s2 with heap:=h',toks:=tk}) X.xe s:=by
 obtain⟨its,rv,pl,hz⟩:=I.list hq
 have hh:X.A.in1.handled=none:=I.ok.hd hc
 have hlen:its.length=bs.length:=by rw[<-rv.length];simp
 obtain⟨o,ho,_⟩:=id pl.isList
 refine wpAny_pyIter_list pl.isList ?_
 have W:=Walks.list (prog:=X.prog) (w:=X.w) hh s.heap.objs.size a (Nat.ne_of_lt (Heap.lt_size ho)) its.toArray
 refine⟨s.heap.objs.size,_,_,_,_,_,fun i=>bs.getD i false,rfl,W,⟨⟨_,Heap.get?_push_size _ rfl,rfl,rfl⟩,pl.isList.push _⟩,?_,fun h' tk k=>?_⟩
 ·have:=uP (X:=X) (A:=X.A.in1) rv
  simpa using this
 ·have e:its.toArray.size=bs.length:=by simpa using hlen
  rw[e,hfg]
  have I1:Inv X pins σ H {s with heap:=s.heap.push {cls:=.type "list_iterator",data:=.fields #[.ref a,.int 0 0]}}:=I.kept (t':=s.toks) fun b o e=>Heap.get?_push_of_some _ e
  have hf:H s.heap.objs.size=none:=I.hok.fresh (Nat.le_refl _)
  have fp:=I.fpOk (H':=H) (b:=s.heap.objs.size) (Nat.le_refl _) hf
  refine⟨.bl _,H,I1.turned (it:=s.heap.objs.size) (t':=tk) (fun b o hb e=>k b o (by simpa using hb) e) hf fp.2.1 fp.2.2.2.1 fp.2.2.2.2.1 fp.2.2.2.2.2,rfl,q⟩
theorem kf (hc:X.calm=true):cY X (.builtin "all") (wD X.K fun bs=>bs.all id):=by
 intro pins s σ H xs us Q I r h
 obtain⟨a,bs,rfl,hq,q⟩:=h
 obtain⟨u,rfl,rx⟩:=vals1 r
 cases rx
 exact call_all_walk (ql hc I hq (f:=fun bs=>bs.all id) (g:=fun tr n=>(List.range n).all tr) (range_all bs) q)
theorem BO (hc:X.calm=true):cY X (.builtin "any") (wD X.K fun bs=>bs.any id):=by
 intro pins s σ H xs us Q I r h
 obtain⟨a,bs,rfl,hq,q⟩:=h
 obtain⟨u,rfl,rx⟩:=vals1 r
 cases rx
 exact call_any_walk (ql hc I hq (f:=fun bs=>bs.any id) (g:=fun tr n=>(List.range n).any tr) (range_any bs) q)
theorem Bx:cY X (.type "range") (fun xs H Q=>∃n:Int,xs= [.int n]/\∀p,H p=none->Q (.ref p) (upd H p (.dm 0 n))):=by
 intro pins s σ H xs us Q I r h
 obtain⟨n,rfl,q⟩:=h
 obtain⟨u,rfl,rx⟩:=vals1 r
 obtain⟨t,rfl⟩:=rx
 refine call_range_1 ⟨.ref s.heap.objs.size,upd H s.heap.objs.size (.dm 0 n),?_,rfl,q _ (I.hok.fresh (Nat.le_refl _))⟩
 exact I.laid (fun b o e=>Heap.get?_push_of_some _ e) (Nat.le_refl _) ⟨_,_,_,Heap.get?_push_size _ rfl⟩
theorem rD (hc:X.calm=true):cY X (.type "list") (fun xs H Q=>∃p n,xs= [.ref p]/\H p=some (.dm 0 n)/\0<=n/\n<=1000/\∀l,H l=none->Q (.ref l) (upd H l (.lst ((List.range n.toNat).map fun (i:Nat)=>V.int (i:Int))))):=by
 intro pins s σ H xs us Q I r h
 obtain⟨p,n,rfl,hp,h0,h1,q⟩:=h
 obtain⟨u,rfl,rx⟩:=vals1 r
 cases rx
 obtain⟨t,u,v,hr⟩:∃t u v,s.heap.get? p=some {cls:=.type "range",data:=.fields #[.int 0 t,.int n u,.int 1 v]}:=I.hok p _ hp
 have hsz:Builtin.Range.rangeSize 0 n 1=(n.toNat:Int):=by rw[rangeSize_one];split <;> omega
 refine call_list_range (I.ok.hd hc) hr (small_one (by omega) (by omega) (by omega) (by omega)) hsz (by omega) fun h' tk acc c k hS hacc=>?_
 have hv:Vals ((List.range n.toNat).map fun (i:Nat)=>V.int (i:Int)) acc.toList:=by
  have key:∀(m:Nat) (us:List Value) (j:Nat),us.length=m->(∀(i:Nat) (v:Value),us[i]? =some v->∃t,v=Value.int ((j + i:Nat):Int) t)->Vals ((List.range' j m).map fun (i:Nat)=>V.int (i:Int)) us:=by
   intro m
   induction m with
   |zero=>intro us j hl _;cases us with
    |nil=>exact .nil
    |cons a b=>simp at hl
   |succ m ih=>
    intro us j hl hh
    cases us with
    |nil=>simp at hl
    |cons u us=>
     rw[List.range'_succ,map_cons]
     refine .cons (by have:=hh 0 u rfl;simp at this;exact this) (ih us (j + 1) (by simpa using hl) fun i v hi=>?_)
     obtain⟨t,e⟩:=hh (i + 1) v (by simpa using hi)
     exact⟨t,by rw[e];congr 2;omega⟩
  have:=key n.toNat acc.toList 0 (by simpa using hacc.1) fun i v hi=>by
   obtain⟨t,e⟩:=hacc.2 i v (by simpa using hi)
   exact⟨t,by rw[e];simp⟩
  rw[List.range_eq_range'];exact this
 refine⟨.ref s.heap.objs.size,_,I.laid (t':=tk) k (Nat.le_refl _) (show cL X.prog X.w _ h' _ (.lst _) from⟨by simp;rw[sizeLine_eq];omega,acc.toList,c,hv,by simpa using hS⟩),rfl,q _ (I.hok.fresh (Nat.le_refl _))⟩
end
def Rc (h:Heap)(e:Addr)(cls:Value)(T:Addr)(fl:Value):Prop:=∃oe vs oT ts,h.get? e=some oe/\oe.cls=cls/\oe.dict=none/\oe.data=.fields vs/\vs[1]? =some (.ref T)/\T≠e/\h.get? T=some oT/\oT.data=.fields ts/\ts[3]? =some fl
abbrev Keeps (F:List Addr)(ch:List Addr)(h h':Heap):Prop:=∀b o,h.get? b=some o->b∉F->b∉ch->h'.get? b=some o
abbrev Slots (F:List Addr)(h h':Heap):Prop:=∀b o,h.get? b=some o->b∈F->∃sl,h'.get? b=some {o with slots:=sl}
section
variable {M:Model}{A:Around}{E:Value->Shared->Prop}{s:Shared}{base:Heap}{env:Env}{outer:List Env}{L e:Addr}{cls:Value}{Q:Unit->Shared->Prop}
theorem Cg {oe:Obj}{vs:Array Value}{head:Value}{hadNext:Bool}(hfr:A.frames=some (env :: outer))(hl:s.heap.FunFrames base (env :: outer))(hf:env.frame=some L)(he:s.heap.get? e=some oe)(hc:oe.cls=cls)(hdd:oe.dict=none)(hd:oe.data=.fields vs)(hsz:1 < vs.size)
  (h:∀h' T,Keeps (jU (env :: outer)) [e] s.heap h'->Slots (jU (env :: outer)) s.heap h'->s.heap.get? T=none->Rc h' e cls T (rawInt L)->Q () {s with heap:=h'}) :
  wpAny M A (do let a <-frameOf env;let pl <-entryPlaceOf L hadNext;let b <-EntryCells.newEntry head a .none (rawInt L) .none pl;setField (.ref e) 1 b) Q E s:=by
 have eF:e∉jU (env :: outer):=fun z=>by
  obtain⟨_,o,q,n⟩:=hl.mem z
  rw[he] at q;cases q;exact n _ hd
 refine wpAny_bind (wpAny_frameOf_fun hfr hl hf fun h1 s1=>?_)
 refine wpAny_bind (wpAny_entryPlaceOf fun pl hpl=>?_)
 unfold EntryCells.newEntry newFields
 refine wpAny_bind (wpAny_newObj_type ?_ (hpl.sizeOk5 _ _ _ _ _))
 have e1:h1.get? e=some oe:=(s1.2.1 e eF).trans he
 have e2:=Heap.get?_push_of_some (h:=h1) {cls:=.type "traceback",dict:=none,data:=.fields ([head,.ref L,.none,rawInt L,.none] ++ (if pl.isEmpty then List.replicate 6 Value.none else pl)).toArray} e1
 have tn:h1.objs.size≠e:=Nat.ne_of_gt (Heap.lt_size e1)
 refine wpAny_setField e2 hd hsz (h _ h1.objs.size (fun b o q hb hn=>?_) (fun b o q hb=>?_) ?_ ?_)
 ·have hbe:b≠e:=by simpa using hn
  have q1:h1.get? b=some o:=(s1.2.1 b hb).trans q
  rw[Heap.get?_update_other _ _ (Ne.symm hbe)]
  exact Heap.get?_push_of_some _ q1
 ·obtain⟨sl,q1⟩:=s1.2.2 b o q
  have hbe:b≠e:=fun z=>eF (z▸hb)
  refine⟨sl,?_⟩
  rw[Heap.get?_update_other _ _ (Ne.symm hbe)]
  exact Heap.get?_push_of_some _ q1
 ·cases q:s.heap.get? h1.objs.size with
  |none=>rfl
  |some o=>obtain⟨sl,q1⟩:=s1.2.2 _ o q;exact absurd (Heap.lt_size q1) (Nat.lt_irrefl _)
 ·have d3:=Obj.data_mapFields hd (·.setIfInBounds 1 (Value.ref h1.objs.size))
  have e3:=Heap.get?_update_self (Obj.mapFields (·.setIfInBounds 1 (Value.ref h1.objs.size))) e2 (Obj.isFreed_of_fields d3)
  refine⟨_,_,_,_,e3,(Obj.cls_mapFields _ _).trans hc,?_,d3,by simp[hsz],tn,(Heap.get?_update_other _ _ (Ne.symm tn)).trans (Heap.get?_push_size h1 rfl),rfl,?_⟩
  ·unfold Obj.mapFields
   split <;> exact hdd
  ·rcases hpl with rfl | ⟨_,_,_,_,_,_,_,rfl⟩ <;> simp
theorem xk {oe:Obj}{vs:Array Value}(hfr:A.frames=some (env :: outer))(hl:s.heap.FunFrames base (env :: outer))(hf:env.frame=some L)(he:s.heap.get? e=some oe)(hc:oe.cls=cls)(hdd:oe.dict=none)(hd:oe.data=.fields vs)(h1:vs[1]? =some .none)
  (h:∀h' T,Keeps (jU (env :: outer)) [e] s.heap h'->Slots (jU (env :: outer)) s.heap h'->s.heap.get? T=none->Rc h' e cls T (rawInt L)->Q () {s with heap:=h'}):wpAny M A (noteFrame (.ref e) env) Q E s:=by
 unfold noteFrame
 simp only[hf]
 refine wpAny_bind (wpAny_field he hd h1 ?_)
 rw[if_neg (by decide)]
 exact Cg hfr hl hf he hc hdd hd (Array.getElem?_eq_some_iff.mp h1).1 h
theorem zo {T0:Addr}(hfr:A.frames=some (env :: outer))(hl:s.heap.FunFrames base (env :: outer))(hf:env.frame=some L)(r:Rc s.heap e cls T0 .none)
  (h:∀h' T,Keeps (jU (env :: outer)) [e,T0] s.heap h'->Slots (jU (env :: outer)) s.heap h'->(s.heap.get? T=none\/T=T0)->Rc h' e cls T (rawInt L)->Q () {s with heap:=h'}):wpAny M A (noteFrame (.ref e) env) Q E s:=by
 obtain⟨oe,vs,oT,ts,he,hc,hdd,hd,h1,hTe,hT,hdT,h3⟩:=r
 have tF:T0∉jU (env :: outer):=fun z=>by
  obtain⟨_,o,q,n⟩:=hl.mem z
  rw[hT] at q;cases q;exact n _ hdT
 unfold noteFrame
 simp only[hf]
 refine wpAny_bind (wpAny_field he hd h1 ?_)
 rw[if_pos (show (Value.ref T0 != Value.none)=true from by simp)]
 refine wpAny_bind (wpAny_field hT hdT h3 ?_)
 rw[if_neg (show ¬((Value.none == rawInt L)=true) from by simp[rawInt])]
 refine wpAny_bind (wpAny_setField hT hdT (Array.getElem?_eq_some_iff.mp h3).1 ?_)
 have oth:∀b,b≠T0->(s.heap.update T0 (Obj.mapFields (·.setIfInBounds 3 Value.none))).get? b=s.heap.get? b:=fun b hb=>Heap.get?_update_other _ _ (Ne.symm hb)
 have nf:∀b o,s.heap.get? b=some o->(∀ws,o.data≠.fields ws)->b≠T0:=fun b o q n z=>by
  rw[z,hT] at q;cases q;exact n _ hdT
 refine Cg (base:=base) hfr (hl.of_keeps fun b o q n=>⟨o,(oth b (nf b o q n)).trans q,rfl⟩) hf ((oth e (Ne.symm hTe)).trans he) hc hdd hd (Array.getElem?_eq_some_iff.mp h1).1 fun h' T kp sl tn rc=>?_
 refine h h' T (fun b o q hb hn=>?_) (fun b o q hb=>?_) ?_ rc
 ·simp only[mem_cons,not_mem_nil,or_false,not_or] at hn
  exact kp b o ((oth b hn.2).trans q) hb (by simp[hn.1])
 ·exact sl b o ((oth b fun z=>tF (z▸hb)).trans q) hb
 ·by_cases z:T=T0
  ·exact .inr z
  ·exact .inl ((oth T z).symm.trans tn)
theorem yv {T:Addr}{fl:Value}(r:Rc s.heap e cls T fl)(h:∀h',Keeps [] [T] s.heap h'->Rc h' e cls T .none->Q () {s with heap:=h'}):wpAny M A (setFlight (.ref e) none) Q E s:=by
 obtain⟨oe,vs,oT,ts,he,hc,hdd,hd,h1,hTe,hT,hdT,h3⟩:=r
 have sz:3 < ts.size:=(Array.getElem?_eq_some_iff.mp h3).1
 unfold setFlight
 refine wpAny_bind (wpAny_field he hd h1 ?_)
 rw[if_pos (show (Value.ref T != Value.none)=true from by simp)]
 refine wpAny_setField hT hdT sz (h _ (fun b o q _ hn=>?_) ?_)
 ·have hb:b≠T:=by simpa using hn
  exact (Heap.get?_update_other _ _ (Ne.symm hb)).trans q
 ·have d3:=Obj.data_mapFields hdT (·.setIfInBounds 3 ((none:Option Addr).elim Value.none fun f=>rawInt f))
  exact⟨oe,vs,_,_,(Heap.get?_update_other _ _ hTe).trans he,hc,hdd,hd,h1,hTe,Heap.get?_update_self _ hT (Obj.isFreed_of_fields d3),d3,by simp[sz]⟩
end
section
variable {P:Program}{w:World}
theorem cL.there {H:Hp}{h:Heap}{a:Addr}{o:HO}(x:cL P w H h a o):∃u,h.get? a=some u:=by
 cases o with
 |lst xs=>obtain⟨_,_,_,_,e⟩:=x;exact⟨_,e⟩
 |tup xs=>obtain⟨_,_,_,u,e,_⟩:=x;exact⟨u,e⟩
 |dK kvs=>obtain⟨_,_,_,_,o,_,_,e,_⟩:=x;exact⟨_,e⟩
 |dT kvs=>obtain⟨_,_,_,_,o,_,_,e,_⟩:=x;exact⟨_,e⟩
 |set S n=>obtain⟨o,_,_,_,e,_⟩:=x;exact⟨_,e⟩
 |ins C dx fs=>obtain⟨_,_,_,e,_⟩:=x;exact⟨_,e⟩
 |own y=>obtain⟨_,e⟩:=x;exact⟨_,e⟩
 |xd fs=>obtain⟨_,⟨_,_,_,e,_⟩,_⟩:=x;exact⟨_,e⟩
 |dm lo hi=>obtain⟨_,_,_,e⟩:=x;exact⟨_,e⟩
 |bp ob u=>obtain⟨e,_⟩:=x;exact⟨_,e⟩
 |tbl ps=>exact⟨_,show h.get? a=some _ from x⟩
 |met f y=>exact⟨_,show h.get? a=some _ from x⟩
 |ext φ=>obtain⟨_,⟨_,e⟩,_⟩:=x;exact⟨_,e⟩
end
structure Lies (h₀:Heap)(H:Hp)(h:Heap)(e:Addr)(cls:Value):Prop where
 free:H e=none
 new:h₀.get? e=none
 ob:∃T,Rc h e cls T .none/\H T=none/\h₀.get? T=none
def oZ (P:Program)(w:World):z8:=fun outer H s E e s'=>∃ea cls H',e=.ref ea/\s'.os=s.os/\AllBare s'.gens/\Un (jU outer) [] H H' s.heap s'.heap/\mR P w H' s'.heap/\Lies s.heap H' s'.heap ea cls/\E cls none H'
section
variable {P:Program}{w:World}{M:Model}{A:Around}{E':Value->Shared->Prop}{s:Shared}{env:Env}{outer:List Env}{L e:Addr}{cls:Value}{base h₀:Heap}{H:Hp}{Q:Unit->Shared->Prop}
theorem vS {h h':Heap}(hok:mR P w H h)(k:∀b o,h.get? b=some o->(∃u,H b=some u)->h'.get? b=some o):mR P w H h':=fun a o ha=>
 (hok a o ha).stay (fun b u hb q=>k b u q (hb.elim (fun z=>⟨o,by rw[z];exact ha⟩) fun z=>⟨_,z⟩)) (fun _ q=>q) fun _ _ q=>q
theorem BN (hfr:A.frames=some (env :: outer))(hf:env.frame=some L)(hfn:s.heap.FunFrames base (env :: outer))(hok:mR P w H s.heap)(hff:∀b∈jU (env :: outer),H b=none)(Ly:Lies h₀ H s.heap e cls)(hex:∀b o,h₀.get? b=some o->∃o',s.heap.get? b=some o')
  (hQ:∀h',(∀b o,s.heap.get? b=some o->b∉jU (env :: outer)->((∃o0,h₀.get? b=some o0)\/∃u,H b=some u)->h'.get? b=some o)->(∀b o,s.heap.get? b=some o->b∈jU (env :: outer)->∃sl,h'.get? b=some {o with slots:=sl})->Lies h₀ H h' e cls->mR P w H h'->Q () {s with heap:=h'}) :
  wpAny M A (leaving env (.ref e)) Q E' s:=by
 obtain⟨fr,nw,T0,rc,hHT,hnT⟩:=Ly
 obtain⟨oe,vs,oT,ts,he,hc,hdd,hd,h1,hTe,hT,hdT,h3⟩:=id rc
 have tF:T0∉jU (env :: outer):=fun z=>by
  obtain⟨_,o,q,n⟩:=hfn.mem z
  rw[hT] at q;cases q;exact n _ hdT
 unfold leaving
 refine wpAny_bind (zo hfr hfn hf rc fun h4 T kp sl tn rc4=>yv rc4 fun h5 kp5 rc5=>?_)
 have nT:∀b o,s.heap.get? b=some o->b≠T0->b≠T:=fun b o q n z=>by
  rcases tn with tn |tn
  ·rw[z,tn] at q;cases q
  ·exact n (z.trans tn)
 have kept:∀b o,s.heap.get? b=some o->b∉jU (env :: outer)->((∃o0,h₀.get? b=some o0)\/∃u,H b=some u)->h5.get? b=some o:=fun b o q hb hor=>by
  have be:b≠e:=fun z=>by subst z;rcases hor with⟨_,z⟩ | ⟨_,z⟩ <;> simp_all
  have bT:b≠T0:=fun z=>by subst z;rcases hor with⟨_,z⟩ | ⟨_,z⟩ <;> simp_all
  exact kp5 b o (kp b o q hb (by simp[be,bT])) (by simp) (by simp[nT b o q bT])
 have slot:∀b o,s.heap.get? b=some o->b∈jU (env :: outer)->∃sl,h5.get? b=some {o with slots:=sl}:=fun b o q hb=>by
  obtain⟨x,q4⟩:=sl b o q hb
  exact⟨x,kp5 b _ q4 (by simp) (by simp[nT b o q fun z=>tF (z▸hb)])⟩
 have fresh:H T=none/\h₀.get? T=none:=by
  rcases tn with tn |tn
  ·refine⟨?_,?_⟩
   ·cases q:H T with
    |none=>rfl
    |some u=>obtain⟨o,qo⟩:=(hok T u q).there;rw[tn] at qo;cases qo
   ·cases q:h₀.get? T with
    |none=>rfl
    |some u=>obtain⟨o,qo⟩:=hex T u q;rw[tn] at qo;cases qo
  ·rw[tn];exact⟨hHT,hnT⟩
 refine hQ h5 kept slot ⟨fr,nw,T,rc5,fresh.1,fresh.2⟩ (vS hok fun b o q hu=>kept b o q (fun z=>?_) (.inr hu))
 obtain⟨u,hu⟩:=hu
 rw[hff b z] at hu;cases hu
theorem xy {h:Heap}{args:List Value}(hfr:A.frames=some (env :: outer))(hf:env.frame=some L)(hfn:h.FunFrames base (env :: outer))(hok:mR P w H h)(hff:∀b∈jU (env :: outer),H b=none)(hex:∀b o,h₀.get? b=some o->∃o',h.get? b=some o')(hx:Heap.MadeExcOf h s.heap e cls args)
  (hQ:∀h',(∀b o,h.get? b=some o->b∉jU (env :: outer)->h'.get? b=some o)->(∀b o,h.get? b=some o->b∈jU (env :: outer)->∃sl,h'.get? b=some {o with slots:=sl})->Lies h₀ H h' e cls->mR P w H h'->Q () {s with heap:=h'}) :
  wpAny M A (leaving env (.ref e)) Q E' s:=by
 obtain⟨t,he,_,_⟩:=hx.there
 unfold leaving
 refine wpAny_bind (xk (cls:=cls) hfr (hfn.of_keeps fun b o q _=>⟨o,hx.keeps b o q,rfl⟩) hf he rfl rfl rfl rfl fun h4 T kp sl tn rc4=>yv rc4 fun h5 kp5 rc5=>?_)
 have ne:∀b o,h.get? b=some o->b≠e:=fun b o q z=>by rw[z,hx.new] at q;cases q
 have nT:∀b o,h.get? b=some o->b≠T:=fun b o q z=>by
  have:=hx.keeps b o q
  rw[z,tn] at this;cases this
 have kept:∀b o,h.get? b=some o->b∉jU (env :: outer)->h5.get? b=some o:=fun b o q hb=>kp5 b o (kp b o (hx.keeps b o q) hb (by simp[ne b o q])) (by simp) (by simp[nT b o q])
 have slot:∀b o,h.get? b=some o->b∈jU (env :: outer)->∃sl,h5.get? b=some {o with slots:=sl}:=fun b o q hb=>by
  obtain⟨x,q4⟩:=sl b o (hx.keeps b o q) hb
  exact⟨x,kp5 b _ q4 (by simp) (by simp[nT b o q])⟩
 have fresh:∀{b:Addr},h.get? b=none->H b=none/\h₀.get? b=none:=fun {b} hb=>by
  refine⟨?_,?_⟩
  ·cases q:H b with
   |none=>rfl
   |some u=>obtain⟨o,qo⟩:=(hok b u q).there;rw[hb] at qo;cases qo
  ·cases q:h₀.get? b with
   |none=>rfl
   |some u=>obtain⟨o,qo⟩:=hex b u q;rw[hb] at qo;cases qo
 have no:h.get? T=none:=by
  cases q:h.get? T with
  |none=>rfl
  |some o=>exact absurd rfl (nT T o q)
 obtain⟨f1,f2⟩:=fresh hx.new
 obtain⟨g1,g2⟩:=fresh no
 refine hQ h5 kept slot ⟨f1,f2,T,rc5,g1,g2⟩ (vS hok fun b o q hu=>kept b o q fun z=>?_)
 obtain⟨u,hu⟩:=hu
 rw[hff b z] at hu;cases hu
end
section
variable {P:Program}{w:World}{K:Frag}{mg:Str->Option Value}{base:Heap}{N:List Str}{qual:Str}{scope:Scope}{f:Addr}{cd:Value}{A:Around}{outer:List Env}{s0:Shared}{H0:Hp}{E:XK}
theorem bc:Passes (oZ P w) (mi (oZ P w) P w K mg base N qual scope f cd A outer s0 H0 E) E:=by
 intro pins σ H s e s' I hcx
 obtain⟨ea,cls,H',rfl,os,bare,un,hok,Ly,q⟩:=hcx
 have I':=I.call' os un hok bare (fun b hb=>absurd hb (by simp))
 have old:∀{b:Addr},s.heap.get? b=none->s0.heap.get? b=none:=fun {b} hb=>by
  cases z:s0.heap.get? b with
  |none=>rfl
  |some o=>obtain⟨o',z'⟩:=I.base.there b o z (show b∉([]:List Addr) by simp);rw[hb] at z';cases z'
 have Ly0:Lies s0.heap H' s'.heap ea cls:=by
  obtain⟨fr,nw,T,rc,hHT,hnT⟩:=Ly
  exact⟨fr,old nw,T,rc,hHT,old hnT⟩
 have above:s0.heap.objs.size<=(envOfC qual scope s0.heap.objs.size f cd).locals:=I.ok.above
 refine BN (base:=base) (h₀:=s0.heap) I'.ok.frames rfl I'.stack I'.hok I'.stkFree Ly0 (fun b o z=>I'.base.there b o z (show b∉([]:List Addr) by simp)) fun h' kept slot Ly' hok'=>?_
 have nL:∀{b:Addr} {o:Obj},s0.heap.get? b=some o->b∉jU outer->b∉jU (envOfC qual scope s0.heap.objs.size f cd :: outer):=fun {b o} z hb hm=>by
  rcases mem_cons.mp (I'.stkSub b hm) with e |e
  ·have:=Heap.lt_size z
   rw[e] at this
   exact absurd (Nat.lt_of_lt_of_le this above) (Nat.lt_irrefl _)
  ·exact hb e
 have inn:∀{b:Addr},b∈jU outer->b∈jU (envOfC qual scope s0.heap.objs.size f cd :: outer):=fun {b} hb=>by
  obtain⟨en,h1,h2⟩:=mem_filterMap.mp hb
  exact mem_filterMap.mpr ⟨en,mem_cons_of_mem _ h1,h2⟩
 refine⟨ea,cls,H',rfl,os.trans I.os,bare,⟨fun b o z n hb _=>?_,fun b o z n hb _=>?_,fun b o z n _=>I'.base.free b o z n (show b∉([]:List Addr) by simp),fun b o z _=>?_,I'.base.tups,I'.base.frzs,I'.base.tbls⟩,hok',Ly',q⟩
 ·exact kept b o (I'.base.keep b o z n hb (show b∉([]:List Addr) by simp)) (nL z hb) (.inl ⟨o,z⟩)
 ·obtain⟨sl,z1⟩:=I'.base.slot b o z n hb (show b∉([]:List Addr) by simp)
  obtain⟨sl2,z2⟩:=slot b _ z1 (inn hb)
  exact⟨sl2,z2⟩
 ·obtain⟨o',z1⟩:=I'.base.there b o z (show b∉([]:List Addr) by simp)
  by_cases hb:b∈jU (envOfC qual scope s0.heap.objs.size f cd :: outer)
  ·obtain⟨sl,z2⟩:=slot b o' z1 hb
   exact⟨_,z2⟩
  ·exact⟨o',kept b o' z1 hb (.inl ⟨o,z⟩)⟩
def Fu (C:Addr)(E:XK)(t:TA):TS:=fun _ σ H=>t σ H fun vs H1=>vs.length<=sizeLine/\E (.ref C) none H1
theorem Cq {x:Str}{C:Addr}{np cpos pos:Pos}{e0:Expr}{es:List Expr}{t:TA}{Bn newId initId:String}{bmB:List Value}(FB:ExcBaseFacts Bn newId initId bmB)(hbb:bmB.contains (.type "BaseException")=true)(q:PySem.W.excIn K C bmB newId=true)
  (hg:Gl (mi (oZ P w) P w K mg base N qual scope f cd A outer s0 H0 E) x) (hm:mg x=some (.ref C)) (ha:PA (mi (oZ P w) P w K mg base N qual scope f cd A outer s0 H0 E) (e0 :: es) t)
  (he:starEach (e0 :: es) (envOfC qual scope s0.heap.objs.size f cd)=(false,eval e0 (envOfC qual scope s0.heap.objs.size f cd)) :: starEach es (envOfC qual scope s0.heap.objs.size f cd):=by rfl)
  (hpl:(backTo cpos (starEach es (envOfC qual scope s0.heap.objs.size f cd))).any (·.1)=false:=by rfl) (hdb:(x == ("__debug__":Str))=false:=by decide) :
  PS (mi (oZ P w) P w K mg base N qual scope f cd A outer s0 H0 E) (.Raise (some (.Call (.Name x np) (e0 :: es) [] cpos)) none pos) (Fu C E t):=by
 intro pins s σ H D I h
 have own:∀{hh:Heap},K.In hh->∃bm Nn nm qn bs hdct sn sub ab col dd k0 k1 k2 k3 k5 mN,hh.get? C=some (excClassObj nm qn C Nn bs bm hdct sn sub ab col dd k0 k1 k2 k3 k5 newId)/\hh.Ns Nn mN/\mN "__init__"=none/\OwnTail hh bmB bm:=fun {hh} X=>by
  have q:=q
  unfold PySem.W.excIn at q
  split at q
  ·rename_i dd cdd sl ho
   split at q
   ·rename_i C' bm k0 k1 k2 k3 n k5 hm hs
    simp only[Bool.and_eq_true,beq_iff_eq,Bool.not_eq_true'] at q
    obtain⟨⟨⟨⟨⟨rfl,rfl⟩,hdel⟩,ht⟩,hok⟩,hni⟩:=q
    obtain⟨nm,bs,mro,ns,qn,hd,sn,sub,ab,col,del⟩:=cdd
    dsimp only at hm hdel hok hni
    subst hm hdel
    have hsl:sl=#[k0,k1,k2,k3,some (.builtin n),k5]:=by
     obtain⟨l⟩:=sl
     simp only at hs
     rw[hs]
    subst hsl
    exact⟨bm,ns,nm,qn,bs,hd,sn,sub,ab,col,dd,k0,k1,k2,k3,k5,_,X _ _ ho,.of_isNs (PySem.W.isNs_of_in X hok),PySem.W.nsMap_none_of_in X hok hni,PySem.W.tail_of_in X ht⟩
   ·cases q
  ·cases q
 obtain⟨bm,Nn,nm,qn,bs,hdct,sn,sub,ab,col,dd,k0,k1,k2,k3,k5,mN,hC,hN,hni,TL⟩:=own I.ok.mod.kin
 have hA:=ha cpos pins s σ H _ I h
 refine wpAny_Raise_call_subT (C:=C) (nm:=nm) (q:=qn) (N:=Nn) (bs:=bs) (bm:=bm) (hdct:=hdct) (sn:=sn) (sub:=sub) (ab:=ab) (col:=col) (dd:=dd) (k0:=k0) (k1:=k1) (k2:=k2) (k3:=k3) (k5:=k5) FB (mN:=mN) (TL.hasType hbb) (I.ok.hd rfl) ?_ hni (ua I hg hm ⟨rfl,?_⟩ hdb)
 ·show (backTo cpos (starEach (e0 :: es) (envOfC qual scope s0.heap.objs.size f cd))).any (·.1)=false
  rw[he]
  show (false || (backTo cpos (starEach es (envOfC qual scope s0.heap.objs.size f cd))).any (·.1))=false
  rw[hpl];rfl
 have hA:wpAny _ _ (spliced (backTo cpos (starEach (e0 :: es) (envOfC qual scope s0.heap.objs.size f cd)))) _ _ s:=hA
 show wpAny _ _ (evalArgs (.ref C) true (backTo cpos (starEach (e0 :: es) (envOfC qual scope s0.heap.objs.size f cd))) []) _ _ s
 rw[he] at hA ⊢
 refine Calls.evalArgs_plain (cS hA fun us s2 ⟨vs,H2,I2,r2,hl2,q2⟩=>⟨rfl,by show us.length<=_;rw[<-r2.length];exact hl2,I2.bk _ _ hC,hN.keeps I2.bk,TL.keeps I2.bk,fun h' e hx=>?_⟩)
 have above:s0.heap.objs.size<=(envOfC qual scope s0.heap.objs.size f cd).locals:=I2.ok.above
 have nil:∀b:Addr,b∉([]:List Addr):=fun b=>by simp
 refine xy (s:={s2 with heap:=h'}) (h:=s2.heap) (base:=base) (h₀:=s0.heap) I2.ok.frames rfl I2.stack I2.hok I2.stkFree (fun b o z=>I2.base.there b o z (nil b)) hx fun h2 kept slot Ly hok=>?_
 have nL:∀{b:Addr} {o:Obj},s0.heap.get? b=some o->b∉jU outer->b∉jU (envOfC qual scope s0.heap.objs.size f cd :: outer):=fun {b o} z hb hm=>by
  rcases mem_cons.mp (I2.stkSub b hm) with e |e
  ·have:=Heap.lt_size z
   rw[e] at this
   exact absurd (Nat.lt_of_lt_of_le this above) (Nat.lt_irrefl _)
  ·exact hb e
 have inn:∀{b:Addr},b∈jU outer->b∈jU (envOfC qual scope s0.heap.objs.size f cd :: outer):=fun {b} hb=>by
  obtain⟨en,h1,h2⟩:=mem_filterMap.mp hb
  exact mem_filterMap.mpr ⟨en,mem_cons_of_mem _ h1,h2⟩
 refine⟨e,.ref C,H2,rfl,I2.os,I2.bare,⟨fun b o z n hb _=>?_,fun b o z n hb _=>?_,fun b o z n _=>I2.base.free b o z n (nil b),fun b o z _=>?_,I2.base.tups,I2.base.frzs,I2.base.tbls⟩,hok,Ly,q2⟩
 ·exact kept b o (I2.base.keep b o z n hb (nil b)) (nL z hb)
 ·obtain⟨sl,z1⟩:=I2.base.slot b o z n hb (nil b)
  obtain⟨sl2,z2⟩:=slot b _ z1 (inn hb)
  exact⟨sl2,z2⟩
 ·obtain⟨o',z1⟩:=I2.base.there b o z (nil b)
  by_cases hb:b∈jU (envOfC qual scope s0.heap.objs.size f cd :: outer)
  ·obtain⟨sl,z2⟩:=slot b o' z1 hb
   exact⟨_,z2⟩
  ·exact⟨o',kept b o' z1 hb⟩
end
def mroIn (K:Frag)(C:Addr):List Value:=match K.lookup C with
 |some ⟨_,_,.cls cd,_⟩=>cd.mro
 |_=>[]
structure Bd (k:Nat)(A:Around):Prop where
 dp:A.depth + 3 * k + 5 < recursionLimit
 un:A.units + 16 * k + 200 < cLine
 gd:A.guards=some []
theorem gy.h {k:Nat}{A:Around}(r:gy k A):Bd k A:=⟨r.dp,r.un,r.gd⟩
theorem Bd.units {k:Nat}{A:Around}(r:Bd k A):A.units + 64 < cLine:=by have:=r.un;omega
section
variable {P:Program}{w:World}{K:Frag}{mg:Str->Option Value}{base:Heap}
theorem CI.Aj {x qual:Str}{st:Stmt}{f:Addr}{fd:FuncData}{N ps:List Str}{k:Nat}{sp:Sp}(F:CI K x qual st f fd)(S:aJ N ps (av st))(len:∀vs H Q E,sp vs H Q E->vs.length=ps.length)
  (hbody:∀(cdv:Value) (A:Around) (outer:List Env) (s:Shared) (H:Hp) (vs:List V) (Q:VK) (E:XK),gy k (A.deeper (envOfC qual (av st) s.heap.objs.size f cdv))->sp vs H Q E->
   ∃t,sf (mi (oZ P w) P w K mg base N qual (av st) f cdv A outer s H E) (df st) t/\t {nx:=fun _ H'=>Q .non H',rt:=Q} (start N vs) H):gP P w K mg base (oZ P w) (k + 1) f fd ps sp:=by
 obtain⟨oc,od,kV,doc,pm,an,cdv,ct,osl,rfl,lk,hcd⟩:=F.ex
 exact ES lk hcd S len fun A outer s H vs Q E hr hsp=>hbody cdv A outer s H vs Q E hr hsp
end
section
variable {X:Cx}
theorem dt (hu:X.A.units + 100 < cLine):mw X (compareOp .NotIn) (GK X.K true):=by
 intro pins s σ H x y v u Q I rx ry h
 obtain⟨p,xs,d,ds,rfl,hq,hs,hx,s1,s2,q⟩:=h
 cases ry
 obtain⟨bs,r2⟩:=hx.reads I rx
 have key:∀{e:PyData} {as:List Addr} {u:Value},SeqAt.shaped e=true->Reads s.heap u e as->SeqAt.EqAt X.A.in1 s u v (PyData.eqv e d):=fun {e as u} h1 h2=>by
  refine SeqAt.eqAt_reads _ _ _ _ _ _ _ _ h2 r2 (SeqAt.canLay_of_shaped h1) (SeqAt.canLay_of_shaped s1) ?_
  have:=SeqAt.depth_of_shaped h1
  show X.A.units + 1 + _ < _
  omega
 rcases hq with hq |hq
 ·obtain⟨its,r,pl,hz⟩:=I.list hq
  obtain⟨f,e1,e2⟩:=nJ I d r hs s2
  refine SeqAt.notIn_listAt f pl.isList (fun w hw=>?_) ⟨.bl _,H,I,rfl,?_⟩
  ·obtain⟨e,as,hm,rd,ef⟩:=e2 w (by simpa using hw)
   rw[ef];exact key (s2 e hm) rd
  ·rw[show its.toArray.any f=its.any f by simp,e1];exact q
 ·obtain⟨its,r,pl,hz⟩:=I.tuple hq
  obtain⟨f,e1,e2⟩:=nJ I d r hs s2
  refine SeqAt.notIn_tupleAt f pl (fun w hw=>?_) ⟨.bl _,H,I,rfl,?_⟩
  ·obtain⟨e,as,hm,rd,ef⟩:=e2 w (by simpa using hw)
   rw[ef];exact key (s2 e hm) rd
  ·rw[show its.toArray.any f=its.any f by simp,e1];exact q
end
abbrev D:=PyData
def kD:Key->D
 | .inl i=>.int i
 | .inr x=>.str x
mutual
inductive Rp (K:Frag)(G:Hp):V->D->Prop
 |non:Rp K G .non .none
 |bl (b:Bool):Rp K G (.bl b) (.bool b)
 |int (i:Int):Rp K G (.int i) (.int i)
 |str (x:Str):Rp K G (.str x) (.str x)
 |tup {a:Addr} {xs:List V} {ds:List D}:gJ K G a xs->cB K G xs ds->Rp K G (.ref a) (.tuple ds)
 |lst {a:Addr} {xs:List V} {ds:List D}:G a=some (.lst xs)->cB K G xs ds->Rp K G (.ref a) (.list ds)
 |scr {a:Addr} {ns:List Int}:hX K G a (ns.map V.int)->Rp K G (.ref a) (.dict [(.none,.list (ns.map int))])
 |dK {a:Addr} {kvs:List (Key×V)} {ds:List (D×D)}:G a=some (.dK kvs)->Ak K G kvs ds->Rp K G (.ref a) (.dict ds)
 |dT {a:Addr} {kvs:List (List Key×V)} {ds:List (D×D)}:G a=some (.dT kvs)->Al K G kvs ds->Rp K G (.ref a) (.dict ds)
inductive cB (K:Frag)(G:Hp):List V->List D->Prop
 |nil:cB K G [] []
 |cons {x:V} {xs:List V} {d:D} {ds:List D}:Rp K G x d->cB K G xs ds->cB K G (x :: xs) (d :: ds)
inductive Ak (K:Frag)(G:Hp):List (Key×V)->List (D×D)->Prop
 |nil:Ak K G [] []
 |cons {k:Key} {x:V} {xs:List (Key×V)} {d:D} {ds:List (D×D)}:Rp K G x d->Ak K G xs ds->Ak K G ((k,x) :: xs) ((kD k,d) :: ds)
inductive Al (K:Frag)(G:Hp):List (List Key×V)->List (D×D)->Prop
 |nil:Al K G [] []
 |cons {k:List Key} {x:V} {xs:List (List Key×V)} {d:D} {ds:List (D×D)}:Rp K G x d->Al K G xs ds->Al K G ((k,x) :: xs) ((.tuple (k.map kD),d) :: ds)
end
section
variable {K:Frag}{G G' H H':Hp}
theorem Rd.mono {a:Addr}{u:HO}(h:Rd G a u)(s:ax G G'):Rd G' a u:=h.elim (fun e=>.inl (s _ _ e)) fun⟨o,e⟩=>.inr ⟨o,s _ _ e⟩
mutual
theorem Rp.mono (s:ax G G'):∀{x:V} {d:D},Rp K G x d->Rp K G' x d
 |_,_,.non=>.non
 |_,_,.bl b=>.bl b
 |_,_,.int i=>.int i
 |_,_,.str x=>.str x
 |_,_,.tup h hs=>.tup (h.grow s.grow) (cB.mono s hs)
 |_,_,.lst h hs=>.lst (s _ _ h) (cB.mono s hs)
 |_,_,.scr h=>.scr (s.seq h)
 |_,_,.dK h hs=>.dK (s _ _ h) (Ak.mono s hs)
 |_,_,.dT h hs=>.dT (s _ _ h) (Al.mono s hs)
theorem cB.mono (s:ax G G'):∀{xs:List V} {ds:List D},cB K G xs ds->cB K G' xs ds
 |_,_,.nil=>.nil
 |_,_,.cons h hs=>.cons (Rp.mono s h) (cB.mono s hs)
theorem Ak.mono (s:ax G G'):∀{xs:List (Key×V)} {ds:List (D×D)},Ak K G xs ds->Ak K G' xs ds
 |_,_,.nil=>.nil
 |_,_,.cons h hs=>.cons (Rp.mono s h) (Ak.mono s hs)
theorem Al.mono (s:ax G G'):∀{xs:List (List Key×V)} {ds:List (D×D)},Al K G xs ds->Al K G' xs ds
 |_,_,.nil=>.nil
 |_,_,.cons h hs=>.cons (Rp.mono s h) (Al.mono s hs)
end
theorem cB.len:∀{xs:List V} {ds:List D},cB K G xs ds->xs.length=ds.length
 |_,_,.nil=>rfl
 |_,_,.cons _ t=>by simp[cB.len t]
theorem cB.at:∀{xs:List V} {ds:List D} {i:Nat} {d:D},cB K G xs ds->ds[i]? =some d->∃x,xs[i]? =some x/\Rp K G x d
 |_,_,_,_,.nil,e=>by simp at e
 |_,_,0,_,.cons r _,e=>by simp at e;subst e;exact⟨_,rfl,r⟩
 |_,_,i + 1,x,.cons _ t,e=>by
  obtain⟨u,h1,h2⟩:=cB.at (i:=i) (d:=x) t (by simpa using e)
  exact⟨u,by simpa using h1,h2⟩
theorem cB.at':∀{xs:List V} {ds:List D} {i:Nat} {x:V},cB K G xs ds->xs[i]? =some x->∃d,ds[i]? =some d/\Rp K G x d
 |_,_,_,_,.nil,e=>by simp at e
 |_,_,0,_,.cons r _,e=>by simp at e;subst e;exact⟨_,rfl,r⟩
 |_,_,i + 1,x,.cons _ t,e=>by
  obtain⟨u,h1,h2⟩:=cB.at' (i:=i) (x:=x) t (by simpa using e)
  exact⟨u,by simpa using h1,h2⟩
theorem cB.append:∀{xs ys:List V} {ds es:List D},cB K G xs ds->cB K G ys es->cB K G (xs ++ ys) (ds ++ es)
 |_,_,_,_,.nil,s=>s
 |_,_,_,_,.cons r t,s=>.cons r (cB.append t s)
theorem cB.snoc {xs:List V}{ds:List D}{x:V}{d:D}(h:cB K G xs ds)(q:Rp K G x d):cB K G (xs ++ [x]) (ds ++ [d]):=h.append (.cons q .nil)
theorem cB.take:∀{xs:List V} {ds:List D} (n:Nat),cB K G xs ds->cB K G (xs.take n) (ds.take n)
 |_,_,0,_=>.nil
 |_,_,_ + 1,.nil=>.nil
 |_,_,n + 1,.cons r t=>.cons r (cB.take n t)
theorem cB.drop:∀{xs:List V} {ds:List D} (n:Nat),cB K G xs ds->cB K G (xs.drop n) (ds.drop n)
 |_,_,0,r=>r
 |_,_,_ + 1,.nil=>.nil
 |_,_,n + 1,.cons _ t=>cB.drop n t
theorem cB.set {x:V}{d:D}(r:Rp K G x d):∀{xs:List V} {ds:List D} (i:Nat),cB K G xs ds->cB K G (xs.set i x) (ds.set i d)
 |_,_,_,.nil=>.nil
 |_,_,0,.cons _ t=>.cons r t
 |_,_,i + 1,.cons q t=>.cons q (cB.set r i t)
theorem cB.rep {n:Nat}{xs:List V}{ds:List D}(h:cB K G xs ds):cB K G (List.replicate n xs).flatten (List.replicate n ds).flatten:=by
 induction n with
 |zero=>exact .nil
 |succ n ih=>rw[replicate_succ,replicate_succ,flatten_cons,flatten_cons];exact h.append ih
mutual
def Cc:D->Bool
 | .dict _=>false
 | .list ds=>rn ds
 | .tuple ds=>rn ds
 |_=>true
def rn:List D->Bool
 | []=>true
 |d :: ds=>Cc d && rn ds
end
mutual
theorem Rp.rep:∀{x:V} {d:D},Rp K G x d->Cc d=true->Rep K G x d
 |_,_,.non,_=>.non
 |_,_,.bl b,_=>.bl b
 |_,_,.int i,_=>.int i
 |_,_,.str x,_=>.str x
 |_,_,.tup h hs,e=>.tup h (cB.reps hs (by simpa[Cc] using e))
 |_,_,.lst h hs,e=>.lst (.inl (.inl h)) (cB.reps hs (by simpa[Cc] using e))
 |_,_,.scr _,e=>by simp[Cc] at e
 |_,_,.dK _ _,e=>by simp[Cc] at e
 |_,_,.dT _ _,e=>by simp[Cc] at e
theorem cB.reps:∀{xs:List V} {ds:List D},cB K G xs ds->rn ds=true->lM K G xs ds
 |_,_,.nil,_=>.nil
 |_,_,.cons h hs,e=>.cons (Rp.rep h (by simp[rn] at e;exact e.1)) (cB.reps hs (by simp[rn] at e;exact e.2))
end
def Own (K:Frag)(G H:Hp)(a:Addr):D->Prop
 | .list ds=>∃xs,H a=some (.lst xs)/\cB K G xs ds
 | .dict ds=>(∃kvs,H a=some (.dK kvs)/\Ak K G kvs ds)\/∃kvs,H a=some (.dT kvs)/\Al K G kvs ds
 |_=>False
theorem Own.obj {a:Addr}{d:D}(h:Own K G H a d):∃o,H a=some o:=by
 cases d <;> first |exact h.elim |skip
 ·obtain⟨xs,e,_⟩:=h;exact⟨_,e⟩
 ·rcases h with⟨_,e,_⟩ | ⟨_,e,_⟩ <;> exact⟨_,e⟩
theorem Own.mono {a:Addr}{d:D}(h:Own K G H a d)(s:ax G G')(m:∀o,H a=some o->H' a=some o):Own K G' H' a d:=by
 cases d <;> first |exact h.elim |skip
 ·obtain⟨xs,e,r⟩:=h;exact⟨xs,m _ e,r.mono s⟩
 ·rcases h with⟨k,e,r⟩ | ⟨k,e,r⟩
  ·exact .inl ⟨k,m _ e,r.mono s⟩
  ·exact .inr ⟨k,m _ e,r.mono s⟩
theorem Own.rp {a:Addr}{d:D}(h:Own K G H a d)(n:G a=none){G':Hp}(s:ax G G')(e:∀o,H a=some o->G' a=some o):Rp K G' (.ref a) d:=by
 cases d <;> first |exact h.elim |skip
 ·obtain⟨xs,q,r⟩:=h;exact .lst (e _ q) (r.mono s)
 ·rcases h with⟨k,q,r⟩ | ⟨k,q,r⟩
  ·exact .dK (e _ q) (r.mono s)
  ·exact .dT (e _ q) (r.mono s)
def mV (K:Frag)(B:Option Addr)(G H:Hp)(v:V)(d:D):Prop:=Rp K G v d\/∃a,v=.ref a/\B≠some a/\Own K G H a d
def jh (B:Option Addr)(H H':Hp):Prop:=∀b o,H b=some o->B≠some b->H' b=some o
theorem jh.refl (B:Option Addr)(H:Hp):jh B H H:=fun _ _ h _=>h
theorem jh.trans {B:Option Addr}{H1:Hp}(x:jh B H H1)(y:jh B H1 H'):jh B H H':=fun b o h n=>y b o (x b o h n) n
theorem ax.mov (s:ax H H')(B:Option Addr):jh B H H':=fun b o h _=>s b o h
theorem mV.mono {B:Option Addr}{v:V}{d:D}(h:mV K B G H v d)(s:ax G G')(m:jh B H H'):mV K B G' H' v d:=by
 rcases h with h | ⟨a,e,n,h⟩
 ·exact .inl (h.mono s)
 ·exact .inr ⟨a,e,n,h.mono s fun o q=>m a o q n⟩
theorem mV.rpH {B:Option Addr}{v:V}{d:D}(h:mV K B G H v d)(s:ax G H):Rp K H v d:=by
 rcases h with h | ⟨a,rfl,n,h⟩
 ·exact h.mono s
 ·cases d <;> first |exact h.elim |skip
  ·obtain⟨xs,q,r⟩:=h;exact .lst q (r.mono s)
  ·rcases h with⟨k,q,r⟩ | ⟨k,q,r⟩
   ·exact .dK q (r.mono s)
   ·exact .dT q (r.mono s)
theorem mV.list {B:Option Addr}{v:V}{ds:List D}(h:mV K B G H v (.list ds))(s:ax G H):∃a xs,v=.ref a/\Rd H a (.lst xs)/\cB K G xs ds:=by
 rcases h with h | ⟨a,rfl,n,xs,q,r⟩
 ·cases h with
  |lst h r=>exact⟨_,_,rfl,.inl (s _ _ h),r⟩
 ·exact⟨a,xs,rfl,.inl q,r⟩
theorem mV.tuple {B:Option Addr}{v:V}{ds:List D}(h:mV K B G H v (.tuple ds))(s:ax G H):∃a xs,v=.ref a/\gJ K H a xs/\cB K G xs ds:=by
 rcases h with h | ⟨a,rfl,n,h⟩
 ·cases h with
  |tup h r=>exact⟨_,_,rfl,h.grow s.grow,r⟩
 ·exact h.elim
theorem mV.int {B:Option Addr}{v:V}{i:Int}(h:mV K B G H v (.int i)):v=.int i:=by
 rcases h with h | ⟨a,rfl,n,h⟩
 ·cases h;rfl
 ·exact h.elim
theorem mV.bool {B:Option Addr}{v:V}{b:Bool}(h:mV K B G H v (.bool b)):v=.bl b:=by
 rcases h with h | ⟨a,rfl,n,h⟩
 ·cases h;rfl
 ·exact h.elim
theorem mV.str {B:Option Addr}{v:V}{x:Str}(h:mV K B G H v (.str x)):v=.str x:=by
 rcases h with h | ⟨a,rfl,n,h⟩
 ·cases h;rfl
 ·exact h.elim
theorem mV.none {B:Option Addr}{v:V}(h:mV K B G H v .none):v=.non:=by
 rcases h with h | ⟨a,rfl,n,h⟩
 ·cases h;rfl
 ·exact h.elim
end
def Fz:HO->Prop
 | .tup _=>True
 | .bp _ _=>True
 |_=>False
def Mx (H:Hp)(b:Addr):Prop:=H b≠none/\∀o,H b=some o->¬Fz o
theorem Mx.lst {H:Hp}{b:Addr}{xs:List V}(h:H b=some (.lst xs)):Mx H b:=⟨by rw[h];simp,fun ys z=>by rw[h] at z;cases z;exact fun y=>y⟩
theorem Mx.same {H H':Hp}{b:Addr}(h:Mx H b)(m:∀o,H b=some o->H' b=some o):Mx H' b:=by
 obtain⟨h1,h2⟩:=h
 cases e:H b with
 |none=>exact absurd e h1
 |some o=>
  refine⟨by rw[m o e];simp,fun xs z=>?_⟩
  rw[m o e] at z
  cases z
  exact h2 o e
theorem Own.mx {K:Frag}{G H:Hp}{a:Addr}{d:D}(h:Own K G H a d):Mx H a:=by
 cases d <;> first |exact h.elim |skip
 ·obtain⟨xs,e,_⟩:=h;exact Mx.lst e
 ·rcases h with⟨k,e,_⟩ | ⟨k,e,_⟩ <;> exact⟨by rw[e];simp,fun ys z=>by rw[e] at z;cases z;exact fun y=>y⟩
open Classical in
noncomputable def mH (G H:Hp):Hp:=fun b=>match G b with
 |some o=>some o
 |none=>match H b with
  |some o=>if Fz o then some o else none
  |none=>none
theorem sM {G H:Hp}:ax G (mH G H):=fun b o e=>by unfold mH;rw[e]
theorem yV {G H:Hp}(s:ax G H){b:Addr}{o:HO}(e:H b=some o)(f:Fz o):mH G H b=some o:=by
 unfold mH
 cases q:G b with
 |some u=>have:=s b u q;rw[e] at this;cases this;rfl
 |none=>simp only[e];rw[if_pos f]
theorem wz {G H:Hp}(s:ax G H):ax (mH G H) H:=fun b o e=>by
 unfold mH at e
 cases q:G b with
 |some u=>rw[q] at e;cases e;exact s b _ q
 |none=>
  rw[q] at e
  cases q2:H b with
  |none=>rw[q2] at e;cases e
  |some u=>
   rw[q2] at e
   dsimp only at e
   split at e
   ·cases e;rfl
   ·cases e
theorem yU {G H H':Hp}(hh:ax H H'){b:Addr}(m:Mx H b):mH G H' b=G b:=by
 unfold mH
 cases q:G b with
 |some u=>rfl
 |none=>
  obtain⟨h1,h2⟩:=m
  cases e:H b with
  |none=>exact absurd e h1
  |some o=>
   simp only[hh b o e]
   rw[if_neg (h2 o e)]
theorem ng {K:Frag}{G H:Hp}(s:ax G H){a:Addr}{xs:List V}(h:gJ K H a xs):gJ K (mH G H) a xs:=by
 rcases h with (h | ⟨o,h⟩) |h
 ·exact .inl (.inl (yV s h trivial))
 ·exact .inl (.inr ⟨o,yV s h trivial⟩)
 ·exact .inr h
structure Fx where
 K:Frag
 H0:Hp
 G0:Hp
 par:List Addr
 ca:Str->Addr
 br:Nat->Bool
 bx:Option Addr
inductive Sl where
 |no |fz (d:D) |ow (d:D) |bx |br (d:D)
abbrev En:=List Sl
inductive Nv where
 |no |da (d:D) |bx
def Sl.val:Sl->Nv
 | .no=>.no
 | .fz d=>.da d
 | .ow d=>.da d
 | .br d=>.da d
 | .bx=>.bx
def vl (env:En):List Nv:=env.map Sl.val
def Jk (Γ:Fx)(B:Option Addr)(G H:Hp)(i:Nat)(o:Option (Option V)):Sl->Prop
 | .no=>True
 | .fz d=>∃v,o=some (some v)/\Rp Γ.K G v d
 | .ow d=>∃a,o=some (some (.ref a))/\Γ.H0 a=none/\G a=none/\B≠some a/\Own Γ.K G H a d
 | .bx=>∃a,o=some (some (.ref a))/\B=some a
 | .br d=>Γ.br i=true/\∃a,o=some (some (.ref a))/\B≠some a/\a∉Γ.par/\Own Γ.K G H a d
structure SR (Γ:Fx)(B:Option Addr)(G H:Hp)(σ:St)(env:En)(β:Int):Prop where
 sub:ax G H
 old:ax Γ.G0 G
 new:∀b,Mx Γ.H0 b->Γ.G0 b=none->G b=none
 keep:∀b o,Γ.H0 b=some o->b∉Γ.par->H b=some o
 pin:∀b,b∈Γ.par->Mx H b
 fix:∀b,Γ.bx=some b->B=some b
 box:∀b,B=some b->H b=some (.lst [.int β])/\G b=none/\(b∈Γ.par\/Γ.H0 b=none)
 len:σ.length=env.length
 slot:∀(i:Nat) (s:Sl),env[i]? =some s->Jk Γ B G H i (σ[i]?) s
 sep:∀(i j:Nat) (a:Addr) (d e:D),env[i]? =some (.ow d)->env[j]? =some (.ow e)->σ[i]? =some (some (.ref a))->σ[j]? =some (some (.ref a))->i=j
structure Ext (G H G' H':Hp):Prop where
 hh:ax H H'
 gg:ax G G'
 gh:ax G' H'
 on:∀b,Mx H b->G' b=G b
theorem Ext.refl {G H:Hp}(s:ax G H):Ext G H G H:=⟨ax.refl _,ax.refl _,s,fun _ _=>rfl⟩
theorem Ext.tups {G H H':Hp}(s:ax G H)(hh:ax H H'):Ext G H (mH G H') H':=⟨hh,sM,wz (s.trans hh),fun _ m=>yU hh m⟩
theorem Ext.new {G H:Hp}(s:ax G H){p:Addr}{o:HO}(h:H p=none):Ext G H (upd G p o) (upd H p o):=by
 refine⟨ax.new h,ax.new (s.free h),fun b u e=>?_,fun b hb=>?_⟩
 ·by_cases z:b=p
  ·subst z;rw[aC] at e ⊢;exact e
  ·rw[aE z] at e ⊢;exact s b u e
 ·exact aE (fun z=>hb.1 (by rw[z];exact h))
theorem Ext.own {G H:Hp}(s:ax G H){p:Addr}{o:HO}(h:H p=none):Ext G H G (upd H p o):=
 ⟨ax.new h,ax.refl _,s.trans (ax.new h),fun _ _=>rfl⟩
theorem Ext.trans {G H G1 H1 G2 H2:Hp}(x:Ext G H G1 H1)(y:Ext G1 H1 G2 H2):Ext G H G2 H2:=by
 refine⟨x.hh.trans y.hh,x.gg.trans y.gg,y.gh,fun b hb=>?_⟩
 rw[y.on b (hb.same fun o e=>x.hh b o e),x.on b hb]
section
variable {Γ:Fx}{B:Option Addr}{G H G' H':Hp}{σ:St}{env:En}{β:Int}
theorem SR.there (I:SR Γ B G H σ env β){b:Addr}(h:Γ.H0 b≠none):H b≠none:=by
 by_cases hp:b∈Γ.par
 ·exact (I.pin b hp).1
 ·cases e:Γ.H0 b with
  |none=>exact absurd e h
  |some o=>rw[I.keep b o e hp];simp
theorem SR.thereM (I:SR Γ B G H σ env β){b:Addr}(h:Mx Γ.H0 b):Mx H b:=by
 by_cases hp:b∈Γ.par
 ·exact I.pin b hp
 ·exact h.same fun o e=>I.keep b o e hp
theorem SR.ext (I:SR Γ B G H σ env β)(x:Ext G H G' H'):SR Γ B G' H' σ env β:=by
 refine⟨x.gh,I.old.trans x.gg,fun b h1 h2=>?_,fun b o h1 h2=>x.hh b o (I.keep b o h1 h2),fun b hb=>?_,I.fix,fun b e=>?_,I.len,fun i s e=>?_,I.sep⟩
 ·rw[x.on b (I.thereM h1)];exact I.new b h1 h2
 ·exact (I.pin b hb).same fun o e=>x.hh b o e
 ·obtain⟨h1,h2,h3⟩:=I.box b e
  exact⟨x.hh b _ h1,by rw[x.on b (Mx.lst h1)];exact h2,h3⟩
 ·have q:=I.slot i s e
  cases s with
  |no=>trivial
  |fz d=>obtain⟨v,h1,h2⟩:=q;exact⟨v,h1,h2.mono x.gg⟩
  |ow d=>
   obtain⟨a,h1,h2,h3,h4,h5⟩:=q
   exact⟨a,h1,h2,by rw[x.on a h5.mx];exact h3,h4,h5.mono x.gg fun o q=>x.hh a o q⟩
  |bx=>exact q
  |br d=>obtain⟨b1,a,h1,h4,hp,h5⟩:=q;exact⟨b1,a,h1,h4,hp,h5.mono x.gg fun o q=>x.hh a o q⟩
def gV (env:En)(i:Nat):En:=match env[i]? with
 |some (.ow d)=>env.set i (.fz d)
 |_=>env
def bp (L:List Nat)(env:En):En:=L.foldl gV env
theorem cp (L M:List Nat)(env:En):bp (L ++ M) env=bp M (bp L env):=by unfold bp;rw[List.foldl_append]
theorem xZ (env:En)(i:Nat)(s:Sl)(h:∀t,env[i]? =some t->t.val=s.val):vl (env.set i s)=vl env:=by
 unfold vl
 apply ext_getElem?
 intro j
 rw[getElem?_map,getElem?_map,List.getElem?_set]
 by_cases e:i=j
 ·subst e
  by_cases hi:i < env.length
  ·simp only[if_true,hi]
   have:=h _ (getElem?_eq_getElem hi)
   simp[getElem?_eq_getElem hi,this]
  ·simp only[if_true,hi,if_false]
   rw[getElem?_eq_none (by omega)]
 ·simp[e]
theorem Dk (env:En)(i:Nat):vl (gV env i)=vl env:=by
 unfold gV
 split
 ·rename_i d e
  exact xZ _ _ _ fun t ht=>by rw[e] at ht;cases ht;rfl
 ·rfl
theorem eS (L:List Nat)(env:En):vl (bp L env)=vl env:=by
 unfold bp
 induction L generalizing env with
 |nil=>rfl
 |cons i L ih=>rw[foldl_cons,ih,Dk]
theorem Ez {i:Nat}{d:D}(h:(vl env)[i]? =some (.da d)):env[i]? =some (.fz d)\/env[i]? =some (.ow d)\/env[i]? =some (.br d):=by
 unfold vl at h
 rw[getElem?_map] at h
 cases e:env[i]? with
 |none=>rw[e] at h;simp at h
 |some s=>
  rw[e] at h
  cases s with
  |no=>simp[Sl.val] at h
  |fz d'=>simp[Sl.val] at h;subst h;exact .inl rfl
  |ow d'=>simp[Sl.val] at h;subst h;exact .inr (.inl rfl)
  |bx=>simp[Sl.val] at h
  |br d'=>simp[Sl.val] at h;subst h;exact .inr (.inr rfl)
theorem Hi {i:Nat}(h:(vl env)[i]? =some .bx):env[i]? =some .bx:=by
 unfold vl at h
 rw[getElem?_map] at h
 cases e:env[i]? with
 |none=>rw[e] at h;simp at h
 |some s=>
  rw[e] at h
  cases s with
  |bx=>rfl
  |_=>simp[Sl.val] at h
theorem SR.freeze (I:SR Γ B G H σ env β)(i:Nat)(hb:Γ.br i=false){d:D}(h:(vl env)[i]? =some (.da d)):∃G' v,SR Γ B G' H σ (gV env i) β/\ax G G'/\σ[i]? =some (some v)/\Rp Γ.K G' v d:=by
 rcases Ez h with e |e |e
 ·obtain⟨v,h1,h2⟩:=I.slot i _ e
  exact⟨G,v,by unfold gV;rw[e];exact I,ax.refl _,h1,h2⟩
 rotate_left
 ·obtain⟨z,_⟩:=I.slot i _ e
  rw[hb] at z;cases z
 ·obtain⟨a,h1,h2,h3,h4,h5⟩:=I.slot i _ e
  obtain⟨o,ho⟩:=h5.obj
  have sG:ax G (upd G a o):=ax.new h3
  have hi:i < env.length:=(List.getElem?_eq_some_iff.mp e).1
  have hr:Rp Γ.K (upd G a o) (.ref a) d:=h5.rp h3 sG fun o' q=>by rw[ho] at q;cases q;exact aC
  refine⟨upd G a o,.ref a,?_,sG,h1,hr⟩
  unfold gV
  rw[e]
  refine⟨fun b u q=>?_,I.old.trans sG,fun b n1 n2=>?_,I.keep,I.pin,I.fix,fun b q=>?_,by rw[length_set];exact I.len,fun j s q=>?_,fun j k c d1 d2 q1 q2 q3 q4=>?_⟩
  ·by_cases z:b=a
   ·subst z;rw[aC] at q;cases q;exact ho
   ·rw[aE z] at q;exact I.sub b u q
  ·rw[aE (fun z=>n1.1 (by rw[z];exact h2))];exact I.new b n1 n2
  ·obtain⟨k1,k2,k3⟩:=I.box b q
   exact⟨k1,by rw[aE (fun z=>h4 (by rw[<-z];exact q))];exact k2,k3⟩
  ·by_cases z:j=i
   ·subst z
    rw[getElem?_set_self hi] at q
    cases q
    exact⟨.ref a,h1,hr⟩
   ·rw[getElem?_set_ne (Ne.symm z)] at q
    have w:=I.slot j s q
    cases s with
    |no=>trivial
    |fz d'=>obtain⟨v,w1,w2⟩:=w;exact⟨v,w1,w2.mono sG⟩
    |ow d'=>
     obtain⟨c,w1,w2,w3,w4,w5⟩:=w
     have ca:c≠a:=fun z2=>z (I.sep j i c d' d q e w1 (by rw[z2];exact h1))
     exact⟨c,w1,w2,by rw[aE ca];exact w3,w4,w5.mono sG fun o q=>q⟩
    |bx=>exact w
    |br d'=>obtain⟨b1,c,w1,w4,wp,w5⟩:=w;exact⟨b1,c,w1,w4,wp,w5.mono sG fun o q=>q⟩
  ·have ne:∀{j:Nat} {d':D},(env.set i (Sl.fz d))[j]? =some (.ow d')->env[j]? =some (.ow d'):=fun {j d'} q=>by
    by_cases z:j=i
    ·subst z;rw[getElem?_set_self hi] at q;cases q
    ·rw[getElem?_set_ne (Ne.symm z)] at q;exact q
   exact I.sep j k c d1 d2 (ne q1) (ne q2) q3 q4
theorem SR.bp (I:SR Γ B G H σ env β)(L:List Nat)(hb:∀i,i∈L->Γ.br i=false):∃G',SR Γ B G' H σ (bp L env) β/\ax G G':=by
 induction L generalizing env G with
 |nil=>exact⟨G,I,ax.refl _⟩
 |cons i L ih=>
  show ∃G',SR Γ B G' H σ (L2.bp L (gV env i)) β/\ax G G'
  have key:∃G1,SR Γ B G1 H σ (gV env i) β/\ax G G1:=by
   cases e:env[i]? with
   |none=>exact⟨G,by unfold gV;rw[e];exact I,ax.refl _⟩
   |some s=>
    cases s with
    |ow d=>
     obtain⟨G1,v,h1,h2,_⟩:=I.freeze i (hb i (mem_cons_self ..)) (d:=d) (by unfold vl;rw[getElem?_map,e];rfl)
     exact⟨G1,h1,h2⟩
    |_=>exact⟨G,by unfold gV;rw[e];exact I,ax.refl _⟩
  obtain⟨G1,I1,s1⟩:=key
  obtain⟨G2,I2,s2⟩:=ih I1 fun j hj=>hb j (mem_cons_of_mem _ hj)
  exact⟨G2,I2,s1.trans s2⟩
theorem SR.set (I:SR Γ B G H σ env β){i:Nat}(hi:i < env.length){v:V}{d:D}(h:Rp Γ.K G v d):SR Γ B G H (σ.set i (some v)) (env.set i (.fz d)) β:=by
 have hs:i < σ.length:=by rw[I.len];exact hi
 refine⟨I.sub,I.old,I.new,I.keep,I.pin,I.fix,I.box,by rw[length_set,length_set];exact I.len,fun j s q=>?_,fun j k c d1 d2 q1 q2 q3 q4=>?_⟩
 ·by_cases z:j=i
  ·subst z
   rw[getElem?_set_self hi] at q
   cases q
   exact⟨v,by rw[getElem?_set_self hs],h⟩
  ·rw[getElem?_set_ne (Ne.symm z)] at q ⊢
   exact I.slot j s q
 ·have ne:∀{j:Nat} {d':D},(env.set i (Sl.fz d))[j]? =some (.ow d')->j≠i/\env[j]? =some (.ow d'):=fun {j d'} q=>by
   by_cases z:j=i
   ·subst z;rw[getElem?_set_self hi] at q;cases q
   ·rw[getElem?_set_ne (Ne.symm z)] at q;exact⟨z,q⟩
  obtain⟨n1,e1⟩:=ne q1
  obtain⟨n2,e2⟩:=ne q2
  rw[getElem?_set_ne (Ne.symm n1)] at q3
  rw[getElem?_set_ne (Ne.symm n2)] at q4
  exact I.sep j k c d1 d2 e1 e2 q3 q4
theorem SR.setOw (I:SR Γ B G H σ env β){i:Nat}(hi:i < env.length){a:Addr}{d:D}(h0:Γ.H0 a=none)(hg:G a=none)(hb:B≠some a)(h:Own Γ.K G H a d)(hn:∀(j:Nat) (d':D),env[j]? =some (.ow d')->j≠i->σ[j]?≠some (some (.ref a))):SR Γ B G H (σ.set i (some (.ref a))) (env.set i (.ow d)) β:=by
 have hs:i < σ.length:=by rw[I.len];exact hi
 refine⟨I.sub,I.old,I.new,I.keep,I.pin,I.fix,I.box,by rw[length_set,length_set];exact I.len,fun j s q=>?_,fun j k c d1 d2 q1 q2 q3 q4=>?_⟩
 ·by_cases z:j=i
  ·subst z
   rw[getElem?_set_self hi] at q
   cases q
   exact⟨a,by rw[getElem?_set_self hs],h0,hg,hb,h⟩
  ·rw[getElem?_set_ne (Ne.symm z)] at q ⊢
   exact I.slot j s q
 ·by_cases z1:j=i
  ·by_cases z2:k=i
   ·rw[z1,z2]
   ·subst z1
    rw[getElem?_set_ne (Ne.symm z2)] at q2 q4
    rw[getElem?_set_self hs] at q3
    cases q3
    exact absurd q4 (hn k d2 q2 z2)
  ·by_cases z2:k=i
   ·subst z2
    rw[getElem?_set_ne (Ne.symm z1)] at q1 q3
    rw[getElem?_set_self hs] at q4
    cases q4
    exact absurd q3 (hn j d1 q1 z1)
   ·rw[getElem?_set_ne (Ne.symm z1)] at q1 q3
    rw[getElem?_set_ne (Ne.symm z2)] at q2 q4
    exact I.sep j k c d1 d2 q1 q2 q3 q4
theorem SR.fresh (I:SR Γ B G H σ env β){a:Addr}(h:H a=none):Γ.H0 a=none/\G a=none/\B≠some a/\∀(j:Nat) (d:D),env[j]? =some (.ow d)->σ[j]?≠some (some (.ref a)):=by
 have hB:B≠some a:=fun z=>by rw[(I.box a z).1] at h;cases h
 refine⟨?_,I.sub.free h,hB,fun j d e z=>?_⟩
 ·cases e:Γ.H0 a with
  |none=>rfl
  |some o=>exact absurd h (I.there (by rw[e];simp))
 ·obtain⟨c,h1,_,_,_,h5⟩:=I.slot j _ e
  rw[z] at h1
  cases h1
  obtain⟨o,ho⟩:=h5.obj
  rw[h] at ho;cases ho
theorem SR.write (I:SR Γ B G H σ env β)(hb:∀j,Γ.br j=false){i:Nat}{a:Addr}{d d':D}{o:HO}(e:env[i]? =some (.ow d))(ea:σ[i]? =some (some (.ref a)))(h:∀H',H' a=some o->ax G H'->Own Γ.K G H' a d'):SR Γ B G (upd H a o) σ (env.set i (.ow d')) β:=by
 obtain⟨a',h1,h2,h3,h4,h5⟩:=I.slot i _ e
 rw[ea] at h1;cases h1
 have hi:i < env.length:=(List.getElem?_eq_some_iff.mp e).1
 have sub:ax G (upd H a o):=fun b u q=>by rw[aE (fun z=>by rw[z,h3] at q;cases q)];exact I.sub b u q
 refine⟨sub,I.old,I.new,fun b u q n=>?_,fun b q=>?_,I.fix,fun b q=>?_,by rw[length_set];exact I.len,fun j s q=>?_,fun j k c d1 d2 q1 q2 q3 q4=>?_⟩
 ·rw[aE (fun z=>by rw[z,h2] at q;cases q)];exact I.keep b u q n
 ·by_cases z:b=a
  ·subst z;exact (h _ aC sub).mx
  ·exact (I.pin b q).same fun o e=>by rw[aE z];exact e
 ·obtain⟨k1,k2,k3⟩:=I.box b q
  exact⟨by rw[aE (fun z=>h4 (by rw[<-z];exact q))];exact k1,k2,k3⟩
 ·by_cases z:j=i
  ·subst z
   rw[getElem?_set_self hi] at q
   cases q
   exact⟨a,ea,h2,h3,h4,h _ aC sub⟩
  ·rw[getElem?_set_ne (Ne.symm z)] at q
   have w:=I.slot j s q
   cases s with
   |no=>trivial
   |fz d1=>exact w
   |ow d1=>
    obtain⟨c,w1,w2,w3,w4,w5⟩:=w
    have ca:c≠a:=fun z2=>z (I.sep j i c d1 d q e w1 (by rw[z2];exact ea))
    exact⟨c,w1,w2,w3,w4,w5.mono (ax.refl _) fun o q=>by rw[aE ca];exact q⟩
   |bx=>exact w
   |br d1=>obtain⟨b1,_⟩:=w;rw[hb j] at b1;cases b1
 ·have back:∀{j:Nat} {d1:D},(env.set i (Sl.ow d'))[j]? =some (.ow d1)->∃d2,env[j]? =some (.ow d2):=fun {j d1} q=>by
   by_cases z:j=i
   ·subst z;exact⟨d,e⟩
   ·rw[getElem?_set_ne (Ne.symm z)] at q;exact⟨d1,q⟩
  obtain⟨_,b1⟩:=back q1
  obtain⟨_,b2⟩:=back q2
  exact I.sep j k c _ _ b1 b2 q3 q4
end
inductive R (α:Type) where
 |ok (a:α) (β:Int)
 |exc (c:Str)
 |bad
def R.bnd {α γ:Type}(r:R α)(k:α->Int->R γ):R γ:=match r with
 | .ok a β=>k a β
 | .exc c=>.exc c
 | .bad=>.bad
def R.of {α:Type}(o:Option α)(β:Int):R α:=match o with
 |some a=>.ok a β
 |none=>.bad
abbrev VF (α:Type):=List Nv->Int->R α
def Kp (Γ:Fx)(H':Hp):Prop:=∀b o,Γ.H0 b=some o->b∉Γ.par->H' b=some o
def Out {α:Type}(Γ:Fx)(E:XK)(r:R α)(P:α->Int->Prop):Prop:=match r with
 | .ok a β=>P a β
 | .exc c=>∀H',Kp Γ H'->E (.ref (Γ.ca c)) none H'
 | .bad=>False
section
variable {α γ:Type}{Γ:Fx}{E:XK}
theorem Out.bnd {r:R α}{k:α->Int->R γ}{P:γ->Int->Prop}(h:Out Γ E (r.bnd k) P):Out Γ E r fun a β=>Out Γ E (k a β) P:=by
 cases r with
 |ok a β=>exact h
 |exc c=>exact h
 |bad=>exact h
theorem Out.imp {r:R α}{P P':α->Int->Prop}(h:Out Γ E r P)(i:∀a β,P a β->P' a β):Out Γ E r P':=by
 cases r with
 |ok a β=>exact i a β h
 |exc c=>exact h
 |bad=>exact h
theorem Out.of {o:Option α}{β:Int}{P:α->Int->Prop}(h:Out Γ E (R.of o β) P):∃a,o=some a/\P a β:=by
 cases o with
 |none=>exact h.elim
 |some a=>exact⟨a,rfl,h⟩
end
inductive Md where
 |b |v |w
def VO (K:Frag)(B:Option Addr)(H G' H':Hp):Md->D->V->Prop
 | .b,d,v=>mV K B G' H' v d
 | .v,d,v=>Rp K G' v d
 | .w,d,v=>∃a,v=.ref a/\H a=none/\G' a=none/\Own K G' H' a d
def pT (Γ:Fx)(E:XK)(f:VF D)(L:List Nat)(md:Md):TE:=fun σ H Q=>∃env G B β,SR Γ B G H σ env β/\
 Out Γ E (f (vl env) β) fun d β'=>∀v G' H',SR Γ B G' H' σ (bp L env) β'->ax G G'->jh B H H'->VO Γ.K B H G' H' md d v->Q v H'
def SE (X:Cx)(Γ:Fx)(E:XK)(e:Expr)(f:VF D)(L:List Nat)(md:Md):Prop:=PE X e (pT Γ E f L md)
def qT (Γ:Fx)(E:XK)(f:VF Bool)(L:List Nat):TT:=fun σ H Q=>∃env G B β,SR Γ B G H σ env β/\
 Out Γ E (f (vl env) β) fun c β'=>∀G' H',SR Γ B G' H' σ (bp L env) β'->ax G G'->jh B H H'->Q c H'
def zu (X:Cx)(Γ:Fx)(E:XK)(e:Expr)(f:VF Bool)(L:List Nat):Prop:=PT X e (qT Γ E f L)
def oY (X:Cx)(Γ:Fx)(E:XK)(e:Expr)(f:VF Bool)(L:List Nat):Prop:=PW X e (qT Γ E f L)
def aT (Γ:Fx)(E:XK)(f:VF (List D))(L:List Nat):TA:=fun σ H Q=>∃env G B β,SR Γ B G H σ env β/\
 Out Γ E (f (vl env) β) fun ds β'=>∀vs G' H',SR Γ B G' H' σ (bp L env) β'->ax G G'->jh B H H'->cB Γ.K G' vs ds->Q vs H'
def SA (X:Cx)(Γ:Fx)(E:XK)(es:List Expr)(f:VF (List D))(L:List Nat):Prop:=PA X es (aT Γ E f L)
theorem PE.post' {X:Cx}{e:Expr}{t u:TE}(h:PE X e t)(m:∀σ H Q,u σ H Q->t σ H Q):PE X e u:=fun pins s σ H Q I q=>h pins s σ H Q I (m σ H Q q)
theorem PT.post {X:Cx}{e:Expr}{t u:TT}(h:PT X e t)(m:∀σ H Q,u σ H Q->t σ H Q):PT X e u:=fun pins s σ H Q I q=>h pins s σ H Q I (m σ H Q q)
theorem PW.post {X:Cx}{e:Expr}{t u:TT}(h:PW X e t)(m:∀σ H Q,u σ H Q->t σ H Q):PW X e u:=fun wh pins s σ H Q I q=>h wh pins s σ H Q I (m σ H Q q)
theorem PA.post {X:Cx}{es:List Expr}{t u:TA}(h:PA X es t)(m:∀σ H Q,u σ H Q->t σ H Q):PA X es u:=fun pos pins s σ H Q I q=>h pos pins s σ H Q I (m σ H Q q)
theorem PS.post {X:Cx}{st:Stmt}{t u:TS}(h:PS X st t)(m:∀D σ H,u D σ H->t D σ H):PS X st u:=fun pins s σ H D I q=>h pins s σ H D I (m D σ H q)
def dat:Option Nv->Option D
 |some (.da d)=>some d
 |_=>none
def gv (i:Nat):VF D:=fun vs β=>R.of (dat vs[i]?) β
def cst (d:D):VF D:=fun _ β=>.ok d β
section
variable {X:Cx}{Γ:Fx}{E:XK}{e a b c:Expr}{f fa fb fc:VF D}{L La Lb Lc:List Nat}{md ma mb mc:Md}{pos:Pos}
theorem join_some {o:Option Nv}{d:D}(h:dat o=some d):o=some (.da d):=by
 cases o with
 |none=>cases h
 |some o=>cases o with
  |da x=>cases h;rfl
  |_=>cases h
theorem SR.letIn {B:Option Addr}{G H:Hp}{σ:St}{env:En}{β:Int}(I:SR Γ B G H σ env β){p:Addr}{d:D}(h0:Γ.H0 p=none)(hg:G p=none)(hb:B≠some p)(hn:∀(j:Nat) (d':D),env[j]? =some (.ow d')->σ[j]?≠some (some (.ref p)))(h:Own Γ.K G H p d) :
  ∃G',SR Γ B G' H σ env β/\ax G G'/\Rp Γ.K G' (.ref p) d:=by
 obtain⟨o,ho⟩:=h.obj
 have sG:ax G (upd G p o):=ax.new hg
 refine⟨upd G p o,⟨fun b u q=>?_,I.old.trans sG,fun b n1 n2=>?_,I.keep,I.pin,I.fix,fun b q=>?_,I.len,fun j s q=>?_,I.sep⟩,sG,h.rp hg sG fun o' q=>by rw[ho] at q;cases q;exact aC⟩
 ·by_cases z:b=p
  ·subst z;rw[aC] at q;cases q;exact ho
  ·rw[aE z] at q;exact I.sub b u q
 ·rw[aE (fun z=>n1.1 (by rw[z];exact h0))];exact I.new b n1 n2
 ·obtain⟨k1,k2,k3⟩:=I.box b q
  exact⟨k1,by rw[aE (fun z=>hb (by rw[<-z];exact q))];exact k2,k3⟩
 ·have w:=I.slot j s q
  cases s with
  |no=>trivial
  |fz d'=>obtain⟨v,w1,w2⟩:=w;exact⟨v,w1,w2.mono sG⟩
  |ow d'=>
   obtain⟨c,w1,w2,w3,w4,w5⟩:=w
   have ca:c≠p:=fun z2=>hn j d' q (by rw[<-z2];exact w1)
   exact⟨c,w1,w2,by rw[aE ca];exact w3,w4,w5.mono sG fun o q=>q⟩
  |bx=>exact w
  |br d'=>obtain⟨b1,c,w1,w4,wp,w5⟩:=w;exact⟨b1,c,w1,w4,wp,w5.mono sG fun o q=>q⟩
theorem tx {env:En}{i j:Nat}{d:D}(h:(gV env i)[j]? =some (.ow d)):env[j]? =some (.ow d):=by
 unfold gV at h
 split at h
 ·rename_i d' e
  by_cases z:i=j
  ·subst z
   rw[getElem?_set_self (List.getElem?_eq_some_iff.mp e).1] at h;cases h
  ·rw[getElem?_set_ne z] at h;exact h
 ·exact h
theorem qt {L:List Nat}{env:En}{j:Nat}{d:D}(h:(bp L env)[j]? =some (.ow d)):env[j]? =some (.ow d):=by
 unfold bp at h
 induction L generalizing env with
 |nil=>exact h
 |cons i L ih=>exact tx (ih h)
theorem SR.letW {B:Option Addr}{G H G' H':Hp}{σ:St}{env:En}{β β':Int}{L:List Nat}{d:D}{v:V}(I:SR Γ B G H σ env β)(I':SR Γ B G' H' σ (L2.bp L env) β')(h:VO Γ.K B H G' H' .w d v):∃G2,SR Γ B G2 H' σ (L2.bp L env) β'/\ax G' G2/\Rp Γ.K G2 v d:=by
 obtain⟨p,rfl,h1,h2,h3⟩:=h
 obtain⟨q1,q2,q3,q4⟩:=I.fresh h1
 exact I'.letIn q1 h2 q3 (fun j d' e=>q4 j d' (qt e)) h3
theorem SE.wv (h:SE X Γ E e f L .w):SE X Γ E e f L .v:=by
 refine PE.post' h fun σ H Q ⟨env,G,B,β,I,o⟩=>⟨env,G,B,β,I,o.imp fun d β' k v G' H' I' s m vo=>?_⟩
 obtain⟨G2,I2,s2,r⟩:=I.letW I' vo
 exact k v G2 H' I2 (s.trans s2) m r
theorem VO.brw {B:Option Addr}{H G' H':Hp}{d:D}{v:V}{K:Frag}(h:VO K B H G' H' md d v)(hB:∀x,B=some x->H x≠none):mV K B G' H' v d:=by
 cases md with
 |b=>exact h
 |v=>exact .inl h
 |w=>
  obtain⟨p,rfl,h1,h2,h3⟩:=h
  exact .inr ⟨p,rfl,fun z=>hB p z h1,h3⟩
theorem SR.boxThere {B:Option Addr}{G H:Hp}{σ:St}{env:En}{β:Int}(I:SR Γ B G H σ env β):∀x,B=some x->H x≠none:=fun x e=>by rw[(I.box x e).1];simp
theorem af (i:Nat){x:Str}(hN:X.N[i]? =some x:=by rfl)(hv:zI X.env.scope x:=by first |exact Or.inl rfl |exact Or.inr (Or.inl rfl) |exact Or.inr (Or.inr rfl))(hd:(x == ("__debug__":Str))=false:=by decide)
  (hcd:(x == ("__classdict__":Str))=false:=by decide):SE X Γ E (.Name x pos) (gv i) [] .b:=by
 refine PE.post' (jJ hN hv hd hcd) fun σ H Q ⟨env,G,B,β,I,o⟩=>?_
 obtain⟨d,e,k⟩:=o.of
 have e:=join_some e
 rcases Ez e with q |q |q
 ·obtain⟨v,h1,h2⟩:=I.slot i _ q
  exact⟨v,h1,k v G H I (ax.refl _) (jh.refl _ _) (.inl h2)⟩
 ·obtain⟨p,h1,h2,h3,h4,h5⟩:=I.slot i _ q
  exact⟨.ref p,h1,k _ G H I (ax.refl _) (jh.refl _ _) (.inr ⟨p,rfl,h4,h5⟩)⟩
 ·obtain⟨_,p,h1,h4,_,h5⟩:=I.slot i _ q
  exact⟨.ref p,h1,k _ G H I (ax.refl _) (jh.refl _ _) (.inr ⟨p,rfl,h4,h5⟩)⟩
theorem az (i:Nat)(hb:Γ.br i=false){x:Str}(hN:X.N[i]? =some x:=by rfl)(hv:zI X.env.scope x:=by first |exact Or.inl rfl |exact Or.inr (Or.inl rfl) |exact Or.inr (Or.inr rfl))(hd:(x == ("__debug__":Str))=false:=by decide)
  (hcd:(x == ("__classdict__":Str))=false:=by decide):SE X Γ E (.Name x pos) (gv i) [i] .v:=by
 refine PE.post' (jJ hN hv hd hcd) fun σ H Q ⟨env,G,B,β,I,o⟩=>?_
 obtain⟨d,e,k⟩:=o.of
 obtain⟨G',v,I',s,h1,h2⟩:=I.freeze i hb (join_some e)
 exact⟨v,h1,k v G' H I' s (jh.refl _ _) h2⟩
theorem Dh {v:V}{d:D}(h:PE X e (tC v))(r:∀G,Rp Γ.K G v d):SE X Γ E e (cst d) [] .v:=by
 refine PE.post' h fun σ H Q ⟨env,G,B,β,I,o⟩=>?_
 exact o v G H I (ax.refl _) (jh.refl _ _) (r G)
theorem ar {i:Int}{j}:SE X Γ E (.Constant (.int i) j pos) (cst (.int i)) [] .v:=Dh xu fun _=>.int i
theorem j9 {i:Bool}{j}:SE X Γ E (.Constant (.bool i) j pos) (cst (.bool i)) [] .v:=Dh yL fun _=>.bl i
theorem mF {x:Str}{j}:SE X Γ E (.Constant (.str x) j pos) (cst (.str x)) [] .v:=Dh GG fun _=>.str x
theorem D8 {x:Str}{i:Int}{t:Tok}(hg:Gl X x)(hm:X.mg x=some (.int i t))(hd:(x == ("__debug__":Str))=false:=by decide):SE X Γ E (.Name x pos) (cst (.int i)) [] .v:=Dh (C8 hg hm (show RelV (.int i) _ from⟨_,rfl⟩) hd) fun _=>.int i
theorem two {W:V->V->Hp->Prop}{B:Option Addr}{G H:Hp}{σ:St}{env:En}{β:Int}(I:SR Γ B G H σ env β)
  (h:Out Γ E (fa (vl env) β) fun d1 β1=>Out Γ E (fb (vl env) β1) fun d2 β2=>∀x y G2 H2,SR Γ B G2 H2 σ (bp (La ++ Lb) env) β2->ax G G2->jh B H H2->mV Γ.K B G2 H2 x d1->mV Γ.K B G2 H2 y d2->W x y H2) :
  pT Γ E fa La ma σ H fun x H1=>pT Γ E fb Lb mb σ H1 fun y H2=>W x y H2:=by
 refine⟨env,G,B,β,I,h.imp fun d1 β1 h x G1 H1 I1 s1 m1 vx=>⟨bp La env,G1,B,β1,I1,?_⟩⟩
 rw[eS]
 refine h.imp fun d2 β2 k y G2 H2 I2 s2 m2 vy=>?_
 refine k x y G2 H2 (by rw[cp];exact I2) (s1.trans s2) (m1.trans m2) ((vx.brw I.boxThere).mono s2 m2) (vy.brw I1.boxThere)
def nO (K:Frag)(r:R2)(g:D->D->Option D)(md:Md):Prop:=∀(B:Option Addr) (G H:Hp) (x y:V) (dx dy d:D) (Q:VK),ax G H->(∀x,B=some x->H x≠none)->mV K B G H x dx->mV K B G H y dy->g dx dy=some d->
 (∀v G' H',Ext G H G' H'->VO K B H G' H' md d v->Q v H')->r x y H Q
def f2 (fa fb:VF D)(g:D->D->Option D):VF D:=fun vs β=>(fa vs β).bnd fun x β1=>(fb vs β1).bnd fun y β2=>R.of (g x y) β2
theorem gc {B:Option Addr}{H H2:Hp}(m:jh B H H2)(hB:∀x,B=some x->H2 x≠none){p:Addr}(h:H2 p=none):H p=none:=by
 cases e:H p with
 |none=>rfl
 |some o=>rw[m p o e fun z=>hB p z h] at h;cases h
theorem VO.back {K:Frag}{B:Option Addr}{H H2 G' H':Hp}{d:D}{v:V}(h:VO K B H2 G' H' md d v)(m:jh B H H2)(hB:∀x,B=some x->H2 x≠none):VO K B H G' H' md d v:=by
 cases md with
 |b=>exact h
 |v=>exact h
 |w=>obtain⟨p,e,h1,h2,h3⟩:=h;exact⟨p,e,gc m hB h1,h2,h3⟩
theorem nH {r:R2}{g:D->D->Option D}{Q:VK}(pr:nO Γ.K r g md){B:Option Addr}{G H:Hp}{σ:St}{env:En}{β:Int}(I:SR Γ B G H σ env β)
  (h:Out Γ E (f2 fa fb g (vl env) β) fun d β'=>∀v G' H',SR Γ B G' H' σ (bp (La ++ Lb) env) β'->ax G G'->jh B H H'->VO Γ.K B H G' H' md d v->Q v H') :
  pT Γ E fa La ma σ H fun x H1=>pT Γ E fb Lb mb σ H1 fun y H2=>r x y H2 Q:=by
 refine two I (h.bnd.imp fun d1 β1 h=>h.bnd.imp fun d2 β2 h x y G2 H2 I2 s2 m2 bx by'=>?_)
 obtain⟨d,e,k⟩:=h.of
 refine pr B G2 H2 x y d1 d2 d Q I2.sub I2.boxThere bx by' e fun v G' H' x' vo=>?_
 exact k v G' H' (I2.ext x') (s2.trans x'.gg) (m2.trans (x'.hh.mov B)) (vo.back m2 I2.boxThere)
theorem bu {op:Operator}{r:R2}{g:D->D->Option D}(ho:mw X (binaryOp op) r)(pr:nO Γ.K r g md)(ha:SE X Γ E a fa La ma)(hb:SE X Γ E b fb Lb mb):SE X Γ E (.BinOp a op b pos) (f2 fa fb g) (La ++ Lb) md:=
 PE.post' (rX ho ha hb) fun σ H Q ⟨env,G,B,β,I,o⟩=>nH pr I o
theorem cQ {op:CmpOp}{r:R2}{g:D->D->Option D}(ho:mw X (compareOp op) r)(pr:nO Γ.K r g md)(ha:SE X Γ E a fa La ma)(hb:SE X Γ E b fb Lb mb)(hm:behindInMarks op b=false):SE X Γ E (.Compare a [op] [b] pos) (f2 fa fb g) (La ++ Lb) md:=
 PE.post' (Df ho ha hb hm) fun σ H Q ⟨env,G,B,β,I,o⟩=>nH pr I o
theorem aQ {r:R2}{g:D->D->Option D}(hr:Br X r)(pr:nO Γ.K r g md)(ha:SE X Γ E a fa La ma)(hb:SE X Γ E b fb Lb mb)(hs:yX b):SE X Γ E (.Subscript a b pos) (f2 fa fb g) (La ++ Lb) md:=
 PE.post' (my hr ha hb hs) fun σ H Q ⟨env,G,B,β,I,o⟩=>nH pr I o
def zx (K:Frag)(r:V->Hp->VK->Prop)(g:D->Option D)(md:Md):Prop:=∀(B:Option Addr) (G H:Hp) (x:V) (dx d:D) (Q:VK),ax G H->(∀x,B=some x->H x≠none)->mV K B G H x dx->g dx=some d->
 (∀v G' H',Ext G H G' H'->VO K B H G' H' md d v->Q v H')->r x H Q
def f1 (fa:VF D)(g:D->Option D):VF D:=fun vs β=>(fa vs β).bnd fun x β1=>R.of (g x) β1
theorem jr {r:V->Hp->VK->Prop}{g:D->Option D}{Q:VK}(pr:zx Γ.K r g md){B:Option Addr}{G H:Hp}{σ:St}{env:En}{β:Int}(I:SR Γ B G H σ env β)
  (h:Out Γ E (f1 fa g (vl env) β) fun d β'=>∀v G' H',SR Γ B G' H' σ (bp La env) β'->ax G G'->jh B H H'->VO Γ.K B H G' H' md d v->Q v H') :
  pT Γ E fa La ma σ H fun x H1=>r x H1 Q:=by
 refine⟨env,G,B,β,I,h.bnd.imp fun d1 β1 h x G1 H1 I1 s1 m1 vx=>?_⟩
 obtain⟨d,e,k⟩:=h.of
 refine pr B G1 H1 x d1 d Q I1.sub I1.boxThere (vx.brw I.boxThere) e fun v G' H' x' vo=>?_
 exact k v G' H' (I1.ext x') (s1.trans x'.gg) (m1.trans (x'.hh.mov B)) (vo.back m1 I1.boxThere)
theorem yW {op:UnaryOp}{r:V->Hp->VK->Prop}{g:D->Option D}(ho:IV X (unaryOp op) r)(pr:zx Γ.K r g md)(ha:SE X Γ E a fa La ma):SE X Γ E (.UnaryOp op a pos) (f1 fa g) La md:=
 PE.post' (Hu ho ha) fun σ H Q ⟨env,G,B,β,I,o⟩=>jr pr I o
theorem a7 {id:String}{r:List V->Hp->VK->Prop}{g:D->Option D}{x:Str}{p:Pos}(hc:cY X (.builtin id) r)(pr:zx Γ.K (fun x=>r [x]) g md)(hg:Gl X x)(hm:X.mg x=none)(hv:bootBuiltins x=some (.builtin id))(ha:SE X Γ E a fa La ma)(hn:x≠"__name__":=by decide)(hdb:(x == ("__debug__":Str))=false:=by decide)
  (he:starEach [a] X.env=(false,eval a X.env) :: starEach [] X.env:=by rfl):SE X Γ E (.Call (.Name x p) [a] [] pos) (f1 fa g) La md:=
 PE.post' (j8 hc hg hm hv (aX ha bM he) hn hdb he) fun σ H Q ⟨env,G,B,β,I,o⟩=>jr (r:=fun x=>r [x]) pr I o
theorem g7 {id:String}{r:List V->Hp->VK->Prop}{g:D->Option D}{x:Str}{p:Pos}(hc:cY X (.type id) r)(pr:zx Γ.K (fun x=>r [x]) g md)(hg:Gl X x)(hm:X.mg x=none)(hv:bootBuiltins x=some (.type id))(ha:SE X Γ E a fa La ma)(hn:x≠"__name__":=by decide)(hdb:(x == ("__debug__":Str))=false:=by decide)
  (he:starEach [a] X.env=(false,eval a X.env) :: starEach [] X.env:=by rfl):SE X Γ E (.Call (.Name x p) [a] [] pos) (f1 fa g) La md:=
 PE.post' (iO hc hg hm hv (aX ha bM he) hn hdb he) fun σ H Q ⟨env,G,B,β,I,o⟩=>jr (r:=fun x=>r [x]) pr I o
theorem vp {id:String}{r:List V->Hp->VK->Prop}{g:D->D->Option D}{x:Str}{p:Pos}(hc:cY X (.builtin id) r)(pr:nO Γ.K (fun x y=>r [x,y]) g md)(hg:Gl X x)(hm:X.mg x=none)(hv:bootBuiltins x=some (.builtin id))(ha:SE X Γ E a fa La ma)(hb:SE X Γ E b fb Lb mb)(hn:x≠"__name__":=by decide)(hdb:(x == ("__debug__":Str))=false:=by decide)
  (he:starEach [a,b] X.env=(false,eval a X.env) :: starEach [b] X.env:=by rfl) (he2:starEach [b] X.env=(false,eval b X.env) :: starEach [] X.env:=by rfl) (hpl:(backTo pos (starEach [b] X.env)).any (·.1)=false:=by rfl):SE X Γ E (.Call (.Name x p) [a,b] [] pos) (f2 fa fb g) (La ++ Lb) md:=
 PE.post' (j8 hc hg hm hv (aX ha (aX hb bM he2) he) hn hdb he hpl) fun σ H Q ⟨env,G,B,β,I,o⟩=>nH (r:=fun x y=>r [x,y]) pr I o
def eJ (fa fb:VF D):VF D:=fun vs β=>(fa vs β).bnd fun x β1=>match x with
 | .bool true=>fb vs β1
 | .bool false=>.ok (.bool false) β1
 |_=>.bad
def Gj (fa fb:VF D):VF D:=fun vs β=>(fa vs β).bnd fun x β1=>match x with
 | .bool false=>fb vs β1
 | .bool true=>.ok (.bool true) β1
 |_=>.bad
theorem h9 {op}(h:SE X Γ E a fa La md):SE X Γ E (.BoolOp op [a] pos) fa La md:=Gu h
theorem il {rest:List Expr}(ha:SE X Γ E a fa La ma)(hb:SE X Γ E (.BoolOp .And (b :: rest) pos) fb Lb .v)(hbr:∀i,i∈Lb->Γ.br i=false):SE X Γ E (.BoolOp .And (a :: b :: rest) pos) (eJ fa fb) (La ++ Lb) .v:=by
 refine PE.post' (Fl ha hb) fun σ H Q ⟨env,G,B,β,I,o⟩=>?_
 refine⟨env,G,B,β,I,o.bnd.imp fun d1 β1 h x G1 H1 I1 s1 m1 vx=>?_⟩
 have bx:=vx.brw I.boxThere
 cases d1 with
 |bool c=>
  obtain rfl:=bx.bool
  refine⟨c,rfl,?_⟩
  cases c with
  |true=>exact qW ⟨_,G1,B,β1,I1,by rw[eS];exact h.imp fun d β' k v G' H' I' s' m' vo=>k v G' H' (by rw[cp];exact I') (s1.trans s') (m1.trans m') vo⟩
  |false=>
   obtain⟨G2,I2,s2⟩:=I1.bp Lb hbr
   exact qX (h _ G2 H1 (by rw[cp];exact I2) (s1.trans s2) m1 (.bl false))
 |_=>exact h.elim
theorem EX {rest:List Expr}(ha:SE X Γ E a fa La ma)(hb:SE X Γ E (.BoolOp .Or (b :: rest) pos) fb Lb .v)(hbr:∀i,i∈Lb->Γ.br i=false):SE X Γ E (.BoolOp .Or (a :: b :: rest) pos) (Gj fa fb) (La ++ Lb) .v:=by
 refine PE.post' (HG ha hb) fun σ H Q ⟨env,G,B,β,I,o⟩=>?_
 refine⟨env,G,B,β,I,o.bnd.imp fun d1 β1 h x G1 H1 I1 s1 m1 vx=>?_⟩
 have bx:=vx.brw I.boxThere
 cases d1 with
 |bool c=>
  obtain rfl:=bx.bool
  refine⟨c,rfl,?_⟩
  cases c with
  |true=>
   obtain⟨G2,I2,s2⟩:=I1.bp Lb hbr
   exact qW (h _ G2 H1 (by rw[cp];exact I2) (s1.trans s2) m1 (.bl true))
  |false=>exact qX ⟨_,G1,B,β1,I1,by rw[eS];exact h.imp fun d β' k v G' H' I' s' m' vo=>k v G' H' (by rw[cp];exact I') (s1.trans s') (m1.trans m') vo⟩
 |_=>exact h.elim
def Ag:D->Option D
 | .bool c=>some (.bool (!c))
 |_=>none
theorem xt (ha:SE X Γ E a fa La ma):SE X Γ E (.UnaryOp .Not a pos) (f1 fa Ag) La .v:=by
 refine PE.post' (Gg ha) fun σ H Q ⟨env,G,B,β,I,o⟩=>?_
 refine jr (r:=fun x H1 Q=>∃c,x=.bl c/\Q (.bl (!c)) H1) ?_ I o
 intro B G H x dx d Q s hB bx e k
 cases dx with
 |bool c=>
  obtain rfl:=bx.bool
  cases e
  exact⟨c,rfl,k _ G H (Ext.refl s) (.bl _)⟩
 |_=>cases e
def G6:D->Option Bool
 | .none=>some false
 | .bool b=>some b
 | .int i=>some (i != 0)
 | .str y=>if y.length<=sizeLine then some ((y.length:Int) != 0) else none
 | .list ds=>some (!ds.isEmpty)
 | .tuple ds=>some (!ds.isEmpty)
 | .dict _=>none
def iY (fa:VF D):VF Bool:=fun vs β=>(fa vs β).bnd fun x β1=>R.of (G6 x) β1
theorem oG {K:Frag}{G:Hp}{xs:List V}{ds:List D}(r:cB K G xs ds):(!ds.isEmpty)= !xs.isEmpty:=by cases r <;> rfl
theorem b7 (hK:X.K=Γ.K)(ha:SE X Γ E a fa La ma)(he:∀whole,isTrue a X.env whole=(do let v <-whole;standAt a.pos;holding [v] (truthy v)):=by intro _;rfl):zu X Γ E a (iY fa) La:=by
 refine PT.post (Cz ha he) fun σ H Q ⟨env,G,B,β,I,o⟩=>?_
 refine⟨env,G,B,β,I,o.bnd.imp fun d1 β1 h x G1 H1 I1 s1 m1 vx=>?_⟩
 obtain⟨c,e,k⟩:=h.of
 have bx:=vx.brw I.boxThere
 refine⟨c,?_,k G1 H1 I1 s1 m1⟩
 rw[hK]
 cases d1 with
 |none=>obtain rfl:=bx.none;cases e;rfl
 |bool b=>obtain rfl:=bx.bool;cases e;rfl
 |int i=>obtain rfl:=bx.int;cases e;rfl
 |str y=>
  obtain rfl:=bx.str
  simp only[G6] at e
  split at e
  ·cases e;exact⟨by assumption,rfl⟩
  ·cases e
 |list ds=>obtain⟨p,xs,rfl,hq,r⟩:=bx.list I1.sub;cases e;exact .inl ⟨xs,.inl hq,oG r⟩
 |tuple ds=>obtain⟨p,xs,rfl,hq,r⟩:=bx.tuple I1.sub;cases e;exact .inr (.inl ⟨xs,hq,oG r⟩)
 |dict ds=>cases e
def bD (fa:VF D):VF Bool:=fun vs β=>(fa vs β).bnd fun x β1=>match x with
 | .bool c=>.ok c β1
 |_=>.bad
theorem a9 {op:CmpOp}{r:R2}{g:D->D->Option D}(ho:mw X (compareOp op) r)(pr:nO Γ.K r g .v)(ha:SE X Γ E a fa La ma)(hb:SE X Γ E b fb Lb mb)(hm:behindInMarks op b=false):zu X Γ E (.Compare a [op] [b] pos) (bD (f2 fa fb g)) (La ++ Lb):=by
 refine PT.post (CV ho ha hb hm) fun σ H Q ⟨env,G,B,β,I,o⟩=>?_
 refine nH pr I (o.bnd.imp fun d β' h v G' H' I' s' m' vo=>?_)
 cases d with
 |bool c=>cases vo;exact⟨c,rfl,h G' H' I' s' m'⟩
 |_=>exact h.elim
def nP (t:VF Bool):VF Bool:=fun vs β=>(t vs β).bnd fun c β1=>.ok (!c) β1
def sH (t u:VF Bool):VF Bool:=fun vs β=>(t vs β).bnd fun c β1=>if c=true then u vs β1 else .ok false β1
def hZ (t u:VF Bool):VF Bool:=fun vs β=>(t vs β).bnd fun c β1=>if c=true then .ok true β1 else u vs β1
variable {ta tb tc:VF Bool}
theorem cR (ha:zu X Γ E a ta La):zu X Γ E (.UnaryOp .Not a pos) (nP ta) La:=by
 refine PT.post (GB ha) fun σ H Q ⟨env,G,B,β,I,o⟩=>?_
 exact⟨env,G,B,β,I,o.bnd.imp fun c β1 h=>h⟩
theorem oY.t (h:oY X Γ E e ta La):zu X Γ E e ta La:=PW.pt h
theorem nE (ha:zu X Γ E a ta La):oY X Γ E (.BoolOp .And [a] pos) ta La:=y0 ha
theorem ip (ha:zu X Γ E a ta La):oY X Γ E (.BoolOp .Or [a] pos) ta La:=GC ha
theorem qF {rest:List Expr}(ha:zu X Γ E a ta La)(hb:oY X Γ E (.BoolOp .And (b :: rest) pos) tb Lb)(hbr:∀i,i∈Lb->Γ.br i=false):oY X Γ E (.BoolOp .And (a :: b :: rest) pos) (sH ta tb) (La ++ Lb):=by
 refine PW.post (BS ha hb) fun σ H Q ⟨env,G,B,β,I,o⟩=>?_
 refine⟨env,G,B,β,I,o.bnd.imp fun c β1 h G1 H1 I1 s1 m1=>?_⟩
 cases c with
 |true=>exact qW ⟨_,G1,B,β1,I1,by rw[eS];exact Out.imp h fun d β' k G' H' I' s' m'=>k G' H' (by rw[cp];exact I') (s1.trans s') (m1.trans m')⟩
 |false=>
  obtain⟨G2,I2,s2⟩:=I1.bp Lb hbr
  exact qX (h G2 H1 (by rw[cp];exact I2) (s1.trans s2) m1)
theorem iu {rest:List Expr}(ha:zu X Γ E a ta La)(hb:oY X Γ E (.BoolOp .Or (b :: rest) pos) tb Lb)(hbr:∀i,i∈Lb->Γ.br i=false):oY X Γ E (.BoolOp .Or (a :: b :: rest) pos) (hZ ta tb) (La ++ Lb):=by
 refine PW.post (HB ha hb) fun σ H Q ⟨env,G,B,β,I,o⟩=>?_
 refine⟨env,G,B,β,I,o.bnd.imp fun c β1 h G1 H1 I1 s1 m1=>?_⟩
 cases c with
 |true=>
  obtain⟨G2,I2,s2⟩:=I1.bp Lb hbr
  exact qW (h G2 H1 (by rw[cp];exact I2) (s1.trans s2) m1)
 |false=>exact qX ⟨_,G1,B,β1,I1,by rw[eS];exact Out.imp h fun d β' k G' H' I' s' m'=>k G' H' (by rw[cp];exact I') (s1.trans s') (m1.trans m')⟩
def IX (t:VF Bool)(fa fb:VF D):VF D:=fun vs β=>(t vs β).bnd fun c β1=>if c=true then fa vs β1 else fb vs β1
theorem HS (hc:zu X Γ E c tc Lc)(ha:SE X Γ E a fa La md)(hb:SE X Γ E b fb Lb md)(hbr:∀i,i∈La ++ Lb->Γ.br i=false):SE X Γ E (.IfExp c a b pos) (IX tc fa fb) (Lc ++ (La ++ Lb)) md:=by
 refine PE.post' (Bq hc ha hb) fun σ H Q ⟨env,G,B,β,I,o⟩=>?_
 refine⟨env,G,B,β,I,o.bnd.imp fun c β1 h G1 H1 I1 s1 m1=>?_⟩
 obtain⟨G2,I2,s2⟩:=I1.bp (La ++ Lb) hbr
 have idem:∀M:List Nat,(∀i,i∈M->i∈La ++ Lb)->bp M (bp (La ++ Lb) (bp Lc env))=bp (La ++ Lb) (bp Lc env):=by
  have key:∀(M:List Nat) (en:En) (k:Nat),k∈M->∀d',(bp M en)[k]?≠some (.ow d'):=by
   intro M
   induction M with
   |nil=>intro en k hm;cases hm
   |cons i M ih=>
    intro en k hm d' z
    rcases mem_cons.mp hm with y |y
    ·subst y
     have z1:(gV en k)[k]? =some (.ow d'):=qt (L:=M) z
     have z2:=tx z1
     unfold gV at z1
     rw[z2] at z1
     dsimp only at z1
     rw[getElem?_set_self (List.getElem?_eq_some_iff.mp z2).1] at z1;cases z1
    ·exact ih (gV en i) k y d' z
  intro M
  induction M with
  |nil=>intro _;rfl
  |cons i M ih=>
   intro hM
   show bp M (gV _ i)=_
   have:gV (bp (La ++ Lb) (bp Lc env)) i=bp (La ++ Lb) (bp Lc env):=by
    have hn:=key (La ++ Lb) (bp Lc env) i (hM i (mem_cons_self ..))
    generalize bp (La ++ Lb) (bp Lc env)=en at hn ⊢
    unfold gV
    split
    ·rename_i d e;exact absurd e (hn d)
    ·rfl
   rw[this]
   exact ih fun j hj=>hM j (mem_cons_of_mem _ hj)
 have go:∀{f:VF D} {M:List Nat},(∀i,i∈M->i∈La ++ Lb)->Out Γ E (f (vl env) β1) (fun d β'=>∀v G' H',SR Γ B G' H' σ (bp (Lc ++ (La ++ Lb)) env) β'->ax G G'->jh B H H'->VO Γ.K B H G' H' md d v->Q v H')->pT Γ E f M md σ H1 Q:=fun {f M} hM h=>by
  refine⟨_,G2,B,β1,I2,?_⟩
  rw[eS,eS]
  refine h.imp fun d β' k v G' H' I' s' m' vo=>?_
  rw[idem M hM,<-cp] at I'
  exact k v G' H' I' ((s1.trans s2).trans s') (m1.trans m') (vo.back m1 I1.boxThere)
 cases c with
 |true=>exact qW (go (fun i hi=>mem_append_left _ hi) h)
 |false=>exact qX (go (fun i hi=>mem_append_right _ hi) h)
def ag:VF (List D):=fun _ β=>.ok [] β
def aa (fa:VF D)(fr:VF (List D)):VF (List D):=fun vs β=>(fa vs β).bnd fun x β1=>(fr vs β1).bnd fun xs β2=>.ok (x :: xs) β2
variable {fr:VF (List D)}{es:List Expr}
theorem ao:SA X Γ E [] ag []:=PA.post bM fun σ H Q ⟨env,G,B,β,I,o⟩=>o [] G H I (ax.refl _) (jh.refl _ _) .nil
theorem ae (ha:SE X Γ E a fa La .v)(hr:SA X Γ E es fr Lb)(hs:starEach (a :: es) X.env=(false,eval a X.env) :: starEach es X.env:=by rfl):SA X Γ E (a :: es) (aa fa fr) (La ++ Lb):=by
 refine PA.post (aX ha hr hs) fun σ H Q ⟨env,G,B,β,I,o⟩=>?_
 refine⟨env,G,B,β,I,o.bnd.imp fun d1 β1 h x G1 H1 I1 s1 m1 vx=>⟨bp La env,G1,B,β1,I1,?_⟩⟩
 rw[eS]
 refine h.bnd.imp fun ds β2 k xs G2 H2 I2 s2 m2 r=>?_
 exact k (x :: xs) G2 H2 (by rw[cp];exact I2) (s1.trans s2) (m1.trans m2) (.cons (vx.mono s2) r)
def bH (fr:VF (List D)):VF D:=fun vs β=>(fr vs β).bnd fun ds β1=>if ds.length<=sizeLine then .ok (.tuple ds) β1 else .bad
def bo (fr:VF (List D)):VF D:=fun vs β=>(fr vs β).bnd fun ds β1=>if ds.length<=sizeLine then .ok (.list ds) β1 else .bad
theorem cG {x1}(h:SA X Γ E es fr L):SE X Γ E (.Tuple es x1 pos) (bH fr) L .v:=by
 refine PE.post' (xV h) fun σ H Q ⟨env,G,B,β,I,o⟩=>?_
 refine⟨env,G,B,β,I,o.bnd.imp fun ds β1 k xs G1 H1 I1 s1 m1 r=>?_⟩
 by_cases hz:ds.length<=sizeLine
 ·rw[if_pos hz] at k
  refine⟨by rw[r.len];exact hz,fun p hp=>?_⟩
  have x:=Ext.new I1.sub (o:=.tup xs) hp
  exact k _ _ _ (I1.ext x) (s1.trans x.gg) (m1.trans (x.hh.mov B)) (.tup (.inl (.inl aC)) (r.mono x.gg))
 ·rw[if_neg hz] at k;exact k.elim
theorem bC (h:SA X Γ E es fr L):SE X Γ E (.List es pos) (bo fr) L .w:=by
 refine PE.post' (AL h) fun σ H Q ⟨env,G,B,β,I,o⟩=>?_
 refine⟨env,G,B,β,I,o.bnd.imp fun ds β1 k xs G1 H1 I1 s1 m1 r=>?_⟩
 by_cases hz:ds.length<=sizeLine
 ·rw[if_pos hz] at k
  refine⟨by rw[r.len];exact hz,fun p hp=>?_⟩
  have x:=Ext.own I1.sub (o:=.lst xs) hp
  exact k _ _ _ (I1.ext x) s1 (m1.trans (x.hh.mov B)) ⟨p,rfl,gc m1 I1.boxThere hp,I1.sub.free hp,xs,aC,r⟩
 ·rw[if_neg hz] at k;exact k.elim
inductive FR where
 |ok (d:D) (fresh:Bool)
 |exc (c:Str)
 |bad
def FV (K:Frag)(H G' H':Hp)(fr:Bool)(d:D)(v:V):Prop:=if fr=true then ∃a,v=.ref a/\H a=none/\G' a=none/\Own K G' H' a d else Rp K G' v d
def CJ (K:Frag)(ca:Str->Addr)(n:Nat)(F:List D->FR):Sp:=fun vs H Q E=>∃G ds,ax G H/\ds.length=n/\cB K G vs ds/\match F ds with
 | .ok d fr=>∀v G' H',ax H H'->ax G G'->ax G' H'->(∀b,Mx H b->G b=none->G' b=none)->FV K H G' H' fr d v->Q v H'
 | .exc c=>∀H',ax H H'->E (.ref (ca c)) none H'
 | .bad=>False
structure cE (P:Program)(w:World)(K:Frag)(mg:Str->Option Value)(base:Heap)(ca:Str->Addr)(x:Str)(ps:List Str)(k:Nat)(F:List D->FR):Prop where
 ex:∃f fd,mg x=some (.ref f)/\PySem.W.keepIn K (.ref f)=true/\Binds K fd ps []/\gP P w K mg base (oZ P w) k f fd ps (CJ K ca ps.length F)
 len:∀ds,F ds≠.bad->ds.length=ps.length
def aw (F:List D->FR)(fr:VF (List D)):VF D:=fun vs β=>(fr vs β).bnd fun ds β1=>match F ds with
 | .ok d _=>.ok d β1
 | .exc c=>.exc c
 | .bad=>.bad
def sN (F:List D->FR)(fr:VF (List D)):VF D:=fun vs β=>(fr vs β).bnd fun ds β1=>match F ds with
 | .ok d true=>.ok d β1
 | .ok _ false=>.bad
 | .exc c=>.exc c
 | .bad=>.bad
theorem SR.called {B:Option Addr}{G1 H1 G2 H2:Hp}{σ:St}{env:En}{β:Int}(I1:SR Γ B G1 H1 σ env β)(h:ax H1 H2)(g:ax G1 G2)(s:ax G2 H2)(n:∀b,Mx H1 b->G1 b=none->G2 b=none):SR Γ B G2 H2 σ env β/\jh B H1 H2:=by
 refine⟨⟨s,I1.old.trans g,fun b n1 n2=>?_,fun b o e np=>h b o (I1.keep b o e np),fun b hb=>?_,I1.fix,fun b e=>?_,I1.len,fun i t e=>?_,I1.sep⟩,h.mov B⟩
 ·exact n b (I1.thereM n1) (I1.new b n1 n2)
 ·exact (I1.pin b hb).same fun o e=>h b o e
 ·obtain⟨h1,h2,h3⟩:=I1.box b e
  exact⟨h b _ h1,n b (Mx.lst h1) h2,h3⟩
 ·have q:=I1.slot i t e
  cases t with
  |no=>trivial
  |fz d=>obtain⟨v,h1,h2⟩:=q;exact⟨v,h1,h2.mono g⟩
  |ow d=>
   obtain⟨p,h1,h2,h3,h4,h5⟩:=q
   exact⟨p,h1,h2,n p h5.mx h3,h4,h5.mono g fun o q=>h p o q⟩
  |bx=>exact q
  |br d=>obtain⟨b1,p,h1,h4,hp,h5⟩:=q;exact⟨b1,p,h1,h4,hp,h5.mono g fun o q=>h p o q⟩
theorem SR.kp {B:Option Addr}{G H H':Hp}{σ:St}{env:En}{β:Int}(I:SR Γ B G H σ env β)(h:ax H H'):Kp Γ H':=fun b o e n=>h b o (I.keep b o e n)
theorem rJ {F:List D->FR}{ps:List Str}{Q:VK}{B:Option Addr}{G H:Hp}{σ:St}{env:En}{β:Int}(I:SR Γ B G H σ env β)(hK:X.K=Γ.K){wv:Bool}
  (h:Out Γ E (if wv=true then sN F fr (vl env) β else aw F fr (vl env) β) fun d β'=>∀v G' H',SR Γ B G' H' σ (bp L env) β'->ax G G'->jh B H H'->VO Γ.K B H G' H' (if wv=true then .w else .v) d v->Q v H') (hl:∀ds,F ds≠.bad->ds.length=ps.length) :
  aT Γ E fr L σ H fun vs H1=>CJ X.K Γ.ca ps.length F vs H1 Q E:=by
 refine⟨env,G,B,β,I,?_⟩
 have h:Out Γ E (fr (vl env) β) fun ds β1=>Out Γ E (match F ds with
   | .ok d true=>.ok d β1
   | .ok d false=>if wv=true then .bad else .ok d β1
   | .exc c=>.exc c
   | .bad=>.bad) fun d β'=>∀v G' H',SR Γ B G' H' σ (bp L env) β'->ax G G'->jh B H H'->VO Γ.K B H G' H' (if wv=true then .w else .v) d v->Q v H':=by
  cases wv with
  |true=>
   simp only[if_true] at h ⊢
   refine h.bnd.imp fun ds β1 h=>?_
   cases q:F ds with
   |ok d b=>rw[q] at h;cases b <;> exact h
   |exc c=>rw[q] at h;exact h
   |bad=>rw[q] at h;exact h
  |false=>
   simp only[Bool.false_eq_true,if_false] at h ⊢
   refine h.bnd.imp fun ds β1 h=>?_
   cases q:F ds with
   |ok d b=>rw[q] at h;cases b <;> exact h
   |exc c=>rw[q] at h;exact h
   |bad=>rw[q] at h;exact h
 refine h.imp fun ds β1 k vs G1 H1 I1 s1 m1 r=>?_
 refine⟨G1,ds,I1.sub,?_,by rw[hK];exact r,?_⟩
 ·exact hl ds fun z=>by rw[z] at k;exact k
 cases q:F ds with
 |bad=>rw[q] at k;exact k
 |exc c=>rw[q] at k;exact fun H' s=>k H' (I1.kp s)
 |ok d b=>
  rw[q] at k
  intro v G' H' hh hg hs hn fv
  obtain⟨I2,m2⟩:=I1.called hh hg hs hn
  cases b with
  |true=>
   obtain⟨p,rfl,p1,p2,p3⟩:∃a,v=.ref a/\H1 a=none/\G' a=none/\Own X.K G' H' a d:=fv
   rw[hK] at p3
   have hp:=gc m1 I1.boxThere p1
   cases wv with
   |true=>exact k _ G' H' I2 (s1.trans hg) (m1.trans m2) ⟨p,rfl,hp,p2,p3⟩
   |false=>
    obtain⟨q1,q2,q3,q4⟩:=I1.fresh p1
    obtain⟨G3,I3,s3,r3⟩:=I2.letIn q1 p2 q3 q4 p3
    exact k _ G3 H' I3 ((s1.trans hg).trans s3) (m1.trans m2) r3
  |false=>
   cases wv with
   |true=>exact k.elim
   |false=>
    have fv:Rp X.K G' v d:=fv
    rw[hK] at fv
    exact k _ G' H' I2 (s1.trans hg) (m1.trans m2) fv
theorem aL {x:Str}{ps:List Str}{k:Nat}{F:List D->FR}{p:Pos}(hf:cE X.prog X.w X.K X.mg X.base Γ.ca x ps k F)(hr:gy k X.A)(hx:Passes (oZ X.prog X.w) X E)(hK:X.K=Γ.K)(hg:Gl X x)(ha:SA X Γ E (a :: es) fr L)(hdb:(x == ("__debug__":Str))=false:=by decide)
  (he:starEach (a :: es) X.env=(false,eval a X.env) :: starEach es X.env:=by rfl) (hpl:(backTo pos (starEach es X.env)).any (·.1)=false:=by rfl):SE X Γ E (.Call (.Name x p) (a :: es) [] pos) (aw F fr) L .v:=by
 obtain⟨f,fd,hm,hk,hb,hF⟩:=hf.ex
 refine PE.post' (o6 (dvs:=[]) hF hr hg hm hk hb .nil hx ha hdb he hpl) fun σ H Q ⟨env,G,B,β,I,o⟩=>?_
 show aT Γ E fr L σ H fun vs H1=>CJ X.K Γ.ca ps.length F (vs ++ []) H1 Q E
 have:=rJ (Q:=Q) (wv:=false) (ps:=ps) I hK o hf.len
 simpa using this
theorem Bs {x:Str}{ps:List Str}{k:Nat}{F:List D->FR}{p:Pos}(hf:cE X.prog X.w X.K X.mg X.base Γ.ca x ps k F)(hr:gy k X.A)(hx:Passes (oZ X.prog X.w) X E)(hK:X.K=Γ.K)(hg:Gl X x)(ha:SA X Γ E (a :: es) fr L)(hdb:(x == ("__debug__":Str))=false:=by decide)
  (he:starEach (a :: es) X.env=(false,eval a X.env) :: starEach es X.env:=by rfl) (hpl:(backTo pos (starEach es X.env)).any (·.1)=false:=by rfl):SE X Γ E (.Call (.Name x p) (a :: es) [] pos) (sN F fr) L .w:=by
 obtain⟨f,fd,hm,hk,hb,hF⟩:=hf.ex
 refine PE.post' (o6 (dvs:=[]) hF hr hg hm hk hb .nil hx ha hdb he hpl) fun σ H Q ⟨env,G,B,β,I,o⟩=>?_
 show aT Γ E fr L σ H fun vs H1=>CJ X.K Γ.ca ps.length F (vs ++ []) H1 Q E
 have:=rJ (Q:=Q) (wv:=true) (ps:=ps) I hK o hf.len
 simpa using this
end
inductive SO where
 |nx (env:En) (β:Int)
 |bk (env:En) (β:Int)
 |ct (env:En) (β:Int)
 |rt (d:D) (fr:Bool) (β:Int)
 |exc (c:Str)
 |bad
abbrev SF:=En->Int->SO
def RV (Γ:Fx)(G' H':Hp)(fr:Bool)(d:D)(v:V):Prop:=if fr=true then ∃a,v=.ref a/\Γ.H0 a=none/\G' a=none/\Own Γ.K G' H' a d else Rp Γ.K G' v d
def rq (Γ:Fx)(E:XK)(G:Hp)(N:Ends):SO->Prop
 | .nx env β=>∀B G' H' σ,SR Γ B G' H' σ env β->ax G G'->N.nx σ H'
 | .bk env β=>∀B G' H' σ,SR Γ B G' H' σ env β->ax G G'->N.bk σ H'
 | .ct env β=>∀B G' H' σ,SR Γ B G' H' σ env β->ax G G'->N.ct σ H'
 | .rt d fr β=>∀B G' H' σ env v,SR Γ B G' H' σ env β->ax G G'->RV Γ G' H' fr d v->N.rt v H'
 | .exc c=>∀H',Kp Γ H'->E (.ref (Γ.ca c)) none H'
 | .bad=>False
def sT (Γ:Fx)(E:XK)(m:SF):TS:=fun N σ H=>∃env G B β,SR Γ B G H σ env β/\rq Γ E G N (m env β)
def SS (X:Cx)(Γ:Fx)(E:XK)(st:Stmt)(m:SF):Prop:=PS X st (sT Γ E m)
def CH (X:Cx)(Γ:Fx)(E:XK)(st:List Stmt)(m:SF):Prop:=sf X st (sT Γ E m)
theorem sf.post {X:Cx}{st:List Stmt}{t u:TS}(h:sf X st t)(m:∀D σ H,u D σ H->t D σ H):sf X st u:=fun pins s σ H D I q=>h pins s σ H D I (m D σ H q)
def aG (m m':SF):SF:=fun env β=>match m env β with
 | .nx env' β'=>m' env' β'
 |r=>r
def lh:SF:=fun env β=>.nx env β
section
variable {X:Cx}{Γ:Fx}{E:XK}{e a b c:Expr}{f fa fb:VF D}{L La Lb:List Nat}{md ma mb:Md}{pos:Pos}{st:Stmt}{sts:List Stmt}{m m':SF}{ta:VF Bool}
theorem rq.weak {G G1:Hp}{N:Ends}{r:SO}(h:rq Γ E G N r)(s:ax G G1):rq Γ E G1 N r:=by
 cases r with
 |nx env β=>exact fun B G' H' σ I s'=>h B G' H' σ I (s.trans s')
 |bk env β=>exact fun B G' H' σ I s'=>h B G' H' σ I (s.trans s')
 |ct env β=>exact fun B G' H' σ I s'=>h B G' H' σ I (s.trans s')
 |rt d fr β=>exact fun B G' H' σ env v I s'=>h B G' H' σ env v I (s.trans s')
 |exc c=>exact h
 |bad=>exact h
theorem bY:CH X Γ E [] lh:=sf.post yS fun N σ H ⟨env,G,B,β,I,o⟩=>o B G H σ I (ax.refl _)
theorem ak (h:SS X Γ E st m)(h':CH X Γ E sts m'):CH X Γ E (st :: sts) (aG m m'):=by
 refine sf.post (iW h h') fun N σ H ⟨env,G,B,β,I,o⟩=>?_
 refine⟨env,G,B,β,I,?_⟩
 unfold aG at o
 cases q:m env β with
 |nx env' β'=>rw[q] at o;exact fun B' G' H' σ' I' s'=>⟨env',G',B',β',I',o.weak s'⟩
 |bk env' β'=>rw[q] at o;exact o
 |ct env' β'=>rw[q] at o;exact o
 |rt d fr β'=>rw[q] at o;exact o
 |exc c=>rw[q] at o;exact o
 |bad=>rw[q] at o;exact o
theorem ay (h:SS X Γ E st m):CH X Γ E [st] m:=jl h
def toS {α:Type}(r:R α)(k:α->Int->SO):SO:=match r with
 | .ok x β=>k x β
 | .exc c=>.exc c
 | .bad=>.bad
theorem cF {α:Type}{G:Hp}{N:Ends}{r:R α}{k:α->Int->SO}{P:α->Int->Prop}(h:rq Γ E G N (toS r k))(i:∀x β,rq Γ E G N (k x β)->P x β):Out Γ E r P:=by
 cases r with
 |ok x β=>exact i x β h
 |exc c=>exact h
 |bad=>exact h
theorem SR.set' {B:Option Addr}{G H:Hp}{σ:St}{env:En}{β:Int}(I:SR Γ B G H σ env β)(i:Nat){v:V}{d:D}(h:Rp Γ.K G v d):SR Γ B G H (σ.set i (some v)) (env.set i (.fz d)) β:=by
 by_cases hi:i < env.length
 ·exact I.set hi h
 ·have h1:env.set i (.fz d)=env:=set_eq_of_length_le (by omega)
  have h2:σ.set i (some v)=σ:=set_eq_of_length_le (by rw[I.len];omega)
  rw[h1,h2];exact I
theorem SR.setOw' {B:Option Addr}{G H:Hp}{σ:St}{env:En}{β:Int}(I:SR Γ B G H σ env β)(i:Nat){a:Addr}{d:D}(h0:Γ.H0 a=none)(hg:G a=none)(hb:B≠some a)(h:Own Γ.K G H a d)(hn:∀(j:Nat) (d':D),env[j]? =some (.ow d')->σ[j]?≠some (some (.ref a))):SR Γ B G H (σ.set i (some (.ref a))) (env.set i (.ow d)) β:=by
 by_cases hi:i < env.length
 ·exact I.setOw hi h0 hg hb h fun j d' e _=>hn j d' e
 ·have h1:env.set i (.ow d)=env:=set_eq_of_length_le (by omega)
  have h2:σ.set i (some (.ref a))=σ:=set_eq_of_length_le (by rw[I.len];omega)
  rw[h1,h2];exact I
def ba (i:Nat)(L:List Nat)(f:VF D):SF:=fun env β=>toS (f (vl env) β) fun d β'=>.nx ((bp L env).set i (.fz d)) β'
theorem aV {i:Nat}{x:Str}{pos':Pos}(he:SE X Γ E e f L .v)(hN:X.N.Nodup)(hi:X.N[i]? =some x:=by rfl)(hx:Loc X.env.scope x:=by first |exact Or.inl rfl |exact Or.inr rfl)(hs:swapsWith e (some (.Name x pos')) pos.line X.env=pure false:=by rfl)(hf:X.fn x=true\/X.env.scope.names.lookup x=some .local:=by first |exact .inl rfl |exact .inr rfl |assumption) :
  SS X Γ E (.Assign [.Name x pos'] e pos) (ba i L f):=by
 refine PS.post (qD hN hi hx he hs hf) fun N σ H ⟨env,G,B,β,I,o⟩=>?_
 refine⟨env,G,B,β,I,cF o fun d β' k v G' H' I' s' m' vo=>?_⟩
 exact k B G' H' _ (I'.set' i vo) s'
def gY (i:Nat)(L:List Nat)(f:VF D):SF:=fun env β=>toS (f (vl env) β) fun d β'=>.nx ((bp L env).set i (.ow d)) β'
theorem dS {i:Nat}{x:Str}{pos':Pos}(he:SE X Γ E e f L .w)(hN:X.N.Nodup)(hi:X.N[i]? =some x:=by rfl)(hx:Loc X.env.scope x:=by first |exact Or.inl rfl |exact Or.inr rfl)(hs:swapsWith e (some (.Name x pos')) pos.line X.env=pure false:=by rfl)(hf:X.fn x=true\/X.env.scope.names.lookup x=some .local:=by first |exact .inl rfl |exact .inr rfl |assumption) :
  SS X Γ E (.Assign [.Name x pos'] e pos) (gY i L f):=by
 refine PS.post (qD hN hi hx he hs hf) fun N σ H ⟨env,G,B,β,I,o⟩=>?_
 refine⟨env,G,B,β,I,cF o fun d β' k v G' H' I' s' m' vo=>?_⟩
 obtain⟨p,rfl,h1,h2,h3⟩:=vo
 obtain⟨q1,q2,q3,q4⟩:=I.fresh h1
 exact k B G' H' _ (I'.setOw' i q1 h2 q3 h3 fun j d' z=>q4 j d' (qt z)) s'
def BY (L:List Nat)(f:VF D):SF:=fun env β=>toS (f (vl env) β) fun _ β'=>.nx (bp L env) β'
theorem CO (he:SE X Γ E e f L md)(hs:swapsWith e none pos.line X.env=pure false:=by rfl):SS X Γ E (.Expr e pos) (BY L f):=by
 refine PS.post (o8 he hs) fun N σ H ⟨env,G,B,β,I,o⟩=>?_
 exact⟨env,G,B,β,I,cF o fun d β' k v G' H' I' s' m' vo=>k B G' H' _ I' s'⟩
def bG (f:VF D):SF:=fun env β=>toS (f (vl env) β) fun d β'=>.rt d false β'
theorem aR (he:SE X Γ E e f L .v):SS X Γ E (.Return (some e) pos) (bG f):=by
 refine PS.post (nW he) fun N σ H ⟨env,G,B,β,I,o⟩=>?_
 exact⟨env,G,B,β,I,cF o fun d β' k v G' H' I' s' m' vo=>k B G' H' σ _ v I' s' vo⟩
def rL (f:VF D):SF:=fun env β=>toS (f (vl env) β) fun d β'=>.rt d true β'
theorem pj (he:SE X Γ E e f L .w):SS X Γ E (.Return (some e) pos) (rL f):=by
 refine PS.post (nW he) fun N σ H ⟨env,G,B,β,I,o⟩=>?_
 refine⟨env,G,B,β,I,cF o fun d β' k v G' H' I' s' m' vo=>?_⟩
 obtain⟨p,rfl,h1,h2,h3⟩:=vo
 obtain⟨q1,_⟩:=I.fresh h1
 exact k B G' H' σ _ _ I' s' ⟨p,rfl,q1,h2,h3⟩
def pG (i:Nat):SF:=fun env β=>match env[i]? with
 |some (.fz d)=>.rt d false β
 |some (.ow d)=>.rt d true β
 |_=>.bad
theorem nI (i:Nat){x:Str}{p:Pos}(hN:X.N[i]? =some x:=by rfl)(hv:zI X.env.scope x:=by first |exact Or.inl rfl |exact Or.inr (Or.inl rfl) |exact Or.inr (Or.inr rfl))(hd:(x == ("__debug__":Str))=false:=by decide)
  (hcd:(x == ("__classdict__":Str))=false:=by decide):SS X Γ E (.Return (some (.Name x p)) pos) (pG i):=by
 refine PS.post (nW (jJ hN hv hd hcd)) fun N σ H ⟨env,G,B,β,I,o⟩=>?_
 unfold pG at o
 cases q:env[i]? with
 |none=>rw[q] at o;exact o.elim
 |some s=>
  rw[q] at o
  cases s with
  |no=>exact o.elim
  |bx=>exact o.elim
  |br d=>exact o.elim
  |fz d=>
   obtain⟨v,h1,h2⟩:=I.slot i _ q
   exact⟨v,h1,o B G H σ env v I (ax.refl _) h2⟩
  |ow d=>
   obtain⟨p,h1,h2,h3,h4,h5⟩:=I.slot i _ q
   exact⟨_,h1,o B G H σ env _ I (ax.refl _) ⟨p,rfl,h2,h3,h5⟩⟩
def jS (L:List Nat)(t:VF Bool)(m m':SF):SF:=fun env β=>toS (t (vl env) β) fun c β'=>if c=true then m (bp L env) β' else m' (bp L env) β'
theorem cV {x y:List Stmt}(hc:zu X Γ E c ta L)(ha:CH X Γ E x m)(hb:CH X Γ E y m'):SS X Γ E (.If c x y pos) (jS L ta m m'):=by
 refine PS.post (EF hc ha hb) fun N σ H ⟨env,G,B,β,I,o⟩=>?_
 refine⟨env,G,B,β,I,cF o fun d β' k G' H' I' s' m'=>?_⟩
 cases d with
 |true=>exact qW ⟨_,G',B,β',I',rq.weak k s'⟩
 |false=>exact qX ⟨_,G',B,β',I',rq.weak k s'⟩
def ie (L:List Nat)(t:VF Bool)(m:SF):Nat->SF
 | 0=>fun _ _=>.bad
 |n + 1=>fun env β=>toS (t (vl env) β) fun c β'=>if c=true then (match m (bp L env) β' with
   | .nx env2 β2=>ie L t m n env2 β2
   | .ct env2 β2=>ie L t m n env2 β2
   | .bk env2 β2=>.nx env2 β2
   |r=>r) else .nx (bp L env) β'
theorem lx {x:List Stmt}(n:Nat)(hp:PassesOwn (model X.prog X.w) X.A X.env X.xe)(hc:zu X Γ E c ta L)(hb:CH X Γ E x m):SS X Γ E (.While c x [] pos) (ie L ta m n):=by
 refine PS.post (BX hp hc hb) fun N σ H ⟨env,G,B,β,I,o⟩=>?_
 refine⟨fun k σ H=>∃env G1 B β,SR Γ B G1 H σ env β/\ax G G1/\rq Γ E G1 N (ie L ta m k env β),⟨n,env,G,B,β,I,ax.refl _,o⟩,?_⟩
 rintro k σ H ⟨env,G1,B,β,I,sG,o⟩
 cases k with
 |zero=>exact o.elim
 |succ k=>
  refine⟨env,G1,B,β,I,cF o fun d β' q G' H' I' s' m'=>?_⟩
  cases d with
  |false=>exact qX (q B G' H' σ I' s')
  |true=>
   refine qW ⟨fun σ H=>∃env G1 B β,SR Γ B G1 H σ env β/\ax G G1/\rq Γ E G1 N (ie L ta m k env β),fun σ' H' h=>⟨k,Nat.lt_succ_self k,h⟩,bp L env,G',B,β',I',?_⟩
   rw[if_pos rfl] at q
   cases r:m (bp L env) β' with
   |nx env2 β2=>rw[r] at q;exact fun B2 G2 H2 σ2 I2 s2=>⟨env2,G2,B2,β2,I2,(sG.trans s').trans s2,rq.weak q (s'.trans s2)⟩
   |ct env2 β2=>rw[r] at q;exact fun B2 G2 H2 σ2 I2 s2=>⟨env2,G2,B2,β2,I2,(sG.trans s').trans s2,rq.weak q (s'.trans s2)⟩
   |bk env2 β2=>rw[r] at q;exact fun B2 G2 H2 σ2 I2 s2=>q B2 G2 H2 σ2 I2 (s'.trans s2)
   |rt d fr β2=>rw[r] at q;exact rq.weak q s'
   |exc c=>rw[r] at q;exact q
   |bad=>rw[r] at q;exact q
def Walk (K:Frag)(B:Option Addr)(G H1:Hp)(ds:List D)(J:It):Prop:=∀Gc H (i:Nat),ax G Gc->ax Gc H->jh B H1 H->
 (i < ds.length->J.go i H/\∀x H',J.yld i H x H'->∃G' d,Ext Gc H G' H'/\ds[i]? =some d/\Rp K G' x d)/\(ds.length<=i->J.stop i H)
theorem Walk.any {K:Frag}{B:Option Addr}{G H1:Hp}{ds:List D}{J:It}(h:Walk K B G (fun _=>none) ds J):Walk K B G H1 ds J:=fun Gc H i s1 s2 _=>h Gc H i s1 s2 fun b o e=>by cases e
def iT (Γ:Fx)(E:XK)(f:VF (List D))(L:List Nat)(md:Md):TI:=fun σ H Rr=>∃env G B β,SR Γ B G H σ env β/\
 Out Γ E (f (vl env) β) fun ds β'=>∀J G' H',SR Γ B G' H' σ (bp L env) β'->ax G G'->jh B H H'->Walk Γ.K B G' (match md with | .b=>H' |_=>fun _=>none) ds J->Rr J H'
def SI (X:Cx)(Γ:Fx)(E:XK)(tg e:Expr)(f:VF (List D))(L:List Nat)(md:Md):Prop:=PI X tg e (iT Γ E f L md)
theorem PI.post {X:Cx}{tg e:Expr}{t u:TI}(h:PI X tg e t)(m:∀σ H Q,u σ H Q->t σ H Q):PI X tg e u:=fun pins s σ H Q I q=>h pins s σ H Q I (m σ H Q q)
variable {tg:Expr}
def ji:D->Option (List D)
 | .list ds=>some ds
 | .tuple ds=>some ds
 |_=>none
def bw (fa:VF D):VF (List D):=fun vs β=>(fa vs β).bnd fun x β1=>R.of (ji x) β1
end
def KA (K:Frag)(tl:TE):TI:=fun σ H R=>tl σ H fun x H1=>∃a xs,x=.ref a/\((hX K H1 a xs/\R (Ae K a) H1)\/(gJ K H1 a xs/\R (EB K a) H1))
section
variable {X:Cx}{tg l:Expr}{tl:TE}
theorem EO (hl:PE X l tl):PI X tg l (KA X.K tl):=by
 intro pins s σ H R I h
 refine cS (hl pins s σ H _ I h) fun v s1 ⟨x,H1,I1,r1,q1⟩=>?_
 obtain⟨a,xs,e,q⟩:=q1
 subst e
 cases r1
 rcases q with⟨hq,q⟩ | ⟨hq,q⟩
 ·obtain⟨its,rv,p,hz⟩:=I1.list hq
  refine wpAny_pyIter_list p.isList ?_
  refine⟨s1.heap.objs.size,[s1.heap.objs.size],_,_,H1,rfl,I1.kept (t':=s1.toks) fun b o e=>Heap.get?_push_of_some _ e,oz a _,⟨_,Heap.get?_push_size _ rfl,rfl,rfl⟩,fun b hb=>?_,q⟩
  have e:b=s1.heap.objs.size:=by simpa using hb
  subst e
  exact I1.fpOk (Nat.le_refl _) (I1.hok.fresh (Nat.le_refl _))
 ·obtain⟨its,rv,p,hz⟩:=I1.tuple hq
  refine wpAny_pyIter_tuple (show s1.heap.IsTuple a its.toArray from p) ?_
  refine⟨s1.heap.objs.size,[s1.heap.objs.size],_,_,H1,rfl,I1.kept (t':=s1.toks) fun b o e=>Heap.get?_push_of_some _ e,pJ a _,⟨_,Heap.get?_push_size _ rfl,rfl,rfl⟩,fun b hb=>?_,q⟩
  have e:b=s1.heap.objs.size:=by simpa using hb
  subst e
  exact I1.fpOk (Nat.le_refl _) (I1.hok.fresh (Nat.le_refl _))
end
section
variable {X:Cx}{Γ:Fx}{E:XK}{e a b c:Expr}{f fa fb:VF D}{L La Lb:List Nat}{md ma mb:Md}{pos:Pos}{st:Stmt}{sts:List Stmt}{m m':SF}{ta:VF Bool}{tg:Expr}
theorem n5 {K:Frag}{B:Option Addr}{G H1:Hp}{p:Addr}{xs:List V}{ds:List D}(h:∀Gc H,ax G Gc->ax Gc H->jh B H1 H->hX K H p xs)(r:cB K G xs ds):Walk K B G H1 ds (Ae K p):=fun Gc H i s1 s2 m=>by
 have hq:=h Gc H s1 s2 m
 refine⟨fun hi=>⟨?_,fun x H' y=>?_⟩,fun hi=>⟨xs,hq,by rw[r.len];exact hi⟩⟩
 ·have hi':i < xs.length:=by rw[r.len];exact hi
  exact⟨xs,xs[i],hq,by simp[hi']⟩
 ·obtain⟨rfl,y⟩:=y
  obtain⟨d,e,q⟩:=r.at' (y xs hq)
  exact⟨Gc,d,Ext.refl s2,e,q.mono s1⟩
theorem vh {K:Frag}{B:Option Addr}{G H1:Hp}{p:Addr}{xs:List V}{ds:List D}(h:∀Gc H,ax G Gc->ax Gc H->jh B H1 H->gJ K H p xs)(r:cB K G xs ds):Walk K B G H1 ds (EB K p):=fun Gc H i s1 s2 m=>by
 have hq:=h Gc H s1 s2 m
 refine⟨fun hi=>⟨?_,fun x H' y=>?_⟩,fun hi=>⟨xs,hq,by rw[r.len];exact hi⟩⟩
 ·have hi':i < xs.length:=by rw[r.len];exact hi
  exact⟨xs,xs[i],hq,by simp[hi']⟩
 ·obtain⟨rfl,y⟩:=y
  obtain⟨d,e,q⟩:=r.at' (y xs hq)
  exact⟨Gc,d,Ext.refl s2,e,q.mono s1⟩
theorem Ao (hK:X.K=Γ.K)(ha:SE X Γ E a fa La .v):SI X Γ E tg a (bw fa) La .v:=by
 refine PI.post (EO ha) fun σ H Q ⟨env,G,B,β,I,o⟩=>?_
 refine⟨env,G,B,β,I,o.bnd.imp fun d1 β1 h x G1 H1 I1 s1 m1 vx=>?_⟩
 obtain⟨ds,e,k⟩:=h.of
 rw[hK]
 have vx:Rp Γ.K G1 x d1:=vx
 cases d1 with
 |list l=>
  cases e
  cases vx with
  | @lst p xs _ hq r=>exact⟨p,xs,rfl,.inl ⟨.inl (Rd.mono (.inl hq) I1.sub),k _ G1 H1 I1 s1 m1 (n5 (fun Gc H t1 t2 _=>.inl (Rd.mono (.inl hq) (t1.trans t2))) r)⟩⟩
 |tuple l=>
  cases e
  cases vx with
  | @tup p xs _ hq r=>exact⟨p,xs,rfl,.inr ⟨hq.grow I1.sub.grow,k _ G1 H1 I1 s1 m1 (vh (fun Gc H t1 t2 _=>hq.grow (t1.trans t2).grow) r)⟩⟩
 |_=>cases e
theorem lQ (hK:X.K=Γ.K)(ha:SE X Γ E a fa La ma):SI X Γ E tg a (bw fa) La .b:=by
 refine PI.post (EO ha) fun σ H Q ⟨env,G,B,β,I,o⟩=>?_
 refine⟨env,G,B,β,I,o.bnd.imp fun d1 β1 h x G1 H1 I1 s1 m1 vx=>?_⟩
 obtain⟨ds,e,k⟩:=h.of
 rw[hK]
 have vx:=vx.brw I.boxThere
 cases d1 with
 |list l=>
  cases e
  rcases vx with vx | ⟨p,rfl,hb,xs,q,r⟩
  ·cases vx with
   | @lst p xs _ hq r=>exact⟨p,xs,rfl,.inl ⟨.inl (Rd.mono (.inl hq) I1.sub),k _ G1 H1 I1 s1 m1 (n5 (fun Gc H t1 t2 _=>.inl (Rd.mono (.inl hq) (t1.trans t2))) r)⟩⟩
  ·exact⟨p,xs,rfl,.inl ⟨.inl (.inl q),k _ G1 H1 I1 s1 m1 (n5 (fun Gc H t1 t2 mv=>.inl (.inl (mv p _ q hb))) r)⟩⟩
 |tuple l=>
  cases e
  rcases vx with vx | ⟨p,rfl,hb,q⟩
  ·cases vx with
   | @tup p xs _ hq r=>exact⟨p,xs,rfl,.inr ⟨hq.grow I1.sub.grow,k _ G1 H1 I1 s1 m1 (vh (fun Gc H t1 t2 _=>hq.grow (t1.trans t2).grow) r)⟩⟩
  ·exact q.elim
 |_=>cases e
def cg (lo:Int)(n:Nat):List D:=(List.range n).map fun (k:Nat)=>int (lo + k)
theorem dN (lo:Int)(n:Nat):(cg lo n).length=n:=by unfold cg;simp
theorem wu {K:Frag}{B:Option Addr}{G H1:Hp}(lo:Int)(n:Nat):Walk K B G H1 (cg lo n) (zE lo n):=fun Gc H i s1 s2 m=>by
 rw[dN]
 refine⟨fun hi=>⟨hi,fun x H' y=>?_⟩,fun hi=>hi⟩
 obtain⟨rfl,rfl⟩:=y
 refine⟨Gc,.int (lo + i),Ext.refl s2,?_,.int _⟩
 unfold cg
 rw[getElem?_map,getElem?_range hi];rfl
def Aj (j:Int):Bool:=Nat.ble j.natAbs 1000000
theorem oA {j:Int}(h:Aj j=true): -(2 ^ 62)<=j/\j < 2 ^ 62:=by
 have:=Nat.le_of_ble_eq_true h
 omega
theorem nX {j:Int}(h: -1000<=j)(h2:j<=10000):Aj j=true:=Nat.ble_eq_true_of_le (by omega)
def bX (fa:VF D):VF (List D):=fun vs β=>(fa vs β).bnd fun x β1=>match x with
 | .int j=>if Aj j=true then .ok (cg 0 j.toNat) β1 else .bad
 |_=>.bad
def sv (fa fb:VF D):VF (List D):=fun vs β=>(fa vs β).bnd fun x β1=>(fb vs β1).bnd fun y β2=>match x,y with
 | .int i,.int j=>if (Aj i && Aj j)=true then .ok (cg i (j - i).toNat) β2 else .bad
 |_,_=>.bad
theorem iS {p:Pos}(hg:Gl X "range")(hm:X.mg "range"=none)(ha:SE X Γ E a fa La ma)(hs:starEach [a] X.env= [(false,eval a X.env)]:=by rfl)(hs':starEach [a] X.env=(false,eval a X.env) :: starEach [] X.env:=by rfl):SI X Γ E tg (.Call (.Name "range" p) [a] [] pos) (bX fa) La md:=by
 refine PI.post (l5 hg hm (aX ha bM hs') hs) fun σ H Q ⟨env,G,B,β,I,o⟩=>?_
 refine⟨env,G,B,β,I,o.bnd.imp fun d1 β1 h x G1 H1 I1 s1 m1 vx=>?_⟩
 have vx:=vx.brw I.boxThere
 cases d1 with
 |int j=>
  obtain rfl:=vx.int
  dsimp only at h
  by_cases hj:Aj j=true
  ·rw[if_pos hj] at h
   exact⟨j,rfl,(oA hj).1,(oA hj).2,h _ G1 H1 I1 s1 m1 (wu 0 _)⟩
  ·rw[if_neg hj] at h;exact h.elim
 |_=>exact h.elim
theorem Hw {p:Pos}(hg:Gl X "range")(hm:X.mg "range"=none)(ha:SE X Γ E a fa La ma)(hb:SE X Γ E b fb Lb mb)(hs:starEach [a,b] X.env= [(false,eval a X.env),(false,eval b X.env)]:=by rfl)(hs2:starEach [b] X.env= [(false,eval b X.env)]:=by rfl)(hs':starEach [a,b] X.env=(false,eval a X.env) :: starEach [b] X.env:=by rfl)(hs3:starEach [b] X.env=(false,eval b X.env) :: starEach [] X.env:=by rfl):SI X Γ E tg (.Call (.Name "range" p) [a,b] [] pos) (sv fa fb) (La ++ Lb) md:=by
 refine PI.post (zR hg hm (aX ha (aX hb bM hs3) hs') hs hs2) fun σ H Q ⟨env,G,B,β,I,o⟩=>?_
 refine two (W:=fun x y H2=>∃i j:Int,[x,y]= [.int i,.int j]/\(-(2 ^ 62)<=i/\i < 2 ^ 62/\ -(2 ^ 62)<=j/\j < 2 ^ 62)/\Q (zE i (j - i).toNat) H2) I (o.bnd.imp fun d1 β1 h=>h.bnd.imp fun d2 β2 h x y G2 H2 I2 s2 m2 bx by'=>?_)
 obtain⟨i,j,rfl,rfl⟩:∃i j,d1=.int i/\d2=.int j:=by
  cases d1 <;> cases d2 <;> first |exact h.elim |exact⟨_,_,rfl,rfl⟩
 obtain rfl:=bx.int
 obtain rfl:=by'.int
 dsimp only at h
 by_cases hj:(Aj i && Aj j)=true
 ·rw[if_pos hj] at h
  rw[Bool.and_eq_true] at hj
  exact⟨i,j,rfl,⟨(oA hj.1).1,(oA hj.1).2,(oA hj.2).1,(oA hj.2).2⟩,h _ G2 H2 I2 s2 m2 (wu i _)⟩
 ·rw[if_neg hj] at h;exact h.elim
inductive Tg where
 |nm (i:Nat)
 |two (i j:Nat)
def pairD:D->Option (D×D)
 | .tuple [x,y]=>some (x,y)
 |_=>none
theorem BU {d x y:D}(h:pairD d=some (x,y)):d=.tuple [x,y]:=by
 unfold pairD at h
 split at h
 ·cases h;rfl
 ·cases h
def iq:Tg->D->En->Option En
 | .nm i,d,env=>some (env.set i (.fz d))
 | .two i j,d,env=>(pairD d).map fun p=>(env.set i (.fz p.1)).set j (.fz p.2)
def mq:Tg->D->List Nv->Option (List Nv)
 | .nm i,d,vs=>some (vs.set i (.da d))
 | .two i j,d,vs=>(pairD d).map fun p=>(vs.set i (.da p.1)).set j (.da p.2)
theorem xE (env:En)(i:Nat)(s:Sl):vl (env.set i s)=(vl env).set i s.val:=by unfold vl;rw[List.map_set]
theorem Dr (t:Tg)(d:D)(env:En):(iq t d env).map vl=mq t d (vl env):=by
 cases t with
 |nm i=>show some (vl _)=some _;rw[xE];rfl
 |two i j=>
  show ((pairD d).map _).map vl=(pairD d).map _
  cases pairD d with
  |none=>rfl
  |some p=>show some (vl _)=some _;rw[xE,xE];rfl
def gT (Γ:Fx)(t:Tg):TG:=fun v σ H Q=>∃env G B β d env',SR Γ B G H σ env β/\Rp Γ.K G v d/\iq t d env=some env'/\∀σ',SR Γ B G H σ' env' β->Q σ' H
def SG (X:Cx)(Γ:Fx)(tg:Expr)(t:Tg):Prop:=PG X tg (gT Γ t)
theorem PG.post {X:Cx}{tg:Expr}{t u:TG}(h:PG X tg t)(m:∀v σ H Q,u v σ H Q->t v σ H Q):PG X tg u:=fun pins s σ H v uu Q I r q=>h pins s σ H v uu Q I r (m v σ H Q q)
theorem cq {i:Nat}{x:Str}(hN:X.N.Nodup)(hi:X.N[i]? =some x:=by rfl)(hx:Loc X.env.scope x:=by first |exact Or.inl rfl |exact Or.inr rfl)(hf:X.fn x=true\/X.env.scope.names.lookup x=some .local:=by first |exact .inl rfl |exact .inr rfl |assumption):SG X Γ (.Name x pos) (.nm i):=by
 refine PG.post (de hN hi hx hf) fun v σ H Q ⟨env,G,B,β,d,env',I,r,e,k⟩=>?_
 cases e
 exact k _ (I.set' i r)
theorem jL {i j:Nat}{x y:Str}{px py:Pos}{n:Nat}(hN:X.N.Nodup)(hc:X.calm=true:=by rfl)(hK:X.K=Γ.K:=by rfl)(hi:X.N[i]? =some x:=by rfl)(hj:X.N[j]? =some y:=by rfl)(hx:Loc X.env.scope x:=by first |exact Or.inl rfl |exact Or.inr rfl)(hy:Loc X.env.scope y:=by first |exact Or.inl rfl |exact Or.inr rfl)
  (hf:X.fn x=true\/X.env.scope.names.lookup x=some .local:=by first |exact .inl rfl |exact .inr rfl |assumption) (hf':X.fn y=true\/X.env.scope.names.lookup y=some .local:=by first |exact .inl rfl |exact .inr rfl |assumption):SG X Γ (.Tuple [.Name x px,.Name y py] n pos) (.two i j):=by
 refine PG.post (pU (n:=2) hc (dP (de hN hi hx hf) (dP (de hN hj hy hf') nF))) fun v σ H Q ⟨env,G,B,β,d,env',I,r,e,k⟩=>?_
 rw[hK]
 have e:(pairD d).map (fun p=>(env.set i (.fz p.1)).set j (.fz p.2))=some env':=e
 cases q:pairD d with
 |none=>rw[q] at e;cases e
 |some p=>
  obtain⟨dx,dy⟩:=p
  rw[q] at e
  cases e
  obtain rfl:=BU q
  cases r with
  | @tup p xs _ hq r=>
   cases r with
   |cons r1 r=>
    cases r with
    |cons r2 r=>
     cases r
     exact⟨p,_,rfl,hq.grow I.sub.grow,rfl,_,_,rfl,_,_,rfl,rfl,k _ ((I.set' i r1).set' j r2)⟩
def lu (t:Tg)(m:SF):List D->SF
 | []=>fun env β=>.nx env β
 |d :: ds=>fun env β=>match iq t d env with
  |none=>.bad
  |some env1=>match m env1 β with
   | .nx env2 β2=>lu t m ds env2 β2
   | .ct env2 β2=>lu t m ds env2 β2
   | .bk env2 β2=>.nx env2 β2
   |r=>r
def cH (t:Tg)(L:List Nat)(fi:VF (List D))(m:SF):SF:=fun env β=>toS (fi (vl env) β) fun ds β'=>lu t m ds (bp L env) β'
theorem dO {t:Tg}{fi:VF (List D)}{x:List Stmt}(hp:PassesOwn (model X.prog X.w) X.A X.env X.xe)(hc:X.calm=true)(hi:SI X Γ E tg e fi L .v)(hg:SG X Γ tg t)(hb:CH X Γ E x m)(hs:∀x,foldedSetIterable e X.env x=pure x:=by intro _;rfl):SS X Γ E (.For tg e x [] pos) (cH t L fi m):=by
 refine PS.post (tK hp hc hi hg hb hs) fun N σ H ⟨env,G,B,β,I,o⟩=>?_
 refine⟨env,G,B,β,I,cF o fun ds β' q J G' H' I' s' m' w=>?_⟩
 have w:Walk Γ.K B G' (fun _=>none) ds J:=w
 refine⟨fun i n σ H=>n=ds.length - i/\i<=ds.length/\∃env G1 B β,SR Γ B G1 H σ env β/\ax G' G1/\rq Γ E G1 N (lu t m (ds.drop i) env β),⟨ds.length,by simp,Nat.zero_le _,bp L env,G',B,β',I',ax.refl _,by rw[List.drop_zero];exact rq.weak q s'⟩,?_⟩
 rintro i n σ H ⟨rfl,hi,env,G1,B1,β1,I1,s1,q⟩
 obtain⟨w1,w2⟩:=w G1 H i s1 I1.sub fun b o e=>by cases e
 by_cases hlt:i < ds.length
 ·obtain⟨go,yl⟩:=w1 hlt
  refine .inr ⟨go,fun σ H=>∃env G2 B β,SR Γ B G2 H σ env β/\ax G' G2/\rq Γ E G2 N (lu t m (ds.drop (i + 1)) env β),fun σ2 H2 h=>⟨ds.length - (i + 1),by omega,rfl,hlt,h⟩,fun x H2 y=>?_⟩
  obtain⟨G2,d,x2,ed,rd⟩:=yl x H2 y
  have I2:=I1.ext x2
  have q:=rq.weak q x2.gg
  rw[List.drop_eq_getElem_cons hlt] at q
  have ed':ds[i]=d:=by rw[getElem?_eq_getElem hlt] at ed;exact Option.some.inj ed
  rw[ed'] at q
  unfold lu at q
  cases eb:iq t d env with
  |none=>rw[eb] at q;exact q.elim
  |some env1=>
   rw[eb] at q
   refine⟨env,G2,B1,β1,d,env1,I2,rd,eb,fun σ3 I3=>⟨env1,G2,B1,β1,I3,?_⟩⟩
   have s2:=s1.trans x2.gg
   dsimp only at q
   cases r:m env1 β1 with
   |nx env2 β2=>rw[r] at q;exact fun B2 G3 H3 σ2 I2 s3=>⟨env2,G3,B2,β2,I2,s2.trans s3,rq.weak q s3⟩
   |ct env2 β2=>rw[r] at q;exact fun B2 G3 H3 σ2 I2 s3=>⟨env2,G3,B2,β2,I2,s2.trans s3,rq.weak q s3⟩
   |bk env2 β2=>rw[r] at q;exact fun B2 G3 H3 σ2 I2 s3=>q B2 G3 H3 σ2 I2 s3
   |rt d fr β2=>rw[r] at q;exact q
   |exc c=>rw[r] at q;exact q
   |bad=>rw[r] at q;exact q
 ·have e:i=ds.length:=by omega
  subst e
  rw[List.drop_length] at q
  exact .inl ⟨w2 (Nat.le_refl _),q B1 G1 H σ I1 (ax.refl _)⟩
end
abbrev Fx.jN (Γ:Fx)(H0 G0:Hp)(par:List Addr)(br:Nat->Bool)(bx:Option Addr):Fx:=⟨Γ.K,H0,G0,par,Γ.ca,br,bx⟩
def fQ (own:Nat)(ixs:List Nat)(vs:List Nv):List Nv:=List.replicate own .no ++ ixs.map fun i=>(vs[i]?).getD .no
def Hf:Option Sl->Sl
 |some (.ow d)=>.br d
 |some s=>s
 |none=>.no
def benv (own:Nat)(ixs:List Nat)(env:En):En:=List.replicate own .no ++ ixs.map fun i=>Hf env[i]?
theorem C7 (o:Option Sl):(Hf o).val=(o.map Sl.val).getD .no:=by
 cases o with
 |none=>rfl
 |some s=>cases s <;> rfl
theorem DE (own:Nat)(ixs:List Nat)(env:En):vl (benv own ixs env)=fQ own ixs (vl env):=by
 unfold vl benv fQ
 rw[map_append,List.map_replicate,map_map]
 congr 1
 refine map_congr_left fun i _=>?_
 show (Hf env[i]?).val=_
 rw[C7,getElem?_map]
def xQ (env:En):Prop:=∀(i:Nat) (d:D),env[i]?≠some (.ow d)
theorem vJ {env:En}(h:xQ env)(L:List Nat):bp L env=env:=by
 unfold bp
 induction L with
 |nil=>rfl
 |cons i L ih=>
  rw[foldl_cons]
  have:gV env i=env:=by
   unfold gV
   split
   ·rename_i d e;exact absurd e (h i d)
   ·rfl
  rw[this];exact ih
theorem sh (own:Nat)(ixs:List Nat)(env:En):xQ (benv own ixs env):=fun i d e=>by
 unfold benv at e
 have hm:=mem_of_getElem? e
 rcases mem_append.mp hm with h |h
 ·have:=List.eq_of_mem_replicate h;cases this
 ·obtain⟨k,_,hk⟩:=mem_map.mp h
  cases q:env[k]? with
  |none=>rw[q] at hk;cases hk
  |some s=>rw[q] at hk;cases s <;> cases hk
theorem qG {env:En}(h:xQ env)(i:Nat)(d:D):xQ (env.set i (.fz d)):=fun j d' e=>by
 by_cases z:i=j
 ·subst z
  by_cases hi:i < env.length
  ·rw[getElem?_set_self hi] at e;cases e
  ·rw[set_eq_of_length_le (by omega)] at e;exact h _ _ e
 ·rw[getElem?_set_ne z] at e;exact h _ _ e
theorem zc {env env1:En}{t:Tg}{d:D}(h:xQ env)(e:iq t d env=some env1):xQ env1:=by
 cases t with
 |nm i=>cases e;exact qG h i d
 |two i j=>
  have e:(pairD d).map _=some env1:=e
  cases q:pairD d with
  |none=>rw[q] at e;cases e
  |some p=>rw[q] at e;cases e;exact qG (qG h _ _) _ _
theorem zU {env env1:En}{t:Tg}{d:D}(e:iq t d env=some env1)(d':D):iq t d' env1=iq t d' env:=by
 cases t with
 |nm i=>cases e;show some _=some _;rw[set_set]
 |two i j=>
  have e:(pairD d).map _=some env1:=e
  cases q:pairD d with
  |none=>rw[q] at e;cases e
  |some p=>
   rw[q] at e;cases e
   show (pairD d').map _=(pairD d').map _
   cases pairD d' with
   |none=>rfl
   |some p'=>
    show some _=some _
    congr 1
    dsimp only
    by_cases z:i=j
    ·subst z;simp[set_set]
    ·rw[List.set_comm _ _ (Ne.symm z),set_set,set_set]
theorem Ext.mov {G H G' H':Hp}(x:Ext G H G' H')(B:Option Addr):jh B H H':=x.hh.mov B
section
variable {Γ:Fx}{B:Option Addr}{G H G1 H1 Gc Hc:Hp}{σ σ':St}{env envb:En}{β β':Int}{own:Nat}{ixs:List Nat}{Da:Addr}{acc:List V}
def xJ (envb:En):Nat->Bool:=fun j=>match envb[j]? with
 |some (.br _)=>true
 |_=>false
theorem SR.block (I:SR Γ B G H σ env β)(own:Nat)(ixs:List Nat)(hD:H Da=none):SR (Γ.jN (upd H Da (.lst [])) G (Da :: B.toList) (xJ (benv own ixs env)) B) B G (upd H Da (.lst [])) (dH own ixs σ) (benv own ixs env) β:=by
 obtain⟨q1,q2,q3,q4⟩:=I.fresh hD
 have nB:∀b,B=some b->b≠Da:=fun b e z=>q3 (by rw[<-z];exact e)
 refine⟨I.sub.trans (ax.new hD),ax.refl _,fun b _ h=>h,fun b o h _=>h,fun b hb=>?_,fun b e=>e,fun b e=>?_,?_,fun i s e=>?_,fun i j c d d' e=>absurd e (sh own ixs env i d)⟩
 ·rcases mem_cons.mp hb with z |z
  ·subst z;exact Mx.lst aC
  ·have z':B=some b:=by simpa using z
   exact Mx.lst (by rw[aE (nB b z')];exact (I.box b z').1)
 ·obtain⟨h1,h2,_⟩:=I.box b e
  exact⟨by rw[aE (nB b e)];exact h1,h2,.inl (mem_cons_of_mem _ (by simpa using e))⟩
 ·unfold dH benv;simp
 ·by_cases hi:i < own
  ·unfold benv at e
   rw[getElem?_append_left (by simpa using hi),getElem?_replicate,if_pos hi] at e
   cases e;trivial
  ·have e0:=e
   unfold benv at e
   rw[getElem?_append_right (by simpa using hi),length_replicate,getElem?_map] at e
   cases ek:ixs[i - own]? with
   |none=>rw[ek] at e;cases e
   |some k=>
    rw[ek] at e
    have e:Hf env[k]? =s:=Option.some.inj e
    have es:(dH own ixs σ)[i]? =some ((σ[k]?).join):=by
     unfold dH
     rw[getElem?_append_right (by simpa using hi),length_replicate,getElem?_map,ek];rfl
    rw[es]
    cases q:env[k]? with
    |none=>rw[q] at e;subst e;trivial
    |some t=>
     rw[q] at e
     have w:=I.slot k t q
     cases t with
     |no=>subst e;trivial
     |fz d=>subst e;obtain⟨v,h1,h2⟩:=w;exact⟨v,by rw[h1];rfl,h2⟩
     |bx=>subst e;obtain⟨a,h1,h2⟩:=w;exact⟨a,by rw[h1];rfl,h2⟩
     |ow d=>
      subst e
      obtain⟨a,h1,h2,h3,h4,h5⟩:=w
      obtain⟨o,ho⟩:=h5.obj
      have aD:a≠Da:=aO ho hD
      refine⟨by show xJ _ i=true;unfold xJ;rw[e0];rfl,a,by rw[h1];rfl,h4,?_,h5.mono (ax.refl _) fun o q=>by rw[aE aD];exact q⟩
      intro hm
      rcases mem_cons.mp hm with z |z
      ·exact aD z
      ·exact h4 (by simpa using z)
     |br d=>
      subst e
      obtain⟨b1,a,h1,h4,hp,h5⟩:=w
      obtain⟨o,ho⟩:=h5.obj
      have aD:a≠Da:=aO ho hD
      refine⟨by show xJ _ i=true;unfold xJ;rw[e0];rfl,a,by rw[h1];rfl,h4,?_,h5.mono (ax.refl _) fun o q=>by rw[aE aD];exact q⟩
      intro hm
      rcases mem_cons.mp hm with z |z
      ·exact aD z
      ·exact h4 (by simpa using z)
theorem SR.unblock (I:SR Γ B G H σ env β){br:Nat->Bool}(hD:H Da=none)(J:SR (Γ.jN (upd H Da (.lst [])) G (Da :: B.toList) br B) B Gc Hc σ' envb β'):SR Γ B Gc Hc σ env β'/\jh B H Hc/\Gc Da=none:=by
 obtain⟨q1,q2,q3,q4⟩:=I.fresh hD
 have up:∀{b:Addr},Mx H b->Mx (upd H Da (.lst [])) b:=fun {b} h=>h.same fun o e=>by rw[aE (aO e hD)];exact e
 have mv:jh B H Hc:=fun b o e n=>J.keep b o (show upd H Da (.lst []) b=some o by rw[aE (aO e hD)];exact e) fun hm=>by
  rcases mem_cons.mp hm with z |z
  ·rw[z,hD] at e;cases e
  ·exact n (by simpa using z)
 refine⟨⟨J.sub,I.old.trans J.old,fun b h1 h2=>J.new b (up (I.thereM h1)) (I.new b h1 h2),fun b o h1 h2=>mv b o (I.keep b o h1 h2) fun z=>?_,fun b hb=>J.thereM (up (I.pin b hb)),I.fix,fun b e=>?_,I.len,fun i s e=>?_,I.sep⟩,mv,J.new Da (Mx.lst (show upd H Da (.lst []) Da=some (.lst []) from aC)) q2⟩
 ·obtain⟨_,_,h3⟩:=I.box b z
  rcases h3 with h3 |h3
  ·exact h2 h3
  ·rw[h1] at h3;cases h3
 ·obtain⟨j1,j2,_⟩:=J.box b e
  exact⟨j1,j2,(I.box b e).2.2⟩
 ·have w:=I.slot i s e
  cases s with
  |no=>trivial
  |fz d=>obtain⟨v,h1,h2⟩:=w;exact⟨v,h1,h2.mono J.old⟩
  |bx=>exact w
  |ow d=>
   obtain⟨a,h1,h2,h3,h4,h5⟩:=w
   exact⟨a,h1,h2,J.new a (up h5.mx) h3,h4,h5.mono J.old fun o q=>mv a o q h4⟩
  |br d=>
   obtain⟨b1,a,h1,h4,hp,h5⟩:=w
   exact⟨b1,a,h1,h4,hp,h5.mono J.old fun o q=>mv a o q h4⟩
theorem SR.updD {ys:List V}(J:SR Γ B G H σ env β)(hp:Da∈Γ.par)(h0:Mx Γ.H0 Da)(g0:Γ.G0 Da=none)(hB:B≠some Da):SR Γ B G (upd H Da (.lst ys)) σ env β:=by
 have gD:=J.new Da h0 g0
 refine⟨fun b u q=>by rw[aE (fun z=>by rw[z,gD] at q;cases q)];exact J.sub b u q,J.old,J.new,fun b u q n=>by rw[aE (fun z=>n (by rw[z];exact hp))];exact J.keep b u q n,fun b hb=>?_,J.fix,fun b e=>?_,J.len,fun i s e=>?_,J.sep⟩
 ·by_cases z:b=Da
  ·subst z;exact Mx.lst aC
  ·exact (J.pin b hb).same fun o e=>by rw[aE z];exact e
 ·obtain⟨h1,h2⟩:=J.box b e
  exact⟨by rw[aE (fun z=>hB (by rw[<-z];exact e))];exact h1,h2⟩
 ·have w:=J.slot i s e
  cases s with
  |no=>trivial
  |fz d=>exact w
  |bx=>exact w
  |ow d=>
   obtain⟨a,h1,h2,h3,h4,h5⟩:=w
   have aD:a≠Da:=fun z=>h0.1 (by rw[<-z];exact h2)
   exact⟨a,h1,h2,h3,h4,h5.mono (ax.refl _) fun o q=>by rw[aE aD];exact q⟩
  |br d=>
   obtain⟨b1,a,h1,h4,hpa,h5⟩:=w
   have aD:a≠Da:=fun z=>hpa (by rw[z];exact hp)
   exact⟨b1,a,h1,h4,hpa,h5.mono (ax.refl _) fun o q=>by rw[aE aD];exact q⟩
end
def R.okb {α γ:Type}(r:R α)(k:α->Int->R γ):R γ:=match r with
 | .ok a β=>k a β
 |_=>.bad
def fL (t:Tg)(ft:VF Bool)(fe:VF D)(vs:List Nv):List D->Int->R (List D)
 | [],β=>.ok [] β
 |d :: ds,β=>match mq t d vs with
  |none=>.bad
  |some vs1=>(ft vs1 β).okb fun c β1=>if c=true then (fe vs1 β1).okb fun x β2=>(fL t ft fe vs ds β2).okb fun xs β3=>.ok (x :: xs) β3 else fL t ft fe vs ds β1
def aK (own:Nat)(ixs:List Nat)(t:Tg)(fi:VF (List D))(ft:VF Bool)(fe:VF D):VF D:=fun vs β=>(fi vs β).bnd fun ds β1=>if ds.length<=sizeLine then (fL t ft fe (fQ own ixs vs) ds β1).okb fun xs β2=>.ok (.list xs) β2 else .bad
def ki:VF Bool:=fun _ β=>.ok true β
def EM (own:Nat)(ixs Lc:List Nat)(j:Nat):Bool:=decide (j < own) || (match ixs[j - own]? with
 |some i=>Lc.contains i
 |none=>false)
theorem DU {α γ:Type}{Γ:Fx}{E:XK}{r:R α}{k:α->Int->R γ}{P:γ->Int->Prop}(h:Out Γ E (r.okb k) P):∃a β,r=.ok a β/\Out Γ E (k a β) P:=by
 cases r with
 |ok a β=>exact⟨a,β,rfl,h⟩
 |exc c=>exact h.elim
 |bad=>exact h.elim
section
variable {X:Cx}{Γ:Fx}{E:XK}{tg iter elt:Expr}{ifs:List Expr}{scope:Scope}{NB:List Str}{own:Nat}{ixs Li Lc Lt Le:List Nat}{t:Tg}{fi:VF (List D)}{ft:VF Bool}{fe:VF D}{pos:Pos}
theorem dX {X:Cx}{Γ:Fx}{E:XK}:Cb X [] (qT Γ E ki []):=fun pins s σ H Q I ⟨env,G,B,β,J,o⟩=>tM pins s σ H Q I (o G H J (ax.refl _) (jh.refl _ _))
theorem dR {X:Cx}{Γ:Fx}{E:XK}{c:Expr}{ta:VF Bool}{L:List Nat}(h:zu X Γ E c ta L):Cb X [c] (qT Γ E ta L):=yD h
theorem ml {NB:List Str}{scope:Scope}{C:Addr}{ex:List Addr}{s3:Shared}{H3:Hp}{pn:List (Addr×Obj)}{P:Program}{w:World}:Passes (oZ P w) (jN X NB scope C ex s3 H3 pn) E0:=fun pins σ H s e s' I h=>by
 obtain⟨_,_,_,_,_,_,_,_,_,q⟩:=h
 exact q.elim
abbrev gU (Γ:Fx)(t:Tg):TG:=fun v σ H Q=>∃H0 G0 par br bx,gT (Γ.jN H0 G0 par br bx) t v σ H Q
abbrev tU (Γ:Fx)(own:Nat)(ixs Lc:List Nat)(ft:VF Bool)(Lt:List Nat):TT:=fun σ H Q=>∃H0 G0 par br bx,(∀j,EM own ixs Lc j=true->br j=false)/\qT (Γ.jN H0 G0 par br bx) E0 ft Lt σ H Q
abbrev eU (Γ:Fx)(own:Nat)(ixs Lc:List Nat)(fe:VF D)(Le:List Nat):TE:=fun σ H Q=>∃H0 G0 par br bx,(∀j,EM own ixs Lc j=true->br j=false)/\pT (Γ.jN H0 G0 par br bx) E0 fe Le .v σ H Q
theorem Ex {σ:St}{H:Hp}{Q:VK}(hLc:∀i,i∈Lc->Γ.br i=false)(h:pT Γ E (aK own ixs t fi ft fe) (Li ++ Lc) .w σ H Q):wW own ixs (iT Γ E fi Li .b) (gU Γ t) (tU Γ own ixs Lc ft Lt) (eU Γ own ixs Lc fe Le) σ H Q:=by
 obtain⟨env,G,B,β,I,o⟩:=h
 refine⟨env,G,B,β,I,o.bnd.imp fun ds β1 h J G1 H1 I1 s1 m1 wk Da hD=>?_⟩
 have wk:Walk Γ.K B G1 H1 ds J:=wk
 by_cases hz:ds.length<=sizeLine
 case neg=>rw[if_neg hz] at h;exact h.elim
 rw[if_pos hz] at h
 obtain⟨xs0,β0,e0,h⟩:=DU h
 have h:∀v G' H',SR Γ B G' H' σ (bp (Li ++ Lc) env) β0->ax G G'->jh B H H'->VO Γ.K B H G' H' .w (.list xs0) v->Q v H':=h
 obtain⟨G2,I2,s2⟩:=I1.bp Lc hLc
 rw[<-cp] at I2
 obtain⟨q1,q2,q3,q4⟩:=I2.fresh hD
 have Ib0:=I2.block own ixs hD
 generalize hbr:xJ (benv own ixs (bp (Li ++ Lc) env))=br at Ib0
 have hbo:∀j,EM own ixs Lc j=true->br j=false:=by
  intro j hj
  rw[<-hbr]
  unfold xJ
  split
  ·rename_i d e
   exfalso
   unfold benv at e
   by_cases hjo:j < own
   ·rw[getElem?_append_left (by simpa using hjo),getElem?_replicate,if_pos hjo] at e;cases e
   ·rw[getElem?_append_right (by simpa using hjo),length_replicate,getElem?_map] at e
    unfold EM at hj
    rw[decide_eq_false hjo,Bool.false_or] at hj
    cases ek:ixs[j - own]? with
    |none=>rw[ek] at hj;cases hj
    |some k=>
     rw[ek] at hj e
     have hk:k∈Lc:=by simpa using hj
     have e:Hf (bp (Li ++ Lc) env)[k]? =.br d:=Option.some.inj e
     cases q:(bp (Li ++ Lc) env)[k]? with
     |none=>rw[q] at e;cases e
     |some s=>
      rw[q] at e
      cases s with
      |no=>cases e
      |fz _=>cases e
      |bx=>cases e
      |br d'=>
       obtain⟨b1,_⟩:=I2.slot k _ q
       rw[hLc k hk] at b1;cases b1
      |ow d'=>
       rw[cp] at q
       have key:∀(M:List Nat) (en:En),k∈M->∀d',(bp M en)[k]?≠some (.ow d'):=by
        intro M
        induction M with
        |nil=>intro en hm;cases hm
        |cons i M ih=>
         intro en hm d' z
         rcases mem_cons.mp hm with y |y
         ·subst y
          have z1:(gV en k)[k]? =some (.ow d'):=qt (L:=M) z
          have z2:=tx z1
          unfold gV at z1
          rw[z2] at z1
          dsimp only at z1
          rw[getElem?_set_self (List.getElem?_eq_some_iff.mp z2).1] at z1;cases z1
         ·exact ih (gV en i) y d' z
       exact key Lc _ hk d' q
  ·rfl
 have evb:vl (benv own ixs (bp (Li ++ Lc) env))=fQ own ixs (vl env):=by rw[DE,eS]
 refine⟨fun i n σ' H'=>n=ds.length - i/\i<=ds.length/\∃envb Gc β' acc accd,SR (Γ.jN (upd H1 Da (.lst [])) G2 (Da :: B.toList) br B) B Gc H' σ' envb β'/\(envb=benv own ixs (bp (Li ++ Lc) env)\/∃d,iq t d (benv own ixs (bp (Li ++ Lc) env))=some envb)/\
   H' Da=some (.lst acc)/\cB Γ.K Gc acc accd/\accd.length<=i/\∃xs,fL t ft fe (fQ own ixs (vl env)) (ds.drop i) β'=.ok xs β0/\accd ++ xs=xs0,
  ⟨ds.length,by simp,Nat.zero_le _,_,G2,β1,[],[],Ib0,.inl rfl,aC,.nil,Nat.zero_le _,xs0,by rw[List.drop_zero];exact e0,rfl⟩,?_⟩
 rintro i n σ' H' ⟨rfl,hi',envb,Gc,β',acc,accd,Ib,eb,hacc,racc,lacc,xs,ec,exs⟩
 obtain⟨Io,mv,gD⟩:=I2.unblock hD Ib
 obtain⟨w1,w2⟩:=wk Gc H' i (s2.trans Ib.old) Ib.sub mv
 by_cases hlt:i < ds.length
 ·obtain⟨go,yl⟩:=w1 hlt
  refine .inr ⟨go,fun σ' H'=>∃envb Gc β' acc accd,SR (Γ.jN (upd H1 Da (.lst [])) G2 (Da :: B.toList) br B) B Gc H' σ' envb β'/\(envb=benv own ixs (bp (Li ++ Lc) env)\/∃d,iq t d (benv own ixs (bp (Li ++ Lc) env))=some envb)/\
   H' Da=some (.lst acc)/\cB Γ.K Gc acc accd/\accd.length<=i + 1/\∃xs,fL t ft fe (fQ own ixs (vl env)) (ds.drop (i + 1)) β'=.ok xs β0/\accd ++ xs=xs0,fun σ2 H2 hh=>⟨ds.length - (i + 1),by omega,rfl,hlt,hh⟩,fun x H2 y=>?_⟩
  obtain⟨G3,d,x3,ed,rd⟩:=yl x H2 y
  have I3:=Ib.ext x3
  have ed':ds[i]=d:=by rw[getElem?_eq_getElem hlt] at ed;exact Option.some.inj ed
  rw[List.drop_eq_getElem_cons hlt,ed'] at ec
  unfold fL at ec
  cases ebv:mq t d (fQ own ixs (vl env)) with
  |none=>rw[ebv] at ec;cases ec
  |some vs1=>
   rw[ebv] at ec
   dsimp only at ec
   obtain⟨env1,eb1,ev1⟩:∃env1,iq t d (benv own ixs (bp (Li ++ Lc) env))=some env1/\vl env1=vs1:=by
    have:=Dr t d (benv own ixs (bp (Li ++ Lc) env))
    rw[evb,ebv] at this
    cases q:iq t d (benv own ixs (bp (Li ++ Lc) env)) with
    |none=>rw[q] at this;cases this
    |some env1=>rw[q] at this;exact⟨env1,rfl,Option.some.inj this⟩
   have eb2:iq t d envb=some env1:=by
    rcases eb with rfl | ⟨d0,eb⟩
    ·exact eb1
    ·rw[zU eb];exact eb1
   have no1:xQ env1:=zc (sh _ _ _) eb1
   have a2:H2 Da=some (.lst acc):=x3.hh _ _ hacc
   refine⟨_,_,_,_,_,envb,G3,B,β',d,env1,I3,rd,eb2,fun σ3 I4=>?_⟩
   refine⟨_,_,_,_,_,hbo,env1,G3,B,β',I4,?_⟩
   rw[ev1]
   cases et:ft vs1 β' with
   |exc c=>rw[et] at ec;cases ec
   |bad=>rw[et] at ec;cases ec
   |ok c β2=>
    rw[et] at ec
    intro G4 H4 I5 s4 m4
    rw[vJ no1] at I5
    have a4:H4 Da=some (.lst acc):=m4 _ _ a2 q3
    cases c with
    |false=>
     refine qX ⟨env1,G4,β2,acc,accd,I5,.inr ⟨d,eb1⟩,a4,racc.mono (x3.gg.trans s4),by omega,xs,?_,exs⟩
     exact ec
    |true=>
     refine qW ⟨_,_,_,_,_,hbo,env1,G4,B,β2,I5,?_⟩
     rw[ev1]
     have ec:((fe vs1 β2).okb fun x β3=>(fL t ft fe (fQ own ixs (vl env)) (ds.drop (i + 1)) β3).okb fun xs β4=>R.ok (x :: xs) β4)=R.ok xs β0:=ec
     cases ee:fe vs1 β2 with
     |exc c=>rw[ee] at ec;cases ec
     |bad=>rw[ee] at ec;cases ec
     |ok dx β3=>
      rw[ee] at ec
      intro v G5 H5 I6 s5 m5 vo
      rw[vJ no1] at I6
      have a5:H5 Da=some (.lst acc):=m5 _ _ a4 q3
      have ec:((fL t ft fe (fQ own ixs (vl env)) (ds.drop (i + 1)) β3).okb fun xs β4=>R.ok (dx :: xs) β4)=R.ok xs β0:=ec
      cases er:fL t ft fe (fQ own ixs (vl env)) (ds.drop (i + 1)) β3 with
      |exc c=>rw[er] at ec;cases ec
      |bad=>rw[er] at ec;cases ec
      |ok ys β4=>
       rw[er] at ec
       cases ec
       refine⟨acc,a5,by rw[racc.len];omega,env1,G5,β3,acc ++ [v],accd ++ [dx],?_,.inr ⟨d,eb1⟩,aC,(racc.mono ((x3.gg.trans s4).trans s5)).snoc vo,by rw[length_append];simp;omega,ys,er,by rw[<-exs,append_assoc];rfl⟩
       refine I6.updD (mem_cons_self ..) (Mx.lst (show upd H1 Da (.lst []) Da=some (.lst []) from aC)) (I2.sub.free hD) q3
 ·have e:i=ds.length:=by omega
  subst e
  rw[List.drop_length] at ec
  cases ec
  rw[append_nil] at exs
  subst exs
  refine .inl ⟨w2 (Nat.le_refl _),⟨acc,hacc⟩,h _ Gc H' Io ((s1.trans s2).trans Ib.old) (m1.trans mv) ⟨Da,rfl,gc m1 I1.boxThere hD,gD,acc,hacc,racc⟩⟩
theorem bU (hg:∀H0 G0 par br bx C ex s3 H3 pn,SG (jN X NB scope C ex s3 H3 pn) (Γ.jN H0 G0 par br bx) tg t)(C:Addr)(ex:List Addr)(s3:Shared)(H3:Hp)(pn:List (Addr×Obj)):PG (jN X NB scope C ex s3 H3 pn) tg (gU Γ t):=by
 rintro pins s σ H v u Q I r ⟨H0,G0,par,br,bx,q⟩
 exact hg H0 G0 par br bx C ex s3 H3 pn pins s σ H v u Q I r q
theorem cn (Lc:List Nat)(hc:X.calm=true)(S:dz X NB own ixs scope)(hLc:∀i,i∈Lc->Γ.br i=false)(hi:SI X Γ E tg iter fi Li .b)
  (hg:∀H0 G0 par br bx C ex s3 H3 pn,SG (jN X NB scope C ex s3 H3 pn) (Γ.jN H0 G0 par br bx) tg t)
  (ht:∀H0 G0 par br bx C ex s3 H3 pn,(∀j,EM own ixs Lc j=true->br j=false)->Cb (jN X NB scope C ex s3 H3 pn) ifs (qT (Γ.jN H0 G0 par br bx) E0 ft Lt))
  (he:∀H0 G0 par br bx C ex s3 H3 pn,(∀j,EM own ixs Lc j=true->br j=false)->SE (jN X NB scope C ex s3 H3 pn) (Γ.jN H0 G0 par br bx) E0 elt fe Le .v)
  (hs:∀x,foldedSetIterable iter X.env x=pure x:=by intro _;rfl) :
  SE X Γ E (.ListComp elt [⟨tg,iter,ifs,0⟩] scope pos) (aK own ixs t fi ft fe) (Li ++ Lc) .w:=by
 refine PE.post' (vm (g:=gU Γ t) (tt:=tU Γ own ixs Lc ft Lt) (te:=eU Γ own ixs Lc fe Le) hc S hi (bU hg) (fun C ex s3 H3 pn=>?_) (fun C ex s3 H3 pn=>?_) hs) fun σ H Q h=>Ex hLc h
 ·rintro pins s σ H Q I ⟨H0,G0,par,br,bx,b,q⟩
  exact ht H0 G0 par br bx C ex s3 H3 pn b pins s σ H Q I q
 ·rintro pins s σ H Q I ⟨H0,G0,par,br,bx,b,q⟩
  exact he H0 G0 par br bx C ex s3 H3 pn b pins s σ H Q I q
theorem me {i:Nat}{y:Str}{py spos:Pos}(Lc:List Nat)(hc:X.calm=true)(S:dz X NB own ixs scope)(hLc:∀i,i∈Lc->Γ.br i=false)(hi:SI X Γ E tg iter fi Li .b)
  (hg:∀H0 G0 par br bx C ex s3 H3 pn,SG (jN X NB scope C ex s3 H3 pn) (Γ.jN H0 G0 par br bx) tg t)
  (ht:∀H0 G0 par br bx C ex s3 H3 pn,(∀j,EM own ixs Lc j=true->br j=false)->Cb (jN X NB scope C ex s3 H3 pn) ifs (qT (Γ.jN H0 G0 par br bx) E0 ft Lt))
  (he:∀H0 G0 par br bx C ex s3 H3 pn,(∀j,EM own ixs Lc j=true->br j=false)->SE (jN X NB scope C ex s3 H3 pn) (Γ.jN H0 G0 par br bx) E0 elt fe Le .v)
  (hN:X.N.Nodup) (hy:X.N[i]? =some y:=by rfl) (hl:X.env.scope.names.lookup y=some .local:=by rfl)
  (hsw:swapsWith (.ListComp elt [⟨tg,iter,ifs,0⟩] scope pos) (some (.Name y py)) spos.line X.env=pure true:=by rfl)
  (hs:∀x,foldedSetIterable iter X.env x=pure x:=by intro _;rfl) :
  SS X Γ E (.Assign [.Name y py] (.ListComp elt [⟨tg,iter,ifs,0⟩] scope pos) spos) (ba i (Li ++ Lc) (aK own ixs t fi ft fe)):=by
 refine PS.post (B7 (g:=gU Γ t) (tt:=tU Γ own ixs Lc ft Lt) (te:=eU Γ own ixs Lc fe Le) hc S hi (bU hg) (fun C ex s3 H3 pn=>?_) (fun C ex s3 H3 pn=>?_) hN hy hl hsw hs) fun N σ H ⟨env,G,B,β,I,o⟩=>?_
 ·rintro pins s σ H Q I ⟨H0,G0,par,br,bx,b,q⟩
  exact ht H0 G0 par br bx C ex s3 H3 pn b pins s σ H Q I q
 ·rintro pins s σ H Q I ⟨H0,G0,par,br,bx,b,q⟩
  exact he H0 G0 par br bx C ex s3 H3 pn b pins s σ H Q I q
 refine Ex hLc ⟨env,G,B,β,I,cF o fun d β' k v G' H' I' s' m' vo=>?_⟩
 obtain⟨G2,I2,s2,r⟩:=I.letW I' vo
 exact k B G2 H' _ (I2.set' i r) (s'.trans s2)
end
def fin:SO->FR
 | .nx _ _=>.ok .none false
 | .rt d fr _=>.ok d fr
 | .exc c=>.exc c
 |_=>.bad
def z6 (n:Nat)(ds:List D):En:=ds.map Sl.fz ++ List.replicate (n - ds.length) .no
def bg (n p:Nat)(m:SF):List D->FR:=fun ds=>if ds.length=p then fin (m (z6 n ds) 0) else .bad
abbrev Fx.fn (K:Frag)(H G:Hp)(ca:Str->Addr):Fx:=⟨K,H,G,[],ca,fun _=>false,none⟩
theorem SR.start {K:Frag}{H G:Hp}{ca:Str->Addr}{N:List Str}{vs:List V}{ds:List D}(s:ax G H)(r:cB K G vs ds)(hn:ds.length<=N.length):SR (Fx.fn K H G ca) none G H (start N vs) (z6 N.length ds) 0:=by
 have hl:=r.len
 refine⟨s,ax.refl _,fun b _ h=>h,fun b o h _=>h,fun b h=>(by cases h),fun b h=>(by cases h),fun b h=>(by cases h),?_,fun i t e=>?_,fun i j a d e h=>?_⟩
 ·unfold L2.start z6;simp;omega
 ·unfold z6 at e
  by_cases hi:i < ds.length
  ·rw[getElem?_append_left (by simpa using hi),getElem?_map,getElem?_eq_getElem hi] at e
   cases e
   obtain⟨x,hx,rx⟩:=r.at (getElem?_eq_getElem hi)
   refine⟨x,?_,rx⟩
   unfold L2.start
   rw[getElem?_append_left (by simpa[hl] using hi),getElem?_map,hx];rfl
  ·rw[getElem?_append_right (by simpa using hi),getElem?_replicate] at e
   split at e
   ·cases e;trivial
   ·cases e
 ·unfold z6 at h
  have hm:=mem_of_getElem? h
  rcases mem_append.mp hm with z |z
  ·obtain⟨_,_,z⟩:=mem_map.mp z;cases z
  ·have:=List.eq_of_mem_replicate z;cases this
section
variable {P:Program}{w:World}{K:Frag}{mg:Str->Option Value}{base:Heap}{ca:Str->Addr}
theorem aU {x qual:Str}{st:Stmt}{f:Addr}{fd:FuncData}{N ps:List Str}{k:Nat}{m:SF}(F:CI K x qual st f fd)(S:aJ N ps (av st))
  (hbody:∀(cdv:Value) (A:Around) (outer:List Env) (s:Shared) (H G:Hp) (E:XK),gy k (A.deeper (envOfC qual (av st) s.heap.objs.size f cdv))->CH (mi (oZ P w) P w K mg base N qual (av st) f cdv A outer s H E) (Fx.fn K H G ca) E (df st) m) :
  gP P w K mg base (oZ P w) (k + 1) f fd ps (CJ K ca ps.length (bg N.length ps.length m)):=by
 have hpn:ps.length<=N.length:=by have:=congrArg List.length S.pre;rw[length_take] at this;omega
 refine F.Aj S (fun vs H Q E h=>?_) (fun cdv A outer s H vs Q E hr h=>?_)
 ·obtain⟨G,ds,sG,hl,r,_⟩:=h
  rw[r.len];exact hl
 ·obtain⟨G,ds,sG,hl,r,h⟩:=h
  refine⟨_,hbody cdv A outer s H G E hr,?_⟩
  have I:=SR.start (ca:=ca) (N:=N) sG r (by omega)
  refine⟨_,G,none,0,I,?_⟩
  unfold bg at h
  rw[if_pos hl] at h
  have fin':∀{B G' H' σ env β},SR (Fx.fn K H G ca) B G' H' σ env β->ax H H':=fun J b o e=>J.keep b o e (fun z=>by cases z)
  cases q:m (z6 N.length ds) 0 with
  |nx env β=>rw[q] at h;exact fun B G' H' σ J s'=>h .non G' H' (fin' J) s' J.sub (fun b h1 h2=>J.new b h1 h2) Rp.non
  |bk env β=>rw[q] at h;exact h.elim
  |ct env β=>rw[q] at h;exact h.elim
  |rt d fr β=>
   rw[q] at h
   refine fun B G' H' σ env v J s' rv=>h v G' H' (fin' J) s' J.sub (fun b h1 h2=>J.new b h1 h2) ?_
   cases fr with
   |true=>exact rv
   |false=>exact rv
  |exc c=>rw[q] at h;exact fun H' kp=>h H' fun b o e=>kp b o e (fun z=>by cases z)
  |bad=>rw[q] at h;exact h.elim
theorem CT {n:Nat}{F F':List D->FR}(h:∀ds,ds.length=n->F' ds≠.bad->F ds=F' ds){vs:List V}{H:Hp}{Q:VK}{E:XK}(q:CJ K ca n F' vs H Q E):CJ K ca n F vs H Q E:=by
 obtain⟨G,ds,s,hl,r,q⟩:=q
 refine⟨G,ds,s,hl,r,?_⟩
 by_cases hb:F' ds=.bad
 ·rw[hb] at q;exact q.elim
 ·rw[h ds hl hb];exact q
theorem cE.imp {x:Str}{ps:List Str}{k:Nat}{F F':List D->FR}(h:cE P w K mg base ca x ps k F)(i:∀ds,F' ds≠.bad->F ds=F' ds):cE P w K mg base ca x ps k F':=by
 obtain⟨f,fd,a,b,c,d⟩:=h.ex
 exact⟨⟨f,fd,a,b,c,d.imp fun vs H Q E q=>CT (fun ds _=>i ds) q⟩,fun ds hn=>h.len ds (by rw[i ds hn];exact hn)⟩
theorem aN {n p:Nat}{m:SF}(ds:List D)(h:bg n p m ds≠.bad):ds.length=p:=by
 unfold bg at h
 by_cases hl:ds.length=p
 ·exact hl
 ·rw[if_neg hl] at h;exact absurd rfl h
theorem wA {N:List Str}{qual:Str}{scope:Scope}{f:Addr}{cd:Value}{A:Around}{outer:List Env}{s0:Shared}{H0:Hp}{E:XK}{Γ:Fx}{x:Str}{C:Addr}{np cpos pos:Pos}{e0:Expr}{es:List Expr}{fr:VF (List D)}{L:List Nat}(q:PySem.W.excIn K C [.type "ValueError",.type "Exception",.type "BaseException",.type "object"] "ValueError.__new__"=true)(hca:Γ.ca x=C)
  (hg:Gl (mi (oZ P w) P w K mg base N qual scope f cd A outer s0 H0 E) x) (hm:mg x=some (.ref C)) (ha:SA (mi (oZ P w) P w K mg base N qual scope f cd A outer s0 H0 E) Γ E (e0 :: es) fr L)
  (he:starEach (e0 :: es) (envOfC qual scope s0.heap.objs.size f cd)=(false,eval e0 (envOfC qual scope s0.heap.objs.size f cd)) :: starEach es (envOfC qual scope s0.heap.objs.size f cd):=by rfl)
  (hpl:(backTo cpos (starEach es (envOfC qual scope s0.heap.objs.size f cd))).any (·.1)=false:=by rfl) (hdb:(x == ("__debug__":Str))=false:=by decide) :
  SS (mi (oZ P w) P w K mg base N qual scope f cd A outer s0 H0 E) Γ E (.Raise (some (.Call (.Name x np) (e0 :: es) [] cpos)) none pos) (fun env β=>toS (fr (vl env) β) fun ds _=>if ds.length<=sizeLine then .exc x else .bad):=by
 refine PS.post (Cq PySem.F.excBase_ValueError (by decide +kernel) q hg hm ha he hpl hdb) fun D σ H ⟨env,G,B,β,I,o⟩=>?_
 refine⟨env,G,B,β,I,cF o fun ds β' k vs G' H' I' s' m' r=>?_⟩
 by_cases hz:ds.length<=sizeLine
 ·rw[if_pos hz] at k
  refine⟨by rw[r.len];exact hz,?_⟩
  have:=k H' (I'.kp (ax.refl _))
  rw[hca] at this
  exact this
 ·rw[if_neg hz] at k;exact k.elim
end
section
variable {X:Cx}{Γ:Fx}{E:XK}{e a b c:Expr}{f fa fb:VF D}{L La Lb:List Nat}{md ma mb:Md}{pos apos cpos np:Pos}
def qp:Option Sl->Bool
 |some (.ow (.list _))=>true
 |_=>false
theorem nu {o:Option Sl}(h:qp o=true):∃ds,o=some (.ow (.list ds)):=by
 cases o with
 |none=>cases h
 |some s=>
  cases s with
  |ow d=>cases d with
   |list ds=>exact⟨ds,rfl⟩
   |_=>cases h
  |_=>cases h
def ET (i:Nat)(env:En)(β:Int)(g:List D->Option (List D)):SO:=match env[i]? with
 |some (.ow (.list ds))=>(match g ds with
  |some es=>.nx (env.set i (.ow (.list es))) β
  |none=>.bad)
 |_=>.bad
def ij (i:Nat)(L:List Nat)(f:VF D):SF:=fun env β=>if qp env[i]? =true then toS (f (vl env) β) fun d β'=>ET i (bp L env) β' fun ds=>if ds.length < sizeLine then some (ds ++ [d]) else none else .bad
theorem pk {Γ:Fx}{E:XK}{G:Hp}{N:Ends}{i:Nat}{env:En}{β:Int}{g:List D->Option (List D)}(h:rq Γ E G N (ET i env β g)):∃ds es,env[i]? =some (.ow (.list ds))/\g ds=some es/\rq Γ E G N (.nx (env.set i (.ow (.list es))) β):=by
 unfold ET at h
 split at h
 ·rename_i ds q
  cases e:g ds with
  |none=>rw[e] at h;exact h.elim
  |some es=>rw[e] at h;exact⟨ds,es,q,e,h⟩
 ·exact h.elim
theorem fu (i:Nat){x:Str}(hb:∀j,Γ.br j=false)(he:SE X Γ E e f L .v)(hN:X.N[i]? =some x:=by rfl)(hv:zI X.env.scope x:=by first |exact Or.inl rfl |exact Or.inr (Or.inl rfl) |exact Or.inr (Or.inr rfl))(hd:(x == ("__debug__":Str))=false:=by decide)
  (hcd:(x == ("__classdict__":Str))=false:=by decide)
  (hbase:attributeBase (.Name x np) "append" X.env (eval (.Name x np) X.env)=eval (.Name x np) X.env:=by rfl)
  (hfew:((backTo cpos (starEach [e] X.env)).all (fun x=> !x.1) && (backToKw cpos (keywordEach [] X.env)).all (fun x=>x.1.isSome)
   && decide ([e].length + ([]:List Keyword).length + (if ([]:List Keyword).isEmpty then 0 else 1) < 30))=true:=by rfl)
  (hline:(apos.endLine == cpos.line)=true:=by rfl) (hs:starEach [e] X.env=(false,eval e X.env) :: starEach [] X.env:=by rfl)
  (hsw:swapsWith (.Call (.Attribute (.Name x np) "append" apos) [e] [] cpos) none pos.line X.env=pure false:=by rfl) :
  SS X Γ E (.Expr (.Call (.Attribute (.Name x np) "append" apos) [e] [] cpos) pos) (ij i L f):=by
 refine PS.post (o8 (yf PySem.F.plainAttrs_list PySem.F.slot_list_append PySem.F.type_list_append nR (jJ hN hv hd hcd) (aX he bM hs) hbase hfew hline hs rfl) hsw) fun N σ H ⟨env,G,B,β,I,o⟩=>?_
 unfold ij at o
 by_cases hO:qp env[i]? =true
 case neg=>rw[if_neg hO] at o;exact o.elim
 rw[if_pos hO] at o
 obtain⟨ds0,q0⟩:=nu hO
 obtain⟨p,h1,_,_,_,xs,h5,_⟩:=I.slot i _ q0
 refine⟨_,h1,.inl ⟨rfl,xs,.inl (.inl h5)⟩,?_⟩
 refine⟨env,G,B,β,I,cF o fun d β' k v G' H' I' s' m' vo=>?_⟩
 obtain⟨ds,es,q,eg,k⟩:=pk k
 by_cases hz:ds.length < sizeLine
 case neg=>rw[if_neg hz] at eg;cases eg
 rw[if_pos hz] at eg
 cases eg
 obtain⟨p',g1,_,_,_,ys,g5,g6⟩:=I'.slot i _ q
 rw[h1] at g1;cases g1
 refine⟨p,ys,v,rfl,rfl,g5,by rw[g6.len];exact hz,?_⟩
 exact k B G' _ σ (I'.write hb q h1 fun H2 e2 s2=>⟨_,e2,g6.snoc vo⟩) s'
def IC:V->List V->Hp->VK->Prop:=fun x vs H Q=>∃l b xs zs,x=.ref l/\vs= [.ref b]/\H l=some (.lst xs)/\Rd H b (.lst zs)/\xs.length + zs.length<=sizeLine/\Q .non (upd H l (.lst (xs ++ zs)))
theorem Inv.lstR {pins:List (Addr×Obj)}{σ:St}{H:Hp}{s:Shared}{l:Addr}{xs:List V}(I:Inv X pins σ H s)(hH:Rd H l (.lst xs)):xs.length<=sizeLine/\∃(its:List Value) (n:Nat),Vals xs its/\xs.length=its.length/\s.heap.get? l=some {cls:=.type "list",data:=.seq its.toArray n}:=by
 obtain⟨z,its,n,r,e⟩:=hH.ok I.hok
 exact⟨z,its,n,r,r.length,e⟩
theorem Dv:Ia X "list.extend" IC:=by
 intro pins s σ H x vs v us Q I rx rv h
 obtain⟨l,b,xs,zs,rfl,rfl,hH,hB,hz,q⟩:=h
 cases rx
 obtain⟨u,rfl,ru⟩:=rv.one
 cases ru
 obtain⟨z,its,n,r,hl,e⟩:=I.lstM hH
 obtain⟨z2,its2,n2,r2,hl2,e2⟩:=I.lstR hB
 have hsz:its.toArray.size + its2.toArray.size<=sizeLine:=by rw[size_toArray,size_toArray];omega
 have hlong:¬(!its.toArray.isEmpty && Builtin.List.listTooLong (its.toArray.size + its2.toArray.size))=true:=by
  rw[uQ hsz,Bool.and_false]
  exact Bool.false_ne_true
 refine call_meets F.slot_list_extend ⟨_,e,rfl⟩ F.entry_list_extend (F.args_list_extend_2 _ _)
  (AutoSeq1.list_extend_list_list_0 l its.toArray n b its2.toArray n2 hlong (by rw[size_toArray];omega) (by omega)) ⟨e,e2,?_⟩
 refine⟨.non,_,I.lset (its':=its ++ its2) hH e (by simp) (r.append r2) ?_,rfl,q⟩
 rw[length_append]
 omega
def zy (i:Nat)(L:List Nat)(f:VF D):SF:=fun env β=>if qp env[i]? =true then toS (f (vl env) β) fun d β'=>ET i (bp L env) β' fun ds=>match d with
 | .list es=>if ds.length + es.length<=sizeLine then some (ds ++ es) else none
 |_=>none else .bad
theorem zQ (i:Nat){x:Str}(hb:∀j,Γ.br j=false)(he:SE X Γ E e f L md)(hN:X.N[i]? =some x:=by rfl)(hv:zI X.env.scope x:=by first |exact Or.inl rfl |exact Or.inr (Or.inl rfl) |exact Or.inr (Or.inr rfl))(hd:(x == ("__debug__":Str))=false:=by decide)
  (hcd:(x == ("__classdict__":Str))=false:=by decide)
  (hbase:attributeBase (.Name x np) "extend" X.env (eval (.Name x np) X.env)=eval (.Name x np) X.env:=by rfl)
  (hfew:((backTo cpos (starEach [e] X.env)).all (fun x=> !x.1) && (backToKw cpos (keywordEach [] X.env)).all (fun x=>x.1.isSome)
   && decide ([e].length + ([]:List Keyword).length + (if ([]:List Keyword).isEmpty then 0 else 1) < 30))=true:=by rfl)
  (hline:(apos.endLine == cpos.line)=true:=by rfl) (hs:starEach [e] X.env=(false,eval e X.env) :: starEach [] X.env:=by rfl)
  (hsw:swapsWith (.Call (.Attribute (.Name x np) "extend" apos) [e] [] cpos) none pos.line X.env=pure false:=by rfl) :
  SS X Γ E (.Expr (.Call (.Attribute (.Name x np) "extend" apos) [e] [] cpos) pos) (zy i L f):=by
 refine PS.post (o8 (yf PySem.F.plainAttrs_list PySem.F.slot_list_extend PySem.F.type_list_extend Dv (jJ hN hv hd hcd) (aX he bM hs) hbase hfew hline hs rfl) hsw) fun N σ H ⟨env,G,B,β,I,o⟩=>?_
 unfold zy at o
 by_cases hO:qp env[i]? =true
 case neg=>rw[if_neg hO] at o;exact o.elim
 rw[if_pos hO] at o
 obtain⟨ds0,q0⟩:=nu hO
 obtain⟨p,h1,_,_,_,xs,h5,_⟩:=I.slot i _ q0
 refine⟨_,h1,.inl ⟨rfl,xs,.inl (.inl h5)⟩,?_⟩
 refine⟨env,G,B,β,I,cF o fun d β' k v G' H' I' s' m' vo=>?_⟩
 obtain⟨ds,es,q,eg,k⟩:=pk k
 cases d with
 |list fs=>
  dsimp only at eg
  by_cases hz:ds.length + fs.length<=sizeLine
  case neg=>rw[if_neg hz] at eg;cases eg
  rw[if_pos hz] at eg
  cases eg
  obtain⟨p',g1,_,_,_,ys,g5,g6⟩:=I'.slot i _ q
  rw[h1] at g1;cases g1
  obtain⟨pb,zs,rfl,hq,rz⟩:=(vo.brw I.boxThere).list I'.sub
  refine⟨p,pb,ys,zs,rfl,rfl,g5,hq,by rw[g6.len,rz.len];exact hz,?_⟩
  exact k B G' _ σ (I'.write hb q h1 fun H2 e2 s2=>⟨_,e2,g6.append rz⟩) s'
 |_=>cases eg
def vZ (i:Nat)(Le Li:List Nat)(fe fi:VF D):SF:=fun env β=>toS (fe (vl env) β) fun d β1=>if qp (bp Le env)[i]? =true then toS (fi (vl env) β1) fun k β2=>ET i (bp (Le ++ Li) env) β2 fun ds=>match k with
 | .int j=>(qN ds.length j).map fun n=>ds.set n d
 |_=>none else .bad
theorem DI (i:Nat){x:Str}{spos:Pos}(hb:∀j,Γ.br j=false)(he:SE X Γ E e f La .v)(hi:SE X Γ E a fa Lb mb)(hN:X.N[i]? =some x:=by rfl)(hv:zI X.env.scope x:=by first |exact Or.inl rfl |exact Or.inr (Or.inl rfl) |exact Or.inr (Or.inr rfl))(hd:(x == ("__debug__":Str))=false:=by decide)
  (hcd:(x == ("__classdict__":Str))=false:=by decide)
  (hA:∀v,assign (.Subscript (.Name x np) a spos) X.env v=(do
   let ov <-holding [v] (eval (.Name x np) X.env)
   let iv <-holding [v,ov] (eval a X.env)
   standAt spos
   holding [v,ov,iv] (setItem ov iv v)
   release [v,ov,iv] []):=by intro _;rfl)
  (hs:swapsWithSole [.Subscript (.Name x np) a spos] e pos.line X.env=pure false:=by rfl) (hw:swappedStores [.Subscript (.Name x np) a spos] e X.env=pure none:=by rfl)
  (h1:(assignEach [.Subscript (.Name x np) a spos] X.env).map (·.2)= [assign (.Subscript (.Name x np) a spos) X.env]:=by rfl) :
  SS X Γ E (.Assign [.Subscript (.Name x np) a spos] e pos) (vZ i La Lb f fa):=by
 refine PS.post (pX he (uK (jJ hN hv hd hcd) hi set_list hA) hs hw h1) fun N σ H ⟨env,G,B,β,I,o⟩=>?_
 refine⟨env,G,B,β,I,cF o fun d β1 o v G1 H1 I1 s1 m1 vo=>?_⟩
 by_cases hO:qp (bp La env)[i]? =true
 case neg=>rw[if_neg hO] at o;exact o.elim
 rw[if_pos hO] at o
 obtain⟨ds0,q0⟩:=nu hO
 obtain⟨p,h1,_,_,_,xs,h5,_⟩:=I1.slot i _ q0
 refine⟨_,h1,bp La env,G1,B,β1,I1,?_⟩
 rw[eS]
 refine cF o fun k β2 o w G2 H2 I2 s2 m2 vi=>?_
 rw[<-cp] at I2
 obtain⟨ds,es,q,eg,o⟩:=pk o
 cases k with
 |int j=>
  dsimp only at eg
  obtain rfl:=(vi.brw I1.boxThere).int
  obtain⟨p',g1,_,_,_,ys,g5,g6⟩:=I2.slot i _ q
  rw[h1] at g1;cases g1
  cases en:qN ds.length j with
  |none=>rw[en] at eg;cases eg
  |some n=>
   rw[en] at eg
   cases eg
   have vo:Rp Γ.K G1 v d:=vo
   refine⟨p,ys,j,n,rfl,rfl,g5,by rw[g6.len];exact en,?_⟩
   exact o B G2 _ σ (I2.write hb q h1 fun H3 e3 s3=>⟨_,e3,g6.set (vo.mono s2) n⟩) (s1.trans s2)
 |_=>cases eg
end
section
variable {K:Frag}{X:Cx}
theorem qL {g:Int->Int->V}{gd:D->D->Option D}(h:∀dx dy d,gd dx dy=some d->∃i j,dx=.int i/\dy=.int j/\∀G,Rp K G (g i j) d):nO K (vC g) gd .v:=by
 intro B G H x y dx dy d Q s hB bx by' e k
 obtain⟨i,j,rfl,rfl,r⟩:=h _ _ _ e
 obtain rfl:=bx.int
 obtain rfl:=by'.int
 exact⟨i,j,rfl,rfl,k _ G H (Ext.refl s) (r G)⟩
theorem yo {C:Int->Int->Prop}{g:Int->Int->V}{gd:D->D->Option D}(h:∀dx dy d,gd dx dy=some d->∃i j,dx=.int i/\dy=.int j/\C i j/\∀G,Rp K G (g i j) d):nO K (rI C g) gd .v:=by
 intro B G H x y dx dy d Q s hB bx by' e k
 obtain⟨i,j,rfl,rfl,c,r⟩:=h _ _ _ e
 obtain rfl:=bx.int
 obtain rfl:=by'.int
 exact⟨i,j,rfl,rfl,c,k _ G H (Ext.refl s) (r G)⟩
def gI (c:Int->Int->Bool)(g:Int->Int->D):D->D->Option D
 | .int i,.int j=>if c i j=true then some (g i j) else none
 |_,_=>none
def vA (g:Int->Int->D):D->D->Option D
 | .int i,.int j=>some (g i j)
 |_,_=>none
theorem yT {c:Int->Int->Bool}{g:Int->Int->D}{dx dy d:D}(h:gI c g dx dy=some d):∃i j,dx=.int i/\dy=.int j/\c i j=true/\d=g i j:=by
 unfold gI at h
 split at h
 ·split at h
  ·cases h;exact⟨_,_,rfl,rfl,by assumption,rfl⟩
  ·cases h
 ·cases h
theorem kr {g:Int->Int->D}{dx dy d:D}(h:vA g dx dy=some d):∃i j,dx=.int i/\dy=.int j/\d=g i j:=by
 unfold vA at h
 split at h
 ·cases h;exact⟨_,_,rfl,rfl,rfl⟩
 ·cases h
def vQ:D->D->Option D:=vA fun i j=>.int (i - j)
theorem Hk:nO K (vC fun i j=>.int (i - j)) vQ .v:=qL fun dx dy d h=>by obtain⟨i,j,rfl,rfl,rfl⟩:=kr h;exact⟨i,j,rfl,rfl,fun _=>.int _⟩
def BG:D->D->Option D:=gI (fun _ j=>decide (0 < j) && decide (j < 1073741824)) fun i j=>.int (i / j)
theorem C0:nO K (rI Eh fun i j=>.int (i / j)) BG .v:=yo fun dx dy d h=>by obtain⟨i,j,rfl,rfl,c,rfl⟩:=yT h;exact⟨i,j,rfl,rfl,by simpa[Eh] using c,fun _=>.int _⟩
def nr:D->D->Option D:=gI (fun _ j=>decide (0 < j)) fun i j=>.int (i % j)
theorem r6:nO K (rI (fun _ j=>0 < j) fun i j=>.int (i % j)) nr .v:=yo fun dx dy d h=>by obtain⟨i,j,rfl,rfl,c,rfl⟩:=yT h;exact⟨i,j,rfl,rfl,by simpa using c,fun _=>.int _⟩
def E7 (i j:Int):Bool:=decide (0<=j) && decide (j<=1000000) && decide (i.natAbs < 2 ^ 64)
theorem DR {i j:Int}(h:E7 i j=true):E8 i j:=by
 unfold E7 at h
 simp only[Bool.and_eq_true,decide_eq_true_eq] at h
 exact⟨h.1.1,h.1.2,h.2⟩
def Gp:D->D->Option D:=gI E7 fun i j=>.int (i * 2 ^ j.toNat)
theorem Hj:nO K (rI E8 fun i j=>.int (i * 2 ^ j.toNat)) Gp .v:=yo fun dx dy d h=>by obtain⟨i,j,rfl,rfl,c,rfl⟩:=yT h;exact⟨i,j,rfl,rfl,DR c,fun _=>.int _⟩
def CC:D->D->Option D:=vA fun i j=>.int (Builtin.bitAnd i j)
theorem HF:nO K (vC fun i j=>.int (Builtin.bitAnd i j)) CC .v:=qL fun dx dy d h=>by obtain⟨i,j,rfl,rfl,rfl⟩:=kr h;exact⟨i,j,rfl,rfl,fun _=>.int _⟩
def IP:D->D->Option D:=vA fun i j=>.int (Builtin.bitOr i j)
theorem Ha:nO K (vC fun i j=>.int (Builtin.bitOr i j)) IP .v:=qL fun dx dy d h=>by obtain⟨i,j,rfl,rfl,rfl⟩:=kr h;exact⟨i,j,rfl,rfl,fun _=>.int _⟩
def vL:D->D->Option D:=vA fun i j=>.bool (decide (i < j))
def BL:D->D->Option D:=vA fun i j=>.bool (decide (i<=j))
def Cs:D->D->Option D:=vA fun i j=>.bool (decide (j < i))
theorem Cn:nO K (vC fun i j=>.bl (decide (i < j))) vL .v:=qL fun dx dy d h=>by obtain⟨i,j,rfl,rfl,rfl⟩:=kr h;exact⟨i,j,rfl,rfl,fun _=>.bl _⟩
theorem Gf:nO K (vC fun i j=>.bl (decide (i<=j))) BL .v:=qL fun dx dy d h=>by obtain⟨i,j,rfl,rfl,rfl⟩:=kr h;exact⟨i,j,rfl,rfl,fun _=>.bl _⟩
theorem FL:nO K (vC fun i j=>.bl (decide (j < i))) Cs .v:=qL fun dx dy d h=>by obtain⟨i,j,rfl,rfl,rfl⟩:=kr h;exact⟨i,j,rfl,rfl,fun _=>.bl _⟩
mutual
theorem yh:∀d:D,d.canLay0=true->Cc d=true
 | .none,_=>rfl
 | .bool _,_=>rfl
 | .int _,_=>rfl
 | .str _,_=>rfl
 | .list ds,h=>by simp only[PyData.canLay0] at h;simp only[Cc];exact qy ds h
 | .tuple ds,h=>by simp only[PyData.canLay0] at h;simp only[Cc];exact qy ds h
 | .dict _,h=>by simp[PyData.canLay0] at h
theorem qy:∀ds:List D,PyData.canLayAll0 ds=true->rn ds=true
 | [],_=>rfl
 |d :: ds,h=>by
  simp only[PyData.canLayAll0,Bool.and_eq_true] at h
  simp only[rn,Bool.and_eq_true]
  exact⟨yh d h.1,qy ds h.2⟩
end
theorem uk {d:D}(h:SeqAt.shaped d=true):Cc d=true:=yh d (SeqAt.canLay_of_shaped h)
theorem yY:∀{ds:List D},(ds.all SeqAt.shaped)=true->rn ds=true
 | [],_=>rfl
 |d :: ds,h=>by
  rw[List.all_cons,Bool.and_eq_true] at h
  simp only[rn,Bool.and_eq_true]
  exact⟨uk h.1,yY h.2⟩
def bL (neg:Bool)(x y:D):Option D:=if (SeqAt.shaped x && SeqAt.shaped y)=true then some (.bool (if neg then !PyData.eqv x y else PyData.eqv x y)) else none
theorem cO {neg:Bool}:nO K (FP K neg) (bL neg) .v:=by
 intro B G H x y dx dy d Q s hB bx by' e k
 unfold bL at e
 split at e
 ·rename_i h
  rw[Bool.and_eq_true] at h
  cases e
  exact⟨dx,dy,(bx.rpH s).rep (uk h.1),(by'.rpH s).rep (uk h.2),h.1,h.2,k _ G H (Ext.refl s) (.bl _)⟩
 ·cases e
def lb (neg:Bool)(x y:D):Option D:=match ji y with
 |some ds=>if (SeqAt.shaped x && ds.all SeqAt.shaped)=true then some (.bool (if neg then !(ds.any fun e=>PyData.eqv e x) else ds.any fun e=>PyData.eqv e x)) else none
 |none=>none
theorem mV.seq {B:Option Addr}{G H:Hp}{v:V}{d:D}{ds:List D}(h:mV K B G H v d)(e:ji d=some ds)(s:ax G H):∃a xs,v=.ref a/\(hX K H a xs\/gJ K H a xs)/\cB K G xs ds:=by
 cases d with
 |list l=>cases e;obtain⟨a,xs,e,q,r⟩:=h.list s;exact⟨a,xs,e,.inl (.inl q),r⟩
 |tuple l=>cases e;obtain⟨a,xs,e,q,r⟩:=h.tuple s;exact⟨a,xs,e,.inr q,r⟩
 |_=>cases e
theorem nV {neg:Bool}:nO K (GK K neg) (lb neg) .v:=by
 intro B G H x y dx dy d Q s hB bx by' e k
 unfold lb at e
 cases q:ji dy with
 |none=>rw[q] at e;cases e
 |some ds=>
  rw[q] at e
  dsimp only at e
  split at e
  ·rename_i h
   rw[Bool.and_eq_true] at h
   cases e
   obtain⟨a,xs,rfl,hq,r⟩:=by'.seq q s
   refine⟨a,xs,dx,ds,rfl,hq,(r.mono s).reps (yY h.2),(bx.rpH s).rep (uk h.1),h.1,fun e he=>all_eq_true.mp h.2 e he,k _ G H (Ext.refl s) (.bl _)⟩
  ·cases e
def Dc:D->Bool
 | .none=>true
 |_=>false
theorem cB.ints {G:Hp}:∀ns:List Int,cB K G (ns.map V.int) (ns.map int)
 | []=>.nil
 |n :: ns=>.cons (.int n) (cB.ints ns)
theorem Ak.noNone {G:Hp}{kvs:List (Key×V)}{d:D}{r:List (D×D)}(h:Ak K G kvs ((.none,d) :: r)):False:=by
 generalize e:(PyData.none,d) :: r=l at h
 cases h with
 |nil=>cases e
 | @cons k x xs d' ds _ _=>
  injection e with e1 _
  injection e1 with e2 _
  cases k <;> cases e2
theorem Al.noNone {G:Hp}{kvs:List (List Key×V)}{d:D}{r:List (D×D)}(h:Al K G kvs ((.none,d) :: r)):False:=by
 generalize e:(PyData.none,d) :: r=l at h
 cases h with
 |nil=>cases e
 | @cons k x xs d' ds _ _=>
  injection e with e1 _
  injection e1 with e2 _
  cases e2
theorem mV.scr {B:Option Addr}{G H:Hp}{v:V}{ds:List D}(h:mV K B G H v (.dict [(.none,.list ds)]))(s:ax G H):∃a xs,v=.ref a/\hX K H a xs/\cB K G xs ds:=by
 rcases h with h | ⟨a,rfl,n,h⟩
 ·cases h with
  | @scr a ns q=>exact⟨a,_,rfl,s.seq q,cB.ints ns⟩
  |dK _ r=>exact r.noNone.elim
  |dT _ r=>exact r.noNone.elim
 ·rcases h with⟨_,_,r⟩ | ⟨_,_,r⟩
  ·exact r.noNone.elim
  ·exact r.noNone.elim
def a8:D->D->Option D
 | .list ds,.int i=>jT ds i
 | .tuple ds,.int i=>jT ds i
 | .str z,.int i=>if z.length<=sizeLine then (jT z.cps.toList i).map fun c=>.str ⟨#[c]⟩ else none
 | .dict [(.none,.list ds)],.int i=>jT ds i
 |_,_=>none
theorem tf {G:Hp}{xs:List V}{ds:List D}{i:Int}{d:D}(r:cB K G xs ds)(h:jT ds i=some d):∃x,jT xs i=some x/\Rp K G x d:=by
 unfold jT at h ⊢
 rw[r.len]
 cases e:qN ds.length i with
 |none=>rw[e] at h;cases h
 |some j=>rw[e] at h;exact r.at h
theorem bq:nO K (Kj K) a8 .v:=by
 intro B G H x y dx dy d Q s hB bx by' e k
 cases dx with
 |list ds=>
  cases dy with
  |int i=>
   obtain rfl:=by'.int
   obtain⟨a,xs,rfl,q,r⟩:=bx.list s
   obtain⟨v,ev,rv⟩:=tf r e
   exact .inl ⟨a,xs,i,v,rfl,rfl,.inl q,ev,k _ G H (Ext.refl s) rv⟩
  |_=>cases e
 |tuple ds=>
  cases dy with
  |int i=>
   obtain rfl:=by'.int
   obtain⟨a,xs,rfl,q,r⟩:=bx.tuple s
   obtain⟨v,ev,rv⟩:=tf r e
   exact .inr (.inl ⟨a,xs,i,v,rfl,rfl,q,ev,k _ G H (Ext.refl s) rv⟩)
  |_=>cases e
 |str z=>
  cases dy with
  |int i=>
   obtain rfl:=by'.int
   obtain rfl:=bx.str
   simp only[a8] at e
   split at e
   ·rename_i hz
    cases q:jT z.cps.toList i with
    |none=>rw[q] at e;cases e
    |some c=>rw[q] at e;cases e;exact .inr (.inr ⟨z,i,c,rfl,rfl,hz,q,k _ G H (Ext.refl s) (.str _)⟩)
   ·cases e
  |_=>cases e
 |none=>cases dy <;> cases e
 |bool b=>cases dy <;> cases e
 |int b=>cases dy <;> cases e
 |dict b=>
  obtain⟨ds,i,rfl,rfl,e⟩:∃ds i,b= [(.none,.list ds)]/\dy=.int i/\jT ds i=some d:=by
   unfold a8 at e
   split at e
   ·contradiction
   ·contradiction
   ·contradiction
   ·rename_i h;cases h;exact⟨_,_,rfl,rfl,e⟩
   ·cases e
  obtain rfl:=by'.int
  obtain⟨a,xs,rfl,q,r⟩:=bx.scr s
  obtain⟨v,ev,rv⟩:=tf r e
  exact .inl ⟨a,xs,i,v,rfl,rfl,q,ev,k _ G H (Ext.refl s) rv⟩
def bV:D->Option D
 | .list ds=>some (.int ds.length)
 | .tuple ds=>some (.int ds.length)
 | .str z=>if z.length<=sizeLine then some (.int z.length) else none
 | .dict [(.none,.list ds)]=>some (.int ds.length)
 |_=>none
def J0 (K:Frag):List V->Hp->VK->Prop:=fun xs H Q=>∃x n,xs= [x]/\HJ K x H n/\Q (.int n) H
theorem fS:zx K (fun x=>J0 K [x]) bV .v:=by
 intro B G H x dx d Q s hB bx e k
 unfold bV at e
 split at e
 ·cases e;obtain⟨a,xs,rfl,q,r⟩:=bx.list s;exact⟨_,_,rfl,.inl ⟨xs,.inl q,r.len.symm⟩,k _ G H (Ext.refl s) (.int _)⟩
 ·cases e;obtain⟨a,xs,rfl,q,r⟩:=bx.tuple s;exact⟨_,_,rfl,.inr ⟨xs,q,r.len.symm⟩,k _ G H (Ext.refl s) (.int _)⟩
 ·obtain rfl:=bx.str
  split at e
  ·rename_i hz;cases e;exact⟨_,_,rfl,⟨hz,rfl⟩,k _ G H (Ext.refl s) (.int _)⟩
  ·cases e
 ·cases e;obtain⟨a,xs,rfl,q,r⟩:=bx.scr s;exact⟨_,_,rfl,.inl ⟨xs,q,r.len.symm⟩,k _ G H (Ext.refl s) (.int _)⟩
 ·cases e
def i7:D->Option D
 | .list ds=>some (.tuple ds)
 | .tuple ds=>some (.tuple ds)
 |_=>none
theorem nq:zx K (fun x H Q=>∃p ys,[x]= [.ref p]/\((hX K H p ys/\∀l,H l=none->Q (.ref l) (upd H l (.tup ys)))\/(gJ K H p ys/\Q (.ref p) H))) i7 .v:=by
 intro B G H x dx d Q s hB bx e k
 cases dx with
 |list ds=>
  cases e
  obtain⟨a,xs,rfl,q,r⟩:=bx.list s
  refine⟨a,xs,rfl,.inl ⟨.inl q,fun l hl=>?_⟩⟩
  have x:=Ext.new s (o:=.tup xs) hl
  exact k _ _ _ x (.tup (.inl (.inl aC)) (r.mono x.gg))
 |tuple ds=>
  cases e
  rcases bx with bx | ⟨_,_,_,z⟩
  ·cases bx with
   | @tup a xs _ hq r=>exact⟨a,xs,rfl,.inr ⟨hq.grow s.grow,k _ G H (Ext.refl s) (.tup hq r)⟩⟩
  ·exact z.elim
 |_=>cases e
def yq:D->Option D
 | .list ds=>some (.list ds)
 | .tuple ds=>some (.list ds)
 |_=>none
theorem CA:zx K (fun x H Q=>∃p ys,[x]= [.ref p]/\(hX K H p ys\/gJ K H p ys)/\∀l,H l=none->Q (.ref l) (upd H l (.lst ys))) yq .w:=by
 intro B G H x dx d Q s hB bx e k
 obtain⟨ds,e1,rfl⟩:∃ds,ji dx=some ds/\d=.list ds:=by
  cases dx <;> cases e <;> exact⟨_,rfl,rfl⟩
 obtain⟨a,xs,rfl,hq,r⟩:=bx.seq e1 s
 refine⟨a,xs,rfl,hq,fun l hl=>?_⟩
 exact k _ _ _ (Ext.own s (o:=.lst xs) hl) ⟨l,rfl,hl,s.free hl,xs,aC,r⟩
def lD:List D->Option (List Bool)
 | []=>some []
 | .bool b :: ds=>(lD ds).map (b :: ·)
 |_=>none
theorem sJ {G:Hp}:∀{ds:List D} {bs:List Bool} {xs:List V},lD ds=some bs->cB K G xs ds->xs=bs.map V.bl
 | [],bs,xs,e,r=>by cases e;cases r;rfl
 | .bool b :: ds,bs,xs,e,r=>by
  cases r with
  |cons r1 r2=>
   cases r1
   simp only[lD] at e
   cases q:lD ds with
   |none=>rw[q] at e;cases e
   |some cs=>rw[q] at e;cases e;rw[sJ q r2];rfl
 | .none :: _,_,_,e,_=>by cases e
 | .int _ :: _,_,_,e,_=>by cases e
 | .str _ :: _,_,_,e,_=>by cases e
 | .list _ :: _,_,_,e,_=>by cases e
 | .tuple _ :: _,_,_,e,_=>by cases e
 | .dict _ :: _,_,_,e,_=>by cases e
def dk (f:List Bool->Bool):D->Option D
 | .list ds=>(lD ds).map fun bs=>.bool (f bs)
 |_=>none
theorem kM {f:List Bool->Bool}:zx K (fun x=>wD K f [x]) (dk f) .v:=by
 intro B G H x dx d Q s hB bx e k
 cases dx with
 |list ds=>
  simp only[dk] at e
  cases q:lD ds with
  |none=>rw[q] at e;cases e
  |some bs=>
   rw[q] at e
   cases e
   obtain⟨a,xs,rfl,hq,r⟩:=bx.list s
   obtain rfl:=sJ q r
   exact⟨a,bs,rfl,.inl hq,k _ G H (Ext.refl s) (.bl _)⟩
 |_=>cases e
def EV:R2:=fun x y H Q=>∃l b xs zs,x=.ref l/\y=.ref b/\Rd H l (.lst xs)/\Rd H b (.lst zs)/\xs.length + zs.length<=sizeLine/\∀p,H p=none->Q (.ref p) (upd H p (.lst (xs ++ zs)))
theorem l7:mw X (binaryOp .Add) EV:=by
 intro pins s σ H x y v u Q I rx ry h
 obtain⟨l,b,xs,zs,rfl,rfl,hH,hB,hz,q⟩:=h
 cases rx
 cases ry
 obtain⟨z,its,n,r,hl,e⟩:=I.lstR hH
 obtain⟨z2,its2,n2,r2,hl2,e2⟩:=I.lstR hB
 refine PySem.P.add_list e e2 ?_ (by rw[size_toArray,size_toArray];omega)
 have ea:its.toArray ++ its2.toArray=(its ++ its2).toArray:=by simp
 rw[ea]
 exact⟨.ref _,_,I.lnew (t':=s.toks) (r.append r2) (by rw[length_append];omega),rfl,q _ I.fresh⟩
def fU:D->D->Option D
 | .list a,.list b=>if a.length + b.length<=sizeLine then some (.list (a ++ b)) else none
 |_,_=>none
theorem sI:nO K EV fU .w:=by
 intro B G H x y dx dy d Q s hB bx by' e k
 cases dx <;> cases dy <;> first | (cases e;done) |skip
 rename_i a b
 simp only[fU] at e
 split at e
 ·rename_i hz
  cases e
  obtain⟨p,xs,rfl,q1,r1⟩:=bx.list s
  obtain⟨p2,ys,rfl,q2,r2⟩:=by'.list s
  refine⟨p,p2,xs,ys,rfl,rfl,q1,q2,by rw[r1.len,r2.len];exact hz,fun l hl=>?_⟩
  exact k _ _ _ (Ext.own s (o:=.lst (xs ++ ys)) hl) ⟨l,rfl,hl,s.free hl,_,aC,r1.append r2⟩
 ·cases e
def cc:D->D->Option D:=vA fun i j=>.int (i + j)
theorem i9:nO K (vC fun i j=>.int (i + j)) cc .v:=qL fun dx dy d h=>by obtain⟨i,j,rfl,rfl,rfl⟩:=kr h;exact⟨i,j,rfl,rfl,fun _=>.int _⟩
def cJ:D->D->Option D:=gI (fun i j=>(decide (-(2 ^ 64) < i) && decide (i < 2 ^ 64)) || (decide (-(2 ^ 64) < j) && decide (j < 2 ^ 64))) fun i j=>.int (i * j)
theorem jI:nO K (rI A7 fun i j=>.int (i * j)) cJ .v:=yo fun dx dy d h=>by obtain⟨i,j,rfl,rfl,c,rfl⟩:=yT h;exact⟨i,j,rfl,rfl,by simpa[A7] using c,fun _=>.int _⟩
def AX:D->D->Option D
 | .list a,.int k=>if -(2 ^ 63)<=k/\k < 2 ^ 63/\a.length * k.toNat<=sizeLine then some (.list (List.replicate k.toNat a).flatten) else none
 |_,_=>none
theorem FO {a b:Expr}{fa fb:VF D}{La Lb:List Nat}{mb:Md}{Γ:Fx}{E:XK}{pos:Pos}(ha:SE X Γ E a fa La .w)(hb:SE X Γ E b fb Lb mb):SE X Γ E (.BinOp a .Mult b pos) (f2 fa fb AX) (La ++ Lb) .w:=by
 refine PE.post' (rX Bi ha hb) fun σ H Q ⟨env,G,B,β,I,o⟩=>?_
 refine⟨env,G,B,β,I,o.bnd.imp fun d1 β1 h x G1 H1 I1 s1 m1 vx=>⟨bp La env,G1,B,β1,I1,?_⟩⟩
 rw[eS]
 refine h.bnd.imp fun d2 β2 h y G2 H2 I2 s2 m2 vy=>?_
 obtain⟨d,e,k⟩:=h.of
 rw[<-cp] at I2
 obtain⟨p,rfl,p1,p2,p3⟩:=vx
 have by':=vy.brw I1.boxThere
 cases d1 <;> cases d2 <;> first | (cases e;done) |skip
 rename_i l j
 obtain rfl:=by'.int
 simp only[AX] at e
 split at e
 ·rename_i hz
  cases e
  obtain⟨xs,q,r⟩:=p3
  obtain⟨q1,q2,q3,q4⟩:=I.fresh p1
  have r2:=r.mono s2
  refine⟨p,j,xs,rfl,rfl,m2 _ _ q q3,hz.1,hz.2.1,by rw[r.len];exact hz.2.2,fun l hl=>?_⟩
  have x:=Ext.own I2.sub (o:=.lst (List.replicate j.toNat xs).flatten) hl
  exact k _ _ _ (I2.ext x) ((s1.trans s2).trans x.gg) ((m1.trans m2).trans (x.hh.mov B)) ⟨l,rfl,gc (m1.trans m2) I2.boxThere hl,I2.sub.free hl,_,aC,r2.rep⟩
 ·cases e
def ox:D->Option D
 | .int i=>some (.int (-i))
 |_=>none
theorem yt:zx K (rU fun i=>.int (-i)) ox .v:=by
 intro B G H x dx d Q s hB bx e k
 cases dx with
 |int i=>cases e;obtain rfl:=bx.int;exact⟨i,rfl,k _ G H (Ext.refl s) (.int _)⟩
 |_=>cases e
def Hg:D->String
 | .none=>"NoneType"
 | .bool _=>"bool"
 | .int _=>"int"
 | .str _=>"str"
 | .list _=>"list"
 | .tuple _=>"tuple"
 | .dict _=>"dict"
def BH (d:D)(T:String):Bool:=Hg d == T || (T == "int" && Hg d == "bool")
def eZ:D->Bool
 | .dict ((.none,_) :: _)=>true
 |_=>false
def gS (T:String)(d:D):Option D:=if eZ d=true then none else some (.bool (BH d T))
def Kl (K:Frag)(H:Hp)(x:V)(t:String):Prop:=El K H x t\/(t="dict"/\∃a kvs,x=.ref a/\H a=some (.dT kvs))
def Ik (K:Frag):List V->Hp->VK->Prop:=fun xs H Q=>∃x T t b,xs= [x,.ty T]/\Kl K H x t/\PySem.W.kitOne K (.type t) (.type T)=some b/\Q (.bl b) H
theorem A8:cY X (.builtin "isinstance") (Ik X.K):=by
 intro pins s σ H xs us Q I r h
 obtain⟨x,T,t,b,rfl,ty,e,q⟩:=h
 rcases ty with ty | ⟨rfl,a,kvs,rfl,hk⟩
 ·exact BV pins s σ H _ us Q I r ⟨x,T,t,b,rfl,ty,e,q⟩
 ·obtain⟨u,c,rfl,rx,rc⟩:=vals2 r
  cases rc
  cases rx
  obtain⟨_,_,_,_,o,_,_,e2,ex,_⟩:=I.hok a _ hk
  exact PySem.W.kia_one PySem.W.kitx_dict I.kIn ⟨o,e2,ex.1⟩ e (fun z=>nomatch z) fun tk=>⟨.bl b,H,I.tok tk,rfl,q⟩
theorem mV.ty {B:Option Addr}{G H:Hp}{v:V}{d:D}(h:mV K B G H v d)(s:ax G H)(n:eZ d=false):Kl K H v (Hg d):=by
 cases d with
 |none=>obtain rfl:=h.none;exact .inl .non
 |bool b=>obtain rfl:=h.bool;exact .inl (.bl b)
 |int b=>obtain rfl:=h.int;exact .inl (.int b)
 |str b=>obtain rfl:=h.str;exact .inl (.str b)
 |list b=>obtain⟨a,xs,rfl,q,_⟩:=h.list s;exact .inl (.lst (.inl q))
 |tuple b=>obtain⟨a,xs,rfl,q,_⟩:=h.tuple s;exact .inl (.tup q)
 |dict b=>
  rcases h with h | ⟨a,rfl,_,h⟩
  ·cases h with
   |scr _=>cases n
   |dK q _=>exact .inl (.dic (s _ _ q))
   |dT q _=>exact .inr ⟨rfl,_,_,rfl,s _ _ q⟩
  ·rcases h with⟨_,q,_⟩ | ⟨_,q,_⟩
   ·exact .inl (.dic q)
   ·exact .inr ⟨rfl,_,_,rfl,q⟩
theorem HU {d:D}{T:String}(hT:T∈ ["int","bool","str","list","tuple","dict"]):PySem.W.kitOne K (.type (Hg d)) (.type T)=some (BH d T):=by
 simp only[mem_cons,not_mem_nil,or_false] at hT
 cases d with
 |dict l=>rcases hT with rfl |rfl |rfl |rfl |rfl |rfl <;> rfl
 |none=>rcases hT with rfl |rfl |rfl |rfl |rfl |rfl <;> rfl
 |bool _=>rcases hT with rfl |rfl |rfl |rfl |rfl |rfl <;> rfl
 |int _=>rcases hT with rfl |rfl |rfl |rfl |rfl |rfl <;> rfl
 |str _=>rcases hT with rfl |rfl |rfl |rfl |rfl |rfl <;> rfl
 |list _=>rcases hT with rfl |rfl |rfl |rfl |rfl |rfl <;> rfl
 |tuple _=>rcases hT with rfl |rfl |rfl |rfl |rfl |rfl <;> rfl
theorem ic {a:Expr}{fa:VF D}{La:List Nat}{ma:Md}{Γ:Fx}{E:XK}{pos p p2:Pos}(T:String){y:Str}(hT:T∈ ["int","bool","str","list","tuple","dict"])(hK:X.K=Γ.K)(hg:Gl X "isinstance")(hm:X.mg "isinstance"=none)(hgT:Gl X y)(hmT:X.mg y=none)(hvT:bootBuiltins y=some (.type T))(ha:SE X Γ E a fa La ma)
  (hnT:y≠"__name__":=by decide) (hdT:(y == ("__debug__":Str))=false:=by decide)
  (he:starEach [a,.Name y p2] X.env=(false,eval a X.env) :: starEach [.Name y p2] X.env:=by rfl) (he2:starEach [.Name y p2] X.env=(false,eval (.Name y p2) X.env) :: starEach [] X.env:=by rfl) (hpl:(backTo pos (starEach [.Name y p2] X.env)).any (·.1)=false:=by rfl) :
  SE X Γ E (.Call (.Name "isinstance" p) [a,.Name y p2] [] pos) (f1 fa (gS T)) La .v:=by
 refine PE.post' (j8 A8 hg hm (by decide +kernel) (aX ha (aX (DP hgT hmT hvT (show RelV (.ty T) _ from rfl) hnT hdT) bM he2) he) (by decide) (by decide) he hpl) fun σ H Q ⟨env,G,B,β,I,o⟩=>?_
 refine jr (r:=fun x H1 Q=>Ik X.K [x,.ty T] H1 Q) ?_ I o
 intro B G H x dx d Q s hB bx e k
 unfold gS at e
 split at e
 ·cases e
 ·rename_i hn
  cases e
  rw[hK]
  exact⟨x,T,Hg dx,BH dx T,rfl,bx.ty s (by simpa using hn),HU hT,k _ G H (Ext.refl s) (.bl _)⟩
def kI (fa fb fc:VF D)(g g':D->D->Option D):VF D:=fun vs β=>(fa vs β).bnd fun x β1=>(fb vs β1).bnd fun y β2=>match g x y with
 |some (.bool true)=>(fc vs β2).bnd fun z β3=>R.of (g' y z) β3
 |some (.bool false)=>.ok (.bool false) β2
 |_=>.bad
theorem vU {a b c:Expr}{fa fb fc:VF D}{ma mb mc:Md}{Γ:Fx}{E:XK}{pos:Pos}{op op':CmpOp}{r r':R2}{g g':D->D->Option D}(ho:mw X (compareOp op) r)(ho':mw X (compareOp op') r')(pr:nO Γ.K r g .v)(pr':nO Γ.K r' g' .v)(ha:SE X Γ E a fa [] ma)(hb:SE X Γ E b fb [] mb)(hc:SE X Γ E c fc [] mc)
  (hm:lastMarks [op,op'] [b,c]=false:=by with_unfolding_all rfl):SE X Γ E (.Compare a [op,op'] [b,c] pos) (kI fa fb fc g g') [] .v:=by
 refine PE.post' (A3 ho ho' ha hb hc hm) fun σ H Q ⟨env,G,B,β,I,o⟩=>?_
 refine two (W:=fun x y H2=>r x y H2 fun z H3=>∃k,z=.bl k/\(if k=true then pT Γ E fc [] mc σ H3 fun w' H4=>r' y w' H4 Q else Q (.bl false) H3)) I (o.bnd.imp fun d1 β1 h=>h.bnd.imp fun d2 β2 h x y G2 H2 I2 s2 m2 bx by'=>?_)
 obtain⟨cb,ec,h⟩:∃cb,g d1 d2=some (.bool cb)/\Out Γ E (if cb=true then (fc (vl env) β2).bnd fun z β3=>R.of (g' d2 z) β3 else .ok (.bool false) β2) fun d β'=>∀v G' H',SR Γ B G' H' σ (bp [] env) β'->ax G G'->jh B H H'->VO Γ.K B H G' H' .v d v->Q v H':=by
  split at h
  ·rename_i q;exact⟨true,q,by rw[if_pos rfl];exact h⟩
  ·rename_i q;exact⟨false,q,by rw[if_neg Bool.false_ne_true];exact h⟩
  ·exact h.elim
 refine pr B G2 H2 x y d1 d2 _ _ I2.sub I2.boxThere bx by' ec fun v G' H' x' vo=>?_
 cases vo
 refine⟨cb,rfl,?_⟩
 have I3:=I2.ext x'
 cases cb with
 |false=>rw[if_neg Bool.false_ne_true] at h;exact qX (h _ G' H' I3 (s2.trans x'.gg) (m2.trans (x'.mov B)) (.bl false))
 |true=>
  rw[if_pos rfl] at h
  refine qW ⟨env,G',B,β2,I3,h.bnd.imp fun d3 β3 h z G4 H4 I4 s4 m4 vz=>?_⟩
  obtain⟨d,e,k⟩:=h.of
  refine pr' B G4 H4 y z d2 d3 d Q I4.sub I4.boxThere (by'.mono (x'.gg.trans s4) ((x'.mov B).trans m4)) (vz.brw I3.boxThere) e fun v G5 H5 x5 vo=>?_
  exact k v G5 H5 (I4.ext x5) (((s2.trans x'.gg).trans s4).trans x5.gg) (((m2.trans (x'.mov B)).trans m4).trans (x5.mov B)) vo
end
theorem gy.u1 {k:Nat}{A:Around}(r:gy k A):A.units + 100 < cLine:=by have:=r.un;omega
def Kr (N:List Str)(sc:Scope)(NB:List Str)(own:Nat)(ixs:List Nat)(scope:Scope):Bool:=
 decide (scope.kind=.function) && (scope.names.all fun y=>decide (y.2≠.cell)) && (scope.names.all fun y=>decide (scope.names.lookup y.1=some y.2)) &&
 (scope.names.all fun y=>decide (y.2=.free->(sc.names.lookup y.1=some .cell\/sc.names.lookup y.1=some .free))) && decide NB.Nodup && decide (NB.length=own + ixs.length) &&
 ((List.range ixs.length).all fun k=>decide (NB[own + k]? =N[ixs.getD k 0]?) && (match NB[own + k]? with |some x=>decide ((x,NameKind.free)∈scope.names) |none=>true))
theorem b5 {X:Cx}{NB:List Str}{own:Nat}{ixs:List Nat}{scope:Scope}(h:Kr X.N X.env.scope NB own ixs scope=true):dz X NB own ixs scope:=by
 unfold Kr at h
 simp only[Bool.and_eq_true,all_eq_true,decide_eq_true_eq,mem_range] at h
 obtain⟨⟨⟨⟨⟨⟨h1,h2⟩,h3⟩,h4⟩,h5⟩,h6⟩,h7⟩:=h
 refine⟨h1,h2,h3,h4,h5,h6,fun k hk=>⟨(h7 k hk).1,fun x hx=>?_⟩⟩
 have:=(h7 k hk).2
 rw[hx] at this
 simpa using this
section
variable {X:Cx}{Γ:Fx}{E:XK}{e a b c:Expr}{f fa fb fc:VF D}{L La Lb:List Nat}{md ma mb mc:Md}{pos:Pos}{K:Frag}
def tN (fa:VF D)(neg:Bool):VF Bool:=fun vs β=>(fa vs β).bnd fun x β1=>.ok (if neg then !Dc x else Dc x) β1
def oT (Γ:Fx)(E:XK)(f:VF (Option Int))(L:List Nat):TO:=fun σ H Q=>∃env G B β,SR Γ B G H σ env β/\
 Out Γ E (f (vl env) β) fun d β'=>∀G' H',SR Γ B G' H' σ (bp L env) β'->ax G G'->jh B H H'->Q d H'
def IW (X:Cx)(Γ:Fx)(E:XK)(e:Option Expr)(f:VF (Option Int))(L:List Nat):Prop:=PO X e (oT Γ E f L)
theorem Ec:IW X Γ E none (fun _ β=>.ok none β) []:=fun pins s σ H Q I ⟨env,G,B,β,J,o⟩=>CM pins s σ H Q I (o G H J (ax.refl _) (jh.refl _ _))
def GL (fa:VF D):VF (Option Int):=fun vs β=>(fa vs β).bnd fun x β1=>match x with
 | .int i=>.ok (some i) β1
 |_=>.bad
theorem Ed (ha:SE X Γ E a fa La ma):IW X Γ E (some a) (GL fa) La:=fun pins s σ H Q I ⟨env,G,B,β,J,o⟩=>by
 refine D1 ha pins s σ H Q I ⟨env,G,B,β,J,o.bnd.imp fun d1 β1 h x G1 H1 I1 s1 m1 vx=>?_⟩
 cases d1 with
 |int i=>exact⟨i,(vx.brw J.boxThere).int,h G1 H1 I1 s1 m1⟩
 |_=>exact h.elim
def cutD (xs:List D)(lo hi:Option Int):List D:=(xs.drop (HT.rQ xs.length 0 lo)).take (HT.rQ xs.length xs.length hi - HT.rQ xs.length 0 lo)
theorem C1 {G:Hp}{xs:List V}{ds:List D}(r:cB K G xs ds)(lo hi:Option Int):cB K G (xh xs lo hi) (cutD ds lo hi):=by
 unfold xh cutD
 rw[r.len]
 exact (r.drop _).take _
def FX (fa:VF D)(fl fh:VF (Option Int)):VF D:=fun vs β=>(fa vs β).bnd fun x β1=>(fl vs β1).bnd fun l β2=>(fh vs β2).bnd fun h β3=>match x with
 | .list ds=>.ok (.list (cutD ds l h)) β3
 |_=>.bad
theorem BM {lo hi:Option Expr}{fl fh:VF (Option Int)}{Ll Lh:List Nat}{p2:Pos}(hK:X.K=Γ.K)(ha:SE X Γ E a fa La ma)(hl:IW X Γ E lo fl Ll)(hh:IW X Γ E hi fh Lh):SE X Γ E (.Subscript a (.Slice lo hi none p2) pos) (FX fa fl fh) (La ++ Ll ++ Lh) .w:=by
 refine PE.post' (Ci Ei ha hl hh) fun σ H Q ⟨env,G,B,β,I,o⟩=>?_
 refine⟨env,G,B,β,I,o.bnd.imp fun d1 β1 h x G1 H1 I1 s1 m1 vx=>⟨bp La env,G1,B,β1,I1,?_⟩⟩
 rw[eS]
 refine h.bnd.imp fun l β2 h G2 H2 I2 s2 m2=>⟨bp Ll (bp La env),G2,B,β2,I2,?_⟩
 rw[eS,eS]
 refine h.bnd.imp fun u β3 h G3 H3 I3 s3 m3=>?_
 rw[<-cp,<-cp,<-append_assoc] at I3
 have bx:=((vx.brw I.boxThere).mono s2 m2).mono s3 m3
 cases d1 with
 |list ds=>
  obtain⟨p,xs,rfl,hq,r⟩:=bx.list I3.sub
  rw[hK]
  refine⟨p,xs,rfl,.inl hq,fun q hn=>?_⟩
  have x:=Ext.own I3.sub (o:=.lst (xh xs l u)) hn
  exact h _ _ _ (I3.ext x) ((s1.trans s2).trans s3) (((m1.trans m2).trans m3).trans (x.mov B)) ⟨q,rfl,gc ((m1.trans m2).trans m3) I3.boxThere hn,I3.sub.free hn,_,aC,C1 r l u⟩
 |_=>exact h.elim
theorem FC:nO K (fun x y H Q=>∃i j,[x,y]= [.int i,.int j]/\Q (.int (if j > i then j else i)) H) (vA fun i j=>.int (if j > i then j else i)) .v:=by
 intro B G H x y dx dy d Q s hB bx by' e k
 obtain⟨i,j,rfl,rfl,rfl⟩:=kr e
 obtain rfl:=bx.int
 obtain rfl:=by'.int
 exact⟨i,j,rfl,k _ G H (Ext.refl s) (.int _)⟩
theorem GY:nO K (fun x y H Q=>∃i j,[x,y]= [.int i,.int j]/\Q (.int (if j < i then j else i)) H) (vA fun i j=>.int (if j < i then j else i)) .v:=by
 intro B G H x y dx dy d Q s hB bx by' e k
 obtain⟨i,j,rfl,rfl,rfl⟩:=kr e
 obtain rfl:=bx.int
 obtain rfl:=by'.int
 exact⟨i,j,rfl,k _ G H (Ext.refl s) (.int _)⟩
end
structure i5 (K:Frag)(mg:Str->Option Value)(x:Str)(st:Stmt)(ps:List Str)(f:Addr)(fd:FuncData):Prop where
 mg:mg x=some (.ref f)
 F:CI K x x st f fd
 b:Binds K fd ps []
structure Exc (K:Frag)(mg:Str->Option Value)(ca:Str->Addr)(x:Str):Prop where
 mg:mg x=some (.ref (ca x))
 ex:PySem.W.excIn K (ca x) [.type "ValueError",.type "Exception",.type "BaseException",.type "object"] "ValueError.__new__"=true
theorem Exc.ca {K:Frag}{mg:Str->Option Value}{ca:Str->Addr}{x:Str}(h:Exc K mg ca x):ca x=ca x:=rfl
structure jg (mg:Str->Option Value):Prop where
 len:mg "len"=none
 range:mg "range"=none
 enumerate:mg "enumerate"=none
 zip:mg "zip"=none
 min:mg "min"=none
 max:mg "max"=none
 sum:mg "sum"=none
 abs:mg "abs"=none
 sorted:mg "sorted"=none
 reversed:mg "reversed"=none
 int:mg "int"=none
 str:mg "str"=none
 bool:mg "bool"=none
 list:mg "list"=none
 tuple:mg "tuple"=none
 dict:mg "dict"=none
 set:mg "set"=none
 isinstance:mg "isinstance"=none
 repr:mg "repr"=none
 any:mg "any"=none
 all:mg "all"=none
 divmod:mg "divmod"=none
inductive FB where
 |ok (d:D) (fresh:Bool) (β:Int)
 |bad
def HY (K:Frag)(n:Nat)(F:List D->Int->FB):Sp:=fun vs H Q _=>∃b rest G ds β,vs=.ref b :: rest/\H b=some (.lst [.int β])/\G b=none/\ax G H/\ds.length=n/\cB K G rest ds/\match F ds β with
 | .ok d fr β'=>∀v G' H',jh (some b) H H'->H' b=some (.lst [.int β'])->ax G G'->ax G' H'->(∀c,Mx H c->G c=none->G' c=none)->FV K H G' H' fr d v->Q v H'
 | .bad=>False
structure jY (P:Program)(w:World)(K:Frag)(mg:Str->Option Value)(base:Heap)(x:Str)(ps:List Str)(k:Nat)(F:List D->Int->FB):Prop where
 ex:∃f fd,mg x=some (.ref f)/\PySem.W.keepIn K (.ref f)=true/\Binds K fd ps []/\gP P w K mg base (oZ P w) k f fd ps (HY K (ps.length - 1) F)
 len:∀ds β,F ds β≠.bad->ds.length=ps.length - 1
def xR (vs:List Nv)(i:Nat):Bool:=match vs[i]? with
 |some .bx=>true
 |_=>false
def fO (i:Nat)(F:List D->Int->FB)(fr:VF (List D)):VF D:=fun vs β=>if xR vs i=true then (fr vs β).bnd fun ds β1=>match F ds β1 with
 | .ok d _ β2=>.ok d β2
 | .bad=>.bad else .bad
def JS (i:Nat)(F:List D->Int->FB)(fr:VF (List D)):VF D:=fun vs β=>if xR vs i=true then (fr vs β).bnd fun ds β1=>match F ds β1 with
 | .ok d true β2=>.ok d β2
 |_=>.bad else .bad
section
variable {X:Cx}{Γ:Fx}{E:XK}{e a b c:Expr}{f fa fb fc:VF D}{L La Lb:List Nat}{md ma mb mc:Md}{pos:Pos}{K:Frag}{es:List Expr}{fr:VF (List D)}
theorem Em {env:En}{i:Nat}(h:xR (vl env) i=true):env[i]? =some .bx:=by
 unfold xR at h
 split at h
 ·exact Hi (by assumption)
 ·cases h
theorem De {env:En}{i j:Nat}{d:D}(h:(gV env i)[j]? =some (.br d)):env[j]? =some (.br d):=by
 unfold gV at h
 split at h
 ·rename_i d' e
  by_cases z:i=j
  ·subst z
   rw[getElem?_set_self (List.getElem?_eq_some_iff.mp e).1] at h;cases h
  ·rw[getElem?_set_ne z] at h;exact h
 ·exact h
theorem E3 {L:List Nat}{env:En}{j:Nat}{d:D}(h:(bp L env)[j]? =some (.br d)):env[j]? =some (.br d):=by
 unfold bp at h
 induction L generalizing env with
 |nil=>exact h
 |cons i L ih=>exact De (ih h)
theorem SR.calledB {p:Addr}{β β':Int}{G1 H1 G2 H2:Hp}{σ:St}{env:En}(I1:SR Γ (some p) G1 H1 σ env β)(h:jh (some p) H1 H2)(hp:H2 p=some (.lst [.int β']))(g:ax G1 G2)(s:ax G2 H2)(n:∀b,Mx H1 b->G1 b=none->G2 b=none):SR Γ (some p) G2 H2 σ env β':=by
 obtain⟨b1,b2,b3⟩:=I1.box p rfl
 refine⟨s,I1.old.trans g,fun b n1 n2=>n b (I1.thereM n1) (I1.new b n1 n2),fun b o e np=>h b o (I1.keep b o e np) fun z=>?_,fun b hb=>?_,I1.fix,fun b e=>?_,I1.len,fun i t e=>?_,I1.sep⟩
 ·cases z
  rcases b3 with b3 |b3
  ·exact np b3
  ·rw[e] at b3;cases b3
 ·by_cases z:p=b
  ·subst z;exact Mx.lst hp
  ·exact (I1.pin b hb).same fun o q=>h b o q fun y=>z (Option.some.inj y)
 ·cases e
  exact⟨hp,n p (Mx.lst b1) b2,b3⟩
 ·have q:=I1.slot i t e
  cases t with
  |no=>trivial
  |fz d=>obtain⟨v,h1,h2⟩:=q;exact⟨v,h1,h2.mono g⟩
  |ow d=>
   obtain⟨c,h1,h2,h3,h4,h5⟩:=q
   exact⟨c,h1,h2,n c h5.mx h3,h4,h5.mono g fun o q=>h c o q h4⟩
  |bx=>exact q
  |br d=>obtain⟨b1,c,h1,h4,hpp,h5⟩:=q;exact⟨b1,c,h1,h4,hpp,h5.mono g fun o q=>h c o q h4⟩
theorem CN {F:List D->Int->FB}{ps:List Str}{Q:VK}{B:Option Addr}{G H:Hp}{σ:St}{env:En}{β:Int}{i:Nat}{p:Addr}(I:SR Γ B G H σ env β)(hK:X.K=Γ.K)(hp:B=some p){wv:Bool}
  (h:Out Γ E (fr (vl env) β) fun ds β1=>Out Γ E (match F ds β1 with
   | .ok d true β2=>.ok d β2
   | .ok d false β2=>if wv=true then .bad else .ok d β2
   | .bad=>.bad) fun d β'=>∀v G' H',SR Γ B G' H' σ (bp L env) β'->ax G G'->jh B H H'->VO Γ.K B H G' H' (if wv=true then .w else .v) d v->Q v H') (hl:∀ds β,F ds β≠.bad->ds.length=ps.length - 1) :
  aT Γ E fr L σ H fun vs H1=>HY X.K (ps.length - 1) F (.ref p :: vs) H1 Q E:=by
 subst hp
 refine⟨env,G,_,β,I,h.imp fun ds β1 k vs G1 H1 I1 s1 m1 r=>?_⟩
 obtain⟨b1,b2,b3⟩:=I1.box p rfl
 refine⟨p,vs,G1,ds,β1,rfl,b1,b2,I1.sub,hl ds β1 fun z=>by rw[z] at k;exact k,by rw[hK];exact r,?_⟩
 cases q:F ds β1 with
 |bad=>rw[q] at k;exact k
 |ok d fr' β2=>
  rw[q] at k
  intro v G' H' hh hb hg hs hn fv
  have I2:=I1.calledB hh hb hg hs hn
  cases fr' with
  |true=>
   obtain⟨c,rfl,p1,p2,p3⟩:∃a,v=.ref a/\H1 a=none/\G' a=none/\Own X.K G' H' a d:=fv
   rw[hK] at p3
   have hp:=gc m1 I1.boxThere p1
   cases wv with
   |true=>exact k _ G' H' I2 (s1.trans hg) (m1.trans hh) ⟨c,rfl,hp,p2,p3⟩
   |false=>
    obtain⟨q1,q2,q3,q4⟩:=I1.fresh p1
    obtain⟨G3,I3,s3,r3⟩:=I2.letIn q1 p2 q3 q4 p3
    exact k _ G3 H' I3 ((s1.trans hg).trans s3) (m1.trans hh) r3
  |false=>
   cases wv with
   |true=>exact k.elim
   |false=>
    have fv:Rp X.K G' v d:=fv
    rw[hK] at fv
    exact k _ G' H' I2 (s1.trans hg) (m1.trans hh) fv
theorem Ga {F:List D->Int->FB}{ps:List Str}{Q:VK}{i:Nat}{σ:St}{H:Hp}(hK:X.K=Γ.K){wv:Bool}(hl:∀ds β,F ds β≠.bad->ds.length=ps.length - 1)(h:pT Γ E (if wv=true then JS i F fr else fO i F fr) L (if wv=true then .w else .v) σ H Q) :
  DH i σ H fun x H1=>aT Γ E fr L σ H1 fun vs H2=>HY X.K (ps.length - 1) F (x :: vs) H2 Q E:=by
 obtain⟨env,G,B,β,I,o⟩:=h
 have hi:xR (vl env) i=true:=by
  by_cases hi:xR (vl env) i=true
  ·exact hi
  ·exfalso
   cases wv with
   |true=>simp only[if_true] at o;unfold JS at o;rw[if_neg hi] at o;exact o
   |false=>simp only[Bool.false_eq_true,if_false] at o;unfold fO at o;rw[if_neg hi] at o;exact o
 obtain⟨p,e1,e2⟩:=I.slot i _ (Em hi)
 refine⟨.ref p,e1,CN (i:=i) (ps:=ps) I hK e2 (wv:=wv) ?_ hl⟩
 cases wv with
 |true=>
  simp only[if_true] at o ⊢
  unfold JS at o
  rw[if_pos hi] at o
  refine o.bnd.imp fun ds β1 h=>?_
  cases q:F ds β1 with
  |bad=>rw[q] at h;exact h
  |ok d b β2=>rw[q] at h;cases b <;> exact h
 |false=>
  simp only[Bool.false_eq_true,if_false] at o ⊢
  unfold fO at o
  rw[if_pos hi] at o
  refine o.bnd.imp fun ds β1 h=>?_
  cases q:F ds β1 with
  |bad=>rw[q] at h;exact h
  |ok d b β2=>rw[q] at h;cases b <;> exact h
theorem gO {x y:Str}{ps:List Str}{k:Nat}{F:List D->Int->FB}{p np:Pos}(i:Nat)(hf:jY X.prog X.w X.K X.mg X.base x ps k F)(hr:gy k X.A)(hx:Passes (oZ X.prog X.w) X E)(hK:X.K=Γ.K)(hg:Gl X x)(ha:SA X Γ E es fr L)(hN:X.N[i]? =some y:=by rfl)(hv:zI X.env.scope y:=by first |exact Or.inl rfl |exact Or.inr (Or.inl rfl) |exact Or.inr (Or.inr rfl))(hd:(y == ("__debug__":Str))=false:=by decide)
  (hcd:(y == ("__classdict__":Str))=false:=by decide) (hdb:(x == ("__debug__":Str))=false:=by decide)
  (he:starEach (.Name y np :: es) X.env=(false,eval (.Name y np) X.env) :: starEach es X.env:=by rfl) (hpl:(backTo pos (starEach es X.env)).any (·.1)=false:=by rfl):SE X Γ E (.Call (.Name x p) (.Name y np :: es) [] pos) (fO i F fr) L .v:=by
 obtain⟨f,fd,hm,hk,hb,hF⟩:=hf.ex
 refine PE.post' (o6 (dvs:=[]) hF hr hg hm hk hb .nil hx (aX (jJ hN hv hd hcd) ha he) hdb he hpl) fun σ H Q h=>?_
 have:=Ga (Q:=Q) (wv:=false) (ps:=ps) hK hf.len (by simpa using h)
 show DH i σ H fun x H1=>aT Γ E fr L σ H1 fun vs H2=>HY X.K (ps.length - 1) F ((x :: vs) ++ []) H2 Q E
 simpa using this
def A4:D->Option Int
 | .list [.int z]=>some z
 |_=>none
theorem Eb {d:D}{z:Int}(h:A4 d=some z):d=.list [.int z]:=by
 unfold A4 at h
 split at h
 ·cases h;rfl
 ·cases h
def KL (f0:VF D)(F:List D->Int->FB)(n:Int):VF D:=fun vs β=>(f0 vs β).bnd fun d0 β1=>match A4 d0 with
 |some z=>(match F [.int n] z with
  | .ok d _ _=>.ok d β1
  | .bad=>.bad)
 |none=>.bad
def ui (env:En):En:=env.map fun s=>match s with
 | .bx=>.no
 |s=>s
theorem Az {env:En}{i:Nat}{s:Sl}(h:(ui env)[i]? =some s)(n:s≠.no):env[i]? =some s/\s≠.bx:=by
 unfold ui at h
 rw[getElem?_map] at h
 cases e:env[i]? with
 |none=>rw[e] at h;cases h
 |some t=>
  rw[e] at h
  have h:=Option.some.inj h
  cases t with
  |bx=>exact absurd h.symm n
  |no=>exact absurd h.symm n
  |fz d=>subst h;exact⟨rfl,fun z=>by cases z⟩
  |ow d=>subst h;exact⟨rfl,fun z=>by cases z⟩
  |br d=>subst h;exact⟨rfl,fun z=>by cases z⟩
def yK (i:Nat)(L:List Nat)(f:VF D):SF:=fun env β=>toS (f (vl env) β) fun d _=>match A4 d with
 |some z=>.nx ((ui (bp L env)).set i .bx) z
 |none=>.bad
theorem Dz {i:Nat}{x:Str}{pos':Pos}(hbx:Γ.bx=none)(he:SE X Γ E e f L .w)(hN:X.N.Nodup)(hi:X.N[i]? =some x:=by rfl)(hx:Loc X.env.scope x:=by first |exact Or.inl rfl |exact Or.inr rfl)(hs:swapsWith e (some (.Name x pos')) pos.line X.env=pure false:=by rfl)(hf:X.fn x=true\/X.env.scope.names.lookup x=some .local:=by first |exact .inl rfl |exact .inr rfl |assumption) :
  SS X Γ E (.Assign [.Name x pos'] e pos) (yK i L f):=by
 refine PS.post (qD hN hi hx he hs hf) fun N σ H ⟨env,G,B,β,I,o⟩=>?_
 refine⟨env,G,B,β,I,cF o fun d β' k v G' H' I' s' m' vo=>?_⟩
 cases q:A4 d with
 |none=>rw[q] at k;exact k.elim
 |some z=>
  rw[q] at k
  obtain rfl:=Eb q
  obtain⟨p,rfl,h1,h2,xs,h3,r⟩:=vo
  have hx2:H' p=some (.lst [.int z]):=by
   cases r with
   |cons r1 r2=>
    cases r1
    cases r2
    exact h3
  obtain⟨q1,q2,q3,q4⟩:=I.fresh h1
  refine k (some p) G' H' _ ⟨I'.sub,I'.old,I'.new,I'.keep,I'.pin,fun b e=>(by rw[hbx] at e;cases e),fun b e=>?_,?_,fun j t e=>?_,fun j j' c d1 d2 e1 e2 e3 e4=>?_⟩ s'
  ·cases e;exact⟨hx2,h2,.inr q1⟩
  ·rw[length_set,length_set];unfold ui;rw[length_map];exact I'.len
  ·by_cases hj:j=i
   ·subst hj
    by_cases hl:j < (ui (bp L env)).length
    ·rw[getElem?_set_self hl] at e
     cases e
     refine⟨p,?_,rfl⟩
     rw[getElem?_set_self]
     rw[I'.len];unfold ui at hl;simpa using hl
    ·rw[getElem?_eq_none (by rw[length_set];omega)] at e;cases e
   ·rw[getElem?_set_ne (Ne.symm hj)] at e ⊢
    by_cases hn:t=.no
    ·subst hn;trivial
    ·obtain⟨e1,nb⟩:=Az e hn
     have w:=I'.slot j t e1
     cases t with
     |no=>trivial
     |fz d=>exact w
     |bx=>exact absurd rfl nb
     |ow d=>
      obtain⟨a',g1,g2,g3,g4,g5⟩:=w
      exact⟨a',g1,g2,g3,fun y=>q4 j d (qt e1) (by cases y;exact g1),g5⟩
     |br d=>
      obtain⟨b1,a',g1,g4,hpp,g5⟩:=w
      have e0:env[j]? =some (.br d):=E3 e1
      obtain⟨_,a2,f1,_,_,f5⟩:=I.slot j _ e0
      rw[g1] at f1;cases f1
      obtain⟨o,ho⟩:=f5.obj
      exact⟨b1,a',g1,fun y=>(by cases y;rw[h1] at ho;cases ho),hpp,g5⟩
  ·have back:∀{j:Nat} {d1:D},((ui (bp L env)).set i Sl.bx)[j]? =some (.ow d1)->j≠i/\(bp L env)[j]? =some (.ow d1):=fun {j d1} e=>by
    by_cases hj:j=i
    ·subst hj
     by_cases hl:j < (ui (bp L env)).length
     ·rw[getElem?_set_self hl] at e;cases e
     ·rw[getElem?_eq_none (by rw[length_set];omega)] at e;cases e
    ·rw[getElem?_set_ne (Ne.symm hj)] at e
     exact⟨hj,(Az e (fun y=>by cases y)).1⟩
   obtain⟨n1,w1⟩:=back e1
   obtain⟨n2,w2⟩:=back e2
   rw[getElem?_set_ne (Ne.symm n1)] at e3
   rw[getElem?_set_ne (Ne.symm n2)] at e4
   exact I'.sep j j' c d1 d2 w1 w2 e3 e4
end
section
variable {P:Program}{w:World}{K:Frag}{mg:Str->Option Value}{base:Heap}{ca:Str->Addr}
def tE:SO->FB
 | .nx _ β=>.ok .none false β
 | .rt d fr β=>.ok d fr β
 |_=>.bad
def xf (n:Nat)(ds:List D):En:=.bx :: ds.map Sl.fz ++ List.replicate (n - 1 - ds.length) .no
def nD (n p:Nat)(m:SF):List D->Int->FB:=fun ds β=>if ds.length=p then tE (m (xf n ds) β) else .bad
abbrev Fx.fb (K:Frag)(H G:Hp)(ca:Str->Addr)(b:Addr):Fx:=⟨K,H,G,[b],ca,fun _=>false,some b⟩
theorem SR.startB {H G:Hp}{N:List Str}{b:Addr}{vs:List V}{ds:List D}{β:Int}(s:ax G H)(hb:H b=some (.lst [.int β]))(gb:G b=none)(r:cB K G vs ds)(hn:ds.length + 1<=N.length):SR (Fx.fb K H G ca b) (some b) G H (L2.start N (.ref b :: vs)) (xf N.length ds) β:=by
 have hl:=r.len
 refine⟨s,ax.refl _,fun c _ h=>h,fun c o h _=>h,fun c h=>?_,fun c h=>h,fun c h=>?_,?_,fun i t e=>?_,fun i j a d e h=>?_⟩
 ·have:c=b:=by simpa using h
  subst this;exact Mx.lst hb
 ·cases h;exact⟨hb,gb,.inl (by simp)⟩
 ·unfold L2.start xf;simp;omega
 ·cases i with
  |zero=>
   unfold xf at e
   cases e
   exact⟨b,rfl,rfl⟩
  |succ i=>
   unfold xf at e
   have e:(ds.map Sl.fz ++ List.replicate (N.length - 1 - ds.length) Sl.no)[i]? =some t:=by simpa using e
   by_cases hi:i < ds.length
   ·rw[getElem?_append_left (by simpa using hi),getElem?_map,getElem?_eq_getElem hi] at e
    cases e
    obtain⟨x,hx,rx⟩:=r.at (getElem?_eq_getElem hi)
    refine⟨x,?_,rx⟩
    unfold L2.start
    have hi':i < vs.length:=by rw[hl];exact hi
    rw[getElem?_append_left (by simp;exact hi'),getElem?_map,List.getElem?_cons_succ,hx];rfl
   ·rw[getElem?_append_right (by simpa using hi),getElem?_replicate] at e
    split at e
    ·cases e;trivial
    ·cases e
 ·unfold xf at h
  have hm:=mem_of_getElem? h
  rcases mem_cons.mp hm with z |hm
  ·cases z
  rcases mem_append.mp hm with z |z
  ·obtain⟨_,_,z⟩:=mem_map.mp z;cases z
  ·have:=List.eq_of_mem_replicate z;cases this
theorem lJ {x qual:Str}{st:Stmt}{f:Addr}{fd:FuncData}{N:List Str}{ps:List Str}{k:Nat}{m:SF}(F:CI K x qual st f fd)(S:aJ N ps (av st))(hp:1<=ps.length)
  (hbody:∀(cdv:Value) (A:Around) (outer:List Env) (s:Shared) (H G:Hp) (b:Addr) (E:XK),gy k (A.deeper (envOfC qual (av st) s.heap.objs.size f cdv))->CH (mi (oZ P w) P w K mg base N qual (av st) f cdv A outer s H E) (Fx.fb K H G ca b) E (df st) m) :
  gP P w K mg base (oZ P w) (k + 1) f fd ps (HY K (ps.length - 1) (nD N.length (ps.length - 1) m)):=by
 have hpn:ps.length<=N.length:=by have:=congrArg List.length S.pre;rw[length_take] at this;omega
 refine F.Aj S (fun vs H Q E h=>?_) (fun cdv A outer s H vs Q E hr h=>?_)
 ·obtain⟨b,rest,G,ds,β,rfl,hb,gb,sG,hl,r,_⟩:=h
  rw[length_cons,r.len];omega
 ·obtain⟨b,rest,G,ds,β,rfl,hb,gb,sG,hl,r,h⟩:=h
  refine⟨_,hbody cdv A outer s H G b E hr,?_⟩
  have I:=SR.startB (ca:=ca) (N:=N) sG hb gb r (by omega)
  refine⟨_,G,some b,β,I,?_⟩
  unfold nD at h
  rw[if_pos hl] at h
  have fin':∀{B G' H' σ env β},SR (Fx.fb K H G ca b) B G' H' σ env β->jh (some b) H H'/\H' b=some (.lst [.int β]):=fun J=>by
   have e:=J.fix b rfl
   refine⟨fun c o ec n=>J.keep c o ec fun z=>n ?_,(J.box b e).1⟩
   have:c=b:=by simpa using z
   rw[this]
  cases q:m (xf N.length ds) β with
  |nx env β'=>rw[q] at h;exact fun B G' H' σ J s'=>h .non G' H' (fin' J).1 (fin' J).2 s' J.sub (fun c h1 h2=>J.new c h1 h2) Rp.non
  |bk env β'=>rw[q] at h;exact h.elim
  |ct env β'=>rw[q] at h;exact h.elim
  |rt d fr β'=>
   rw[q] at h
   refine fun B G' H' σ env v J s' rv=>h v G' H' (fin' J).1 (fin' J).2 s' J.sub (fun c h1 h2=>J.new c h1 h2) ?_
   cases fr with
   |true=>exact rv
   |false=>exact rv
  |exc c=>rw[q] at h;exact h.elim
  |bad=>rw[q] at h;exact h.elim
theorem lR {n p:Nat}{m:SF}(ds:List D)(β:Int)(h:nD n p m ds β≠.bad):ds.length=p:=by
 unfold nD at h
 by_cases hl:ds.length=p
 ·exact hl
 ·rw[if_neg hl] at h;exact absurd rfl h
end
def aq (p:Pr):D:=.tuple [.int p.1,.int p.2]
def qh:D->Option Pr
 | .tuple [.int a,.int b]=>some (a,b)
 |_=>none
theorem vI {d:D}{p:Pr}(h:qh d=some p):d=aq p:=by
 unfold qh at h
 split at h
 ·cases h;rfl
 ·cases h
theorem zg (p:Pr):qh (aq p)=some p:=rfl
def eB:List D->Option (List Pr)
 | []=>some []
 |d :: ds=>match qh d,eB ds with
  |some p,some ps=>some (p :: ps)
  |_,_=>none
theorem iN:∀{ds:List D} {ps:List Pr},eB ds=some ps->ds=ps.map aq
 | [],ps,h=>by cases h;rfl
 |d :: ds,ps,h=>by
  unfold eB at h
  split at h
  ·rename_i p qs h1 h2;cases h;rw[vI h1,iN h2];rfl
  ·cases h
theorem eO:∀ps:List Pr,eB (ps.map aq)=some ps
 | []=>rfl
 |p :: ps=>by
  show (match qh (aq p),eB (ps.map aq) with
   |some p,some ps=>some (p :: ps)
   |_,_=>none)=_
  rw[zg,eO ps]
section
variable {K:Frag}{X:Cx}{G H:Hp}
theorem cB.pairs:∀{ps:List Pr} {xs:List V},cB K G xs (ps.map aq)->aW K G xs ps
 | [],_,.nil=>.nil
 |p :: ps,_,.cons r t=>by
  cases r with
  |tup hq r=>
   cases r with
   |cons r1 r=>
    cases r with
    |cons r2 r=>cases r;cases r1;cases r2;exact .cons ⟨_,rfl,hq⟩ (cB.pairs t)
theorem aW.rps:∀{ps:List Pr} {xs:List V},aW K G xs ps->cB K G xs (ps.map aq)
 | [],_,.nil=>.nil
 |p :: ps,_,.cons r t=>by
  obtain⟨a,rfl,q⟩:=r
  exact .cons (.tup q (.cons (.int _) (.cons (.int _) .nil))) (aW.rps t)
def CD (p:Pr):Bool:=decide (0<=p.1) && decide (p.1 < 8) && decide (0<=p.2) && decide (p.2 < 8)
theorem w9 {p:Pr}(h:CD p=true):Sm p:=by
 unfold CD at h
 simp only[Bool.and_eq_true,decide_eq_true_eq] at h
 exact⟨⟨h.1.1.1,h.1.1.2⟩,h.1.2,h.2⟩
noncomputable def cX (d:D):Option D:=match ji d with
 |some ds=>(match eB ds with
  |some ps=>if ps.all CD=true/\(OM.bR 8 (OM.Mem ps)).length < 64 then some (.list ((OM.bR 8 (OM.Mem ps)).map aq)) else none
  |none=>none)
 |none=>none
variable {Γ:Fx}{E:XK}{e a b c:Expr}{f fa fb fc:VF D}{L La Lb:List Nat}{md ma mb mc:Md}{pos:Pos}
theorem pK {p1 p2 pos2:Pos}(hc:X.calm=true)(hu:X.A.units + 64 < cLine)(hK:X.K=Γ.K)(hg:Gl X "sorted")(hm:X.mg "sorted"=none)(hg2:Gl X "set")(hm2:X.mg "set"=none)(ha:SE X Γ E a fa La ma)
  (he:starEach [a] X.env=(false,eval a X.env) :: starEach [] X.env:=by rfl)
  (he2:starEach [.Call (.Name "set" p2) [a] [] pos2] X.env=(false,eval (.Call (.Name "set" p2) [a] [] pos2) X.env) :: starEach [] X.env:=by rfl) :
  SE X Γ E (.Call (.Name "sorted" p1) [.Call (.Name "set" p2) [a] [] pos2] [] pos) (f1 fa cX) La .w:=by
 refine PE.post' (j8 (tw hc) hg hm (by decide +kernel) (aX (iO (v8 hc hu) hg2 hm2 (by decide +kernel) (aX ha bM he) (by decide) (by decide) he) bM he2) (by decide) (by decide) he2) fun σ H Q ⟨env,G,B,β,I,o⟩=>?_
 refine jr (r:=fun x H1 Q=>FJ X.prog X.w X.K [x] H1 fun y H2=>wo X.prog X.w X.K [y] H2 Q) ?_ I o
 intro B G H x dx d Q s hB bx e k
 rw[hK]
 unfold cX at e
 cases q:ji dx with
 |none=>rw[q] at e;cases e
 |some ds=>
  rw[q] at e
  dsimp only at e
  cases q2:eB ds with
  |none=>rw[q2] at e;cases e
  |some ps=>
   rw[q2] at e
   dsimp only at e
   split at e
   ·rename_i hh
    obtain⟨h1,h2⟩:=hh
    cases e
    obtain⟨p,xs,rfl,hq,r⟩:=bx.seq q s
    rw[iN q2] at r
    have pv:=(r.mono s).pairs
    have sm:∀p,p∈ps->Sm p:=fun p hp=>w9 (all_eq_true.mp h1 p hp)
    refine⟨p,xs,ps,rfl,hq,pv,sm,fun S qs hS hpv nd hm=>?_⟩
    have qsl:qs.length < 64:=by
     have:(pq qs).length<=(OM.bR 8 (OM.Mem ps)).length:=OM.jM nd fun x hx=>by
      have hx':=(hm x).mp hx
      have hs:=sm x hx'
      exact OM.aY.mpr ⟨⟨⟨hs.1.1,hs.1.2⟩,hs.2.1,hs.2.2⟩,hx'⟩
     simp only[length_map] at this
     omega
    have xS:=Ext.own s (o:=xH X.prog X.w S qs) hS
    refine⟨S,qs,rfl,aC,hpv.grow (iU.new hS),fun p hp=>sm p ((hm p).mp hp),nd,qsl,fun l ws rs hl hpw hr hmem=>?_⟩
    have ers:rs=OM.bR 8 (OM.Mem ps):=OM.gK hr (OM.cA _ _) fun x=>by
     rw[hmem x,hm x,OM.aY]
     constructor
     ·intro hx;have hs:=sm x hx;exact⟨⟨⟨hs.1.1,hs.1.2⟩,hs.2.1,hs.2.2⟩,hx⟩
     ·intro hx;exact hx.2
    subst ers
    have hlH:H l=none:=by
     by_cases z:l=S
     ·subst z;exact hS
     ·rw[aE z] at hl;exact hl
    have lS:l≠S:=fun z=>by subst z;rw[aC] at hl;cases hl
    have hh:ax H (upd (upd H S (xH X.prog X.w S qs)) l (.lst ws)):=(ax.new hS).trans (ax.new hl)
    have xx:=Ext.tups s hh
    refine k _ _ _ xx ⟨l,rfl,hlH,?_,ws,aC,?_⟩
    ·unfold mH
     rw[s.free hlH,aC]
     exact if_neg fun y=>y
    ·refine aW.rps (Paired.mapP hpw fun v p ⟨a,ea,qa⟩=>⟨a,ea,ng (s.trans hh) ?_⟩)
     exact qa.grow (iU.new hl)
   ·cases e
end
section
variable {K:Frag}{X:Cx}{G H:Hp}{Γ:Fx}{E:XK}{e a b c:Expr}{f fa fb fc:VF D}{L La Lb:List Nat}{md ma mb mc:Md}{pos apos cpos np:Pos}
def cf:D->Option D
 | .int n=>if 0<=n/\n<=1000 then some (.list (cg 0 n.toNat)) else none
 |_=>none
theorem Af (n:Nat):cB K G ((List.range n).map fun (i:Nat)=>V.int (i:Int)) (cg 0 n):=by
 have key:∀l:List Nat,cB K G (l.map fun (i:Nat)=>V.int (i:Int)) (l.map fun (k:Nat)=>int (0 + k)):=by
  intro l
  induction l with
  |nil=>exact .nil
  |cons x l ih=>exact .cons (by show Rp K G (.int (x:Int)) (.int (0 + (x:Int)));rw[Int.zero_add];exact .int _) ih
 exact key _
theorem kS {p1 p2 pos2:Pos}(hc:X.calm=true)(hg:Gl X "list")(hm:X.mg "list"=none)(hg2:Gl X "range")(hm2:X.mg "range"=none)(ha:SE X Γ E a fa La ma)
  (he:starEach [a] X.env=(false,eval a X.env) :: starEach [] X.env:=by rfl)
  (he2:starEach [.Call (.Name "range" p2) [a] [] pos2] X.env=(false,eval (.Call (.Name "range" p2) [a] [] pos2) X.env) :: starEach [] X.env:=by rfl) :
  SE X Γ E (.Call (.Name "list" p1) [.Call (.Name "range" p2) [a] [] pos2] [] pos) (f1 fa cf) La .w:=by
 refine PE.post' (iO (rD hc) hg hm (by decide +kernel) (aX (iO Bx hg2 hm2 (by decide +kernel) (aX ha bM he) (by decide) (by decide) he) bM he2) (by decide) (by decide) he2) fun σ H Q ⟨env,G,B,β,I,o⟩=>?_
 refine jr (r:=fun x H1 Q=>∃n:Int,[x]= [.int n]/\∀p,H1 p=none->(fun (y:V) (H2:Hp)=>∃(p:Addr) (n:Int),[y]= [V.ref p]/\H2 p=some (.dm 0 n)/\0<=n/\n<=1000/\∀l,H2 l=none->Q (.ref l) (upd H2 l (.lst ((List.range n.toNat).map fun (i:Nat)=>V.int (i:Int))))) (V.ref p) (upd H1 p (.dm 0 n))) ?_ I o
 intro B G H x dx d Q s hB bx e k
 cases dx with
 |int n=>
  obtain rfl:=bx.int
  simp only[cf] at e
  split at e
  ·rename_i hh
   cases e
   refine⟨n,rfl,fun p hp=>⟨p,n,rfl,aC,hh.1,hh.2,fun l hl=>?_⟩⟩
   have hlp:l≠p:=fun z=>by subst z;rw[aC] at hl;cases hl
   have hlH:H l=none:=by rw[aE hlp] at hl;exact hl
   have x1:=Ext.own s (o:=.dm 0 n) hp
   have x2:=Ext.own x1.gh (o:=.lst ((List.range n.toNat).map fun (i:Nat)=>V.int (i:Int))) hl
   exact k _ _ _ (x1.trans x2) ⟨l,rfl,hlH,s.free hlH,_,aC,Af _⟩
  ·cases e
 |_=>cases e
def Dt:D->Option D
 | .int i=>some (.int (if i < 0 then -i else i))
 |_=>none
theorem Hh:zx K (fun x H Q=>∃i,[x]= [.int i]/\Q (.int (if i < 0 then -i else i)) H) Dt .v:=by
 intro B G H x dx d Q s hB bx e k
 cases dx with
 |int i=>cases e;obtain rfl:=bx.int;exact⟨i,rfl,k _ G H (Ext.refl s) (.int _)⟩
 |_=>cases e
noncomputable def mT (d:D):Option D:=match d with
 | .list ds=>(match eB ds with
  |some ps=>if ps.all CD=true/\ps.Nodup/\ps.length < 64 then some (.list ((OM.bR 8 (OM.Mem ps)).map aq)) else none
  |none=>none)
 |_=>none
theorem C5:zx K (fun x=>yd K [x]) mT .w:=by
 intro B G H x dx d Q s hB bx e k
 cases dx with
 |list ds=>
  simp only[mT] at e
  cases q2:eB ds with
  |none=>rw[q2] at e;cases e
  |some ps=>
   rw[q2] at e
   dsimp only at e
   split at e
   ·rename_i hh
    obtain⟨h1,h2,h3⟩:=hh
    cases e
    obtain⟨p,xs,rfl,hq,r⟩:=bx.list s
    rw[iN q2] at r
    have pv:=(r.mono s).pairs
    have sm:∀p,p∈ps->Sm p:=fun p hp=>w9 (all_eq_true.mp h1 p hp)
    refine⟨p,xs,ps,rfl,.inl hq,pv,sm,h2,h3,fun l ws rs hl hpw hr hmem=>?_⟩
    have ers:rs=OM.bR 8 (OM.Mem ps):=OM.gK hr (OM.cA _ _) fun x=>by
     rw[hmem x,OM.aY]
     constructor
     ·intro hx;have hs:=sm x hx;exact⟨⟨⟨hs.1.1,hs.1.2⟩,hs.2.1,hs.2.2⟩,hx⟩
     ·intro hx;exact hx.2
    subst ers
    have hh:ax H (upd H l (.lst ws)):=ax.new hl
    refine k _ _ _ (Ext.tups s hh) ⟨l,rfl,hl,?_,ws,aC,?_⟩
    ·unfold mH
     rw[s.free hl,aC]
     exact if_neg fun y=>y
    ·refine aW.rps (Paired.mapP hpw fun v p ⟨a,ea,qa⟩=>⟨a,ea,ng (s.trans hh) ?_⟩)
     exact qa.grow (iU.new hl)
   ·cases e
 |_=>cases e
def zC (ds:List D)(k:D):Option (D×List D):=match k with
 | .int i=>if -(2 ^ 63)<=i/\i < 2 ^ 63 then (match seqIndex? i ds.length with
  |some n=>(match ds[n]? with
   |some d=>some (d,ds.eraseIdx n)
   |none=>none)
  |none=>none) else none
 |_=>none
def k9 (i j:Nat)(L:List Nat)(f:VF D):SF:=fun env β=>if qp env[i]? =true/\qp env[j]? =true/\i≠j then toS (f (vl env) β) fun k β'=>match (bp L env)[j]? with
 |some (.ow (.list es))=>(match zC es k with
  |some (d,es')=>ET i ((bp L env).set j (.ow (.list es'))) β' fun ds=>if ds.length < sizeLine then some (ds ++ [d]) else none
  |none=>.bad)
 |_=>.bad else .bad
theorem cB.eraseIdx:∀{xs:List V} {ds:List D} (i:Nat),cB K G xs ds->cB K G (xs.eraseIdx i) (ds.eraseIdx i)
 |_,_,_,.nil=>.nil
 |_,_,0,.cons _ t=>t
 |_,_,i + 1,.cons r t=>.cons r (cB.eraseIdx i t)
theorem zl (i j:Nat){x y:Str}{np2 apos2 cpos2:Pos}(hb:∀j,Γ.br j=false)(he:SE X Γ E e f L md)(hN:X.N[i]? =some x:=by rfl)(hv:zI X.env.scope x:=by first |exact Or.inl rfl |exact Or.inr (Or.inl rfl) |exact Or.inr (Or.inr rfl))(hd:(x == ("__debug__":Str))=false:=by decide)
  (hcd:(x == ("__classdict__":Str))=false:=by decide)
  (hN2:X.N[j]? =some y:=by rfl) (hv2:zI X.env.scope y:=by first |exact Or.inl rfl |exact Or.inr (Or.inl rfl) |exact Or.inr (Or.inr rfl)) (hd2:(y == ("__debug__":Str))=false:=by decide)
  (hcd2:(y == ("__classdict__":Str))=false:=by decide)
  (hbase:attributeBase (.Name x np) "append" X.env (eval (.Name x np) X.env)=eval (.Name x np) X.env:=by rfl)
  (hfew:((backTo cpos (starEach [.Call (.Attribute (.Name y np2) "pop" apos2) [e] [] cpos2] X.env)).all (fun x=> !x.1) && (backToKw cpos (keywordEach [] X.env)).all (fun x=>x.1.isSome)
   && decide ([Expr.Call (.Attribute (.Name y np2) "pop" apos2) [e] [] cpos2].length + ([]:List Keyword).length + (if ([]:List Keyword).isEmpty then 0 else 1) < 30))=true:=by rfl)
  (hline:(apos.endLine == cpos.line)=true:=by rfl) (hs:starEach [.Call (.Attribute (.Name y np2) "pop" apos2) [e] [] cpos2] X.env=(false,eval (.Call (.Attribute (.Name y np2) "pop" apos2) [e] [] cpos2) X.env) :: starEach [] X.env:=by rfl)
  (hbase2:attributeBase (.Name y np2) "pop" X.env (eval (.Name y np2) X.env)=eval (.Name y np2) X.env:=by rfl)
  (hfew2:((backTo cpos2 (starEach [e] X.env)).all (fun x=> !x.1) && (backToKw cpos2 (keywordEach [] X.env)).all (fun x=>x.1.isSome)
   && decide ([e].length + ([]:List Keyword).length + (if ([]:List Keyword).isEmpty then 0 else 1) < 30))=true:=by rfl)
  (hline2:(apos2.endLine == cpos2.line)=true:=by rfl) (hs2:starEach [e] X.env=(false,eval e X.env) :: starEach [] X.env:=by rfl)
  (hsw:swapsWith (.Call (.Attribute (.Name x np) "append" apos) [.Call (.Attribute (.Name y np2) "pop" apos2) [e] [] cpos2] [] cpos) none pos.line X.env=pure false:=by rfl) :
  SS X Γ E (.Expr (.Call (.Attribute (.Name x np) "append" apos) [.Call (.Attribute (.Name y np2) "pop" apos2) [e] [] cpos2] [] cpos) pos) (k9 i j L f):=by
 refine PS.post (o8 (yf PySem.F.plainAttrs_list PySem.F.slot_list_append PySem.F.type_list_append nR (jJ hN hv hd hcd)
  (aX (yf PySem.F.plainAttrs_list PySem.F.slot_list_pop PySem.F.type_list_pop B3 (jJ hN2 hv2 hd2 hcd2) (aX he bM hs2) hbase2 hfew2 hline2 hs2 rfl) bM hs) hbase hfew hline hs rfl) hsw) fun N σ H ⟨env,G,B,β,I,o⟩=>?_
 unfold k9 at o
 by_cases hO:qp env[i]? =true/\qp env[j]? =true/\i≠j
 case neg=>rw[if_neg hO] at o;exact o.elim
 rw[if_pos hO] at o
 obtain⟨hO1,hO2,hij⟩:=hO
 obtain⟨ds0,q0⟩:=nu hO1
 obtain⟨es0,w0⟩:=nu hO2
 obtain⟨p,h1,_,_,_,xs,h5,_⟩:=I.slot i _ q0
 obtain⟨q,k1,_,_,_,ys,k5,_⟩:=I.slot j _ w0
 refine⟨_,h1,.inl ⟨rfl,xs,.inl (.inl h5)⟩,?_⟩
 refine⟨_,k1,.inl ⟨rfl,ys,.inl (.inl k5)⟩,?_⟩
 refine⟨env,G,B,β,I,cF o fun kd β' k v G' H' I' s' m' vo=>?_⟩
 cases ej:(bp L env)[j]? with
 |none=>rw[ej] at k;exact k.elim
 |some sj=>
  rw[ej] at k
  cases sj with
  |ow dj=>
   cases dj with
   |list es=>
    dsimp only at k
    cases ep:zC es kd with
    |none=>rw[ep] at k;exact k.elim
    |some pr=>
     obtain⟨d,es'⟩:=pr
     rw[ep] at k
     dsimp only at k
     unfold zC at ep
     cases kd <;> first | (cases ep;done) |skip
     rename_i ii
     dsimp only at ep
     split at ep
     ·rename_i hr
      cases eI:seqIndex? ii es.length with
      |none=>rw[eI] at ep;cases ep
      |some n=>
       rw[eI] at ep
       dsimp only at ep
       cases eD:es[n]? with
       |none=>rw[eD] at ep;cases ep
       |some d0=>
        rw[eD] at ep
        cases ep
        obtain rfl:=(vo.brw I.boxThere).int
        obtain⟨q',g1,_,_,_,zs,g5,g6⟩:=I'.slot j _ ej
        rw[k1] at g1;cases g1
        obtain⟨xv,ex,rx⟩:=g6.at eD
        refine⟨q,zs,ii,n,xv,rfl,rfl,g5,hr.1,hr.2,by rw[g6.len];exact eI,ex,?_⟩
        have I2:=I'.write hb ej k1 (o:=.lst (zs.eraseIdx n)) (d':=.list (es.eraseIdx n)) fun H2 e2 s2=>⟨_,e2,g6.eraseIdx n⟩
        obtain⟨ds,fs,eq,eg,k⟩:=pk k
        by_cases hz:ds.length < sizeLine
        case neg=>rw[if_neg hz] at eg;cases eg
        rw[if_pos hz] at eg
        cases eg
        obtain⟨p',f1,_,_,_,us,f5,f6⟩:=I2.slot i _ eq
        rw[h1] at f1;cases f1
        refine⟨p,us,xv,rfl,rfl,f5,by rw[f6.len];exact hz,?_⟩
        exact k B G' _ σ (I2.write hb eq h1 fun H2 e2 s2=>⟨_,e2,f6.snoc rx⟩) s'
     ·cases ep
   |_=>exact k.elim
  |_=>exact k.elim
end
def bE:List D->Int->FB
 | [.int m],β=>if 0 < m/\m < 1073741824 then .ok (.int (β % m)) false (β / m) else .bad
 |_,_=>.bad
theorem yk {ds:List D}{β:Int}(h:bE ds β≠.bad):∃m,ds= [.int m]/\0 < m/\m < 1073741824:=by
 unfold bE at h
 split at h
 ·rename_i m
  by_cases hh:0 < m/\m < 1073741824
  ·exact⟨m,rfl,hh.1,hh.2⟩
  ·rw[if_neg hh] at h;exact absurd rfl h
 ·exact absurd rfl h
theorem uy {m β:Int}(h0:0 < m)(h1:m < 1073741824):bE [.int m] β=.ok (.int (β % m)) false (β / m):=if_pos ⟨h0,h1⟩
def constsOf:List Expr->Option (List Int)
 | []=>some []
 | .Constant (.int i) _ _ :: es=>(constsOf es).map fun r=>i :: r
 |_=>none
def Kn (ns:List Int):VF (List D):=fun _ β=>.ok (ns.map int) β
theorem rZ {X:Cx}{Γ:Fx}{E:XK}:∀{es:List Expr} {ns:List Int},constsOf es=some ns->SA X Γ E es (Kn ns) []
 | [],ns,h=>by
  have e:ns= []:=by unfold constsOf at h;exact (Option.some.inj h).symm
  subst e
  exact ao
 |e :: es,ns,h=>by
  unfold constsOf at h
  split at h
  ·cases ‹_ :: _= []›
  ·next i a b es' heq=>
   cases heq
   cases q:constsOf es with
   |none=>rw[q] at h;cases h
   |some r=>
    rw[q] at h
    have e2:i :: r=ns:=Option.some.inj h
    subst e2
    exact ae ar (rZ q) rfl
  ·cases h
section
variable {P:Program}{w:World}{K:Frag}{mg:Str->Option Value}{base:Heap}
theorem DM {X:Cx}{i j:Nat}{x y:Str}{px py pos:Pos}{k:Nat}(hN:X.N.Nodup)(hi:X.N[i]? =some x)(hj:X.N[j]? =some y)(hx:X.env.scope.names.lookup x=some .local)(hy:X.env.scope.names.lookup y=some .local)(hc:X.calm=true) :
  PG X (.Tuple [.Name x px,.Name y py] k pos) (Dy X.K 2 (p4 (mr i) (p4 (mr j) DD))):=
 pU hc (dP (de hN hi (Or.inl hx) (Or.inr hx)) (dP (de hN hj (Or.inl hy) (Or.inr hy)) nF))
theorem AJ {b:Addr}{β m:Int}{H:Hp}{Q:VK}{G:Hp}(hb:H b=some (.lst [.int β]))(s:ax G H){p:Addr}(hp:H p=none)
  (kk:∀v G' H',jh (some b) H H'->H' b=some (.lst [.int (β / m)])->ax G G'->ax G' H'->(∀c,Mx H c->G c=none->G' c=none)->FV K H G' H' false (.int (β % m)) v->Q v H') (gb:G b=none) :
  Q (.int (β % m)) (upd (upd H p (.tup [.int (β / m),.int (β % m)])) b (.lst [.int (β / m)])):=by
 have hbp:b≠p:=aO hb hp
 refine kk _ G _ (fun c o e n=>?_) aC (ax.refl _) (fun c o e=>?_) (fun c _ h=>h) (.int _)
 ·rw[aE (fun z=>n (by rw[z])),aE (aO e hp)];exact e
 ·rw[aE (fun z=>by rw[z,gb] at e;cases e),aE (aO (s c o e) hp)];exact s c o e
end
end L2
namespace L2
open PySem PySem.SeqAt PySem.Spec PyProof.Rows
theorem uJ {M:Model}{A:Around}{E:Value->Shared->Prop}{s:Shared}{β:Type}{b:Nat}(f:Nat->β->Sem (ForInStep β))(I:List Nat->β->Shared->Prop)(Q:β->Shared->Prop)
  (turn:∀x rest b s,I (x :: rest) b s->wpAny M A (f x b) (fun r s'=>match r with | .yield b'=>I rest b' s' | .done b'=>Q b' s') E s)
  (fin:∀b s,I [] b s->Q b s) (c:β) (h:I (List.range' 0 b) c s):wpAny M A (forIn [0:b] c f) Q E s:=by
 rw[Std.Legacy.Range.forIn_eq_forIn_range']
 simp only[Std.Legacy.Range.size,Nat.sub_zero,Nat.add_sub_cancel,Nat.div_one]
 exact wpAny_forIn_list f I Q turn fin _ c h
theorem qQ (l:Addr)(items:Array Value)(n:Nat)(dd:Option Addr)(sl:Array (Option Value))(x:Value)(e:Value->Bool)(j:Nat)(hj:j < items.size)
  (hit:e items[j]=true) (hno:∀m (hm:m < items.size),m < j->e items[m]=false) :
  Meets (Builtin.«tuple.index» ⟨[.ref l,x],[]⟩)
   (fun A R s=>s.heap.get? l=some {cls:=.type "tuple",dict:=dd,data:=.seq items n,slots:=sl}/\(∀y,y∈items->EqAt A.in1 s y x (e y))/\R (.ok (.ret (.int j s.toks))) {s with toks:=s.toks + 1}):=
 .of_wp fun prog w A R s h=>by
  obtain⟨hp,g,d,tk,os⟩:=s;obtain⟨hl,he,h⟩:=h
  wp_walk using wpAny_loadPart' hl,uJ _ (fun rest b s'=>b.1=none/\s'=⟨hp,g,d,tk,os⟩/\∃i,i<=j/\rest=List.range' i (items.size - i)) _
  case turn=>
   rintro y rest b s' ⟨hb,rfl,i,hi,hr⟩
   obtain⟨m,hm⟩:∃m,items.size - i=m + 1:=⟨items.size - i - 1,by omega⟩
   rw[hm,List.range'_succ] at hr
   obtain⟨rfl,rfl⟩:=List.cons.inj hr
   have hlt:y < items.size:=by omega
   have e1:items[y]? =some items[y]:=by simp[hlt]
   simp only[e1]
   refine wpAny_bind (he _ (Array.getElem_mem hlt) prog w _ _ ?_)
   by_cases z:y=j
   ·subst z
    rw[hit]
    wp_walk
    exact⟨_,rfl,h⟩
   ·rw[hno y hlt (by omega)]
    wp_walk
    exact⟨rfl,rfl,y + 1,by omega,by congr 1;omega⟩
  case fin=>
   rintro b s' ⟨hb,rfl,i,hi,hr⟩
   obtain⟨m,hm⟩:∃m,items.size - i=m + 1:=⟨items.size - i - 1,by omega⟩
   rw[hm,List.range'_succ] at hr
   cases hr
  case h=>
   exact⟨rfl,rfl,0,Nat.zero_le _,by rw[Nat.min_self];rfl⟩
section
variable {K:Frag}{X:Cx}{G H:Hp}{Γ:Fx}{E:XK}{e a b c:Expr}{f fa fb fc:VF D}{L La Lb:List Nat}{md ma mb mc:Md}{pos apos cpos np:Pos}
def xK (k:Int):Value->Bool
 | .int i _=>i == k
 |_=>false
theorem mO {k:Int}:∀{ns:List Int} {us:List Value} (i:Nat) (h:i < us.length) (h2:i < ns.length),Vals (ns.map V.int) us->xK k us[i]=(ns[i] == k)
 | [],_,_,_,h2,_=>absurd h2 (Nat.not_lt_zero _)
 |n :: ns,_,0,_,_,.cons r _=>by obtain⟨t,rfl⟩:=r;rfl
 |n :: ns,_,i + 1,h,h2,.cons _ rs=>mO i (Nat.lt_of_succ_lt_succ h) (Nat.lt_of_succ_lt_succ h2) rs
theorem vW {k:Int}{t:Tok}(A:Around)(s:Shared):∀{ns:List Int} {us:List Value},Vals (ns.map V.int) us->∀y∈us,EqAt A s y (.int k t) (xK k y)
 | [],_,.nil,y,hy=>by cases hy
 |n :: ns,_,.cons r rs,y,hy=>by
  rcases mem_cons.mp hy with z |z
  ·subst z;obtain⟨t',rfl⟩:=r;exact EqAt.int_int n t' k t
  ·exact vW A s rs y z
def Ep (K:Frag):V->List V->Hp->VK->Prop:=fun x vs H Q=>∃(a:Addr) (ns:List Int) (k:Int),x=.ref a/\vs= [.int k]/\gJ K H a (ns.map V.int)/\k∈ns/\Q (.int (ns.idxOf k:Nat)) H
theorem zb:Ia X "tuple.index" (Ep X.K):=by
 intro pins s σ H x vs v us Q I rx rv h
 obtain⟨a,ns,k,rfl,rfl,hq,hk,q⟩:=h
 cases rx
 obtain⟨u,rfl,ru⟩:=vals1 rv
 obtain⟨t,rfl⟩:=ru
 obtain⟨its,rs,pl,hz⟩:=I.tuple hq
 obtain⟨⟨cls,dd,data,sl⟩,ho,hc,n,hd⟩:=id pl
 simp only at hc hd
 subst hc hd
 have hj:ns.idxOf k < ns.length:=idxOf_lt_length_iff.mpr hk
 have hlen:its.length=ns.length:=by rw[<-rs.length,length_map]
 refine call_meets PySem.F.slot_tuple_index ⟨_,ho,rfl⟩ PySem.F.entry_tuple_index (PySem.F.args_tuple_index_2 _ _)
  (qQ a its.toArray n dd sl (.int k t) (xK k) (ns.idxOf k) (by simpa[hlen] using hj) ?_ ?_) ⟨ho,fun y hy=>vW _ _ rs y (by simpa using hy),?_⟩
 ·have:=mO (k:=k) (ns.idxOf k) (by omega) hj rs
  simpa[List.getElem_idxOf hj] using this
 ·intro m hm hlt
  have hm':m < ns.length:=by simpa[hlen] using hm
  have hne:ns[m]≠k:=fun z=>by
   have:=List.not_of_lt_findIdx (p:=(· == k)) hlt
   simp[z] at this
  have:=mO (k:=k) m (by omega) hm' rs
  rw[beq_eq_false_iff_ne.mpr hne] at this;simpa using this
 ·exact⟨.int (ns.idxOf k:Nat),H,I.tok _,⟨_,rfl⟩,q⟩
theorem Inv.tupleP {pins:List (Addr×Obj)}{σ:St}{s:Shared}{p:Addr}{xs:List V}(I:Inv X pins σ H s)(h:gJ X.K H p xs):s.TypeIs (.ref p) "tuple"/\∀a,Value.ref p=.ref a->∃ob,s.heap.get? a=some ob/\ob.dict=none:=by
 rcases h with h | ⟨o,its,n,hk,hc,hs,hz,r,hd⟩
 ·obtain⟨_,_,_,o,e,c,n,d,hd⟩:=h.ok I.hok
  exact⟨⟨o,e,c⟩,fun a z=>by cases z;exact⟨o,e,hd⟩⟩
 ·exact⟨⟨o,I.kIn p o hk,hc⟩,fun a z=>by cases z;exact⟨o,I.kIn p o hk,hd⟩⟩
def Jj (K:Frag)(r:V->List V->Hp->VK->Prop)(to:TE)(t:TA):TE:=fun σ H Q=>to σ H fun x H1=>(∃p xs,x=.ref p/\gJ K H1 p xs)/\t σ H1 fun xs H2=>r x xs H2 Q
theorem GV {o e:Expr}{es:List Expr}{to:TE}{t:TA}{name:Str}{apos cpos:Pos}{id:String}{r:V->List V->Hp->VK->Prop}(slot:Slot "tuple" name id)(hty:typeOf (.builtin id)=pure (.type "method_descriptor"))(hm:Ia X id r)(ho:PE X o to)(ha:PA X (e :: es) t)
  (hbase:attributeBase o name X.env (eval o X.env)=eval o X.env:=by rfl)
  (hfew:((backTo cpos (starEach (e :: es) X.env)).all (fun x=> !x.1) && (backToKw cpos (keywordEach [] X.env)).all (fun x=>x.1.isSome)
   && decide ((e :: es).length + ([]:List Keyword).length + (if ([]:List Keyword).isEmpty then 0 else 1) < 30))=true:=by rfl)
  (hline:(apos.endLine == cpos.line)=true:=by rfl) (hs:starEach (e :: es) X.env=(false,eval e X.env) :: starEach es X.env:=by rfl) (hplain:(backTo cpos (starEach es X.env)).any (·.1)=false:=by rfl) :
  PE X (.Call (.Attribute o name apos) (e :: es) [] cpos) (Jj X.K r to t):=by
 intro pins s σ H Q I h
 refine wpAny_Call_method_late hbase hfew hline rfl (cS (ho pins s σ H _ I h) fun v s1 ⟨x,H1,I1,r1,⟨p,ys,ex,hr⟩,q1⟩=>?_)
 subst ex
 cases r1
 obtain⟨h1,h2⟩:=I1.tupleP hr
 refine⟨"tuple",id,PySem.F.plainAttrs_tuple,slot,hty,h1,h2,?_⟩
 have hA:=ha cpos pins s1 σ H1 _ I1 q1
 rw[hs] at hA ⊢
 refine Calls.callWith_builtin (by show (false || (backTo cpos (starEach es X.env)).any (·.1))=false;rw[hplain] <;> rfl) (Calls.evalArgs_plain ?_)
 exact cS hA fun us s2 ⟨vs,H2,I2,r2,q2⟩=>hm pins s2 σ H2 (.ref p) vs (.ref p) us Q I2 rfl r2 q2
def lg:List D->Option (List Int)
 | []=>some []
 | .int i :: ds=>(lg ds).map (i :: ·)
 |_=>none
theorem qA:∀{ds:List D} {ns:List Int},lg ds=some ns->ds=ns.map int
 | [],ns,h=>by cases h;rfl
 | .int i :: ds,ns,h=>by
  unfold lg at h
  cases q:lg ds with
  |none=>rw[q] at h;cases h
  |some ms=>rw[q] at h;cases h;rw[qA q];rfl
 | .none :: _,_,h=>by cases h
 | .bool _ :: _,_,h=>by cases h
 | .str _ :: _,_,h=>by cases h
 | .list _ :: _,_,h=>by cases h
 | .tuple _ :: _,_,h=>by cases h
 | .dict _ :: _,_,h=>by cases h
theorem jZ:∀ns:List Int,lg (ns.map int)=some ns
 | []=>rfl
 |n :: ns=>by show (lg (ns.map int)).map (n :: ·)=_;rw[jZ ns];rfl
theorem p0:∀{ns:List Int} {xs:List V},cB K G xs (ns.map int)->xs=ns.map V.int
 | [],_,.nil=>rfl
 |n :: ns,_,.cons r t=>by cases r;rw[p0 t];rfl
def Dq (d y:D):Option D:=match d,y with
 | .tuple ds,.int k=>(match lg ds with
  |some ns=>if k∈ns then some (.int (ns.idxOf k:Nat)) else none
  |none=>none)
 |_,_=>none
def y1:D->Bool
 | .tuple _=>true
 |_=>false
def eN (fa fb:VF D):VF D:=fun vs β=>(fa vs β).bnd fun x β1=>if y1 x=true then (fb vs β1).bnd fun y β2=>R.of (Dq x y) β2 else .bad
theorem gW (hK:X.K=Γ.K)(ha:SE X Γ E a fa La ma)(hb:SE X Γ E b fb Lb mb)
  (hbase:attributeBase a "index" X.env (eval a X.env)=eval a X.env:=by rfl)
  (hfew:((backTo cpos (starEach [b] X.env)).all (fun x=> !x.1) && (backToKw cpos (keywordEach [] X.env)).all (fun x=>x.1.isSome)
   && decide ([b].length + ([]:List Keyword).length + (if ([]:List Keyword).isEmpty then 0 else 1) < 30))=true:=by rfl)
  (hline:(apos.endLine == cpos.line)=true:=by rfl) (hs:starEach [b] X.env=(false,eval b X.env) :: starEach [] X.env:=by rfl) :
  SE X Γ E (.Call (.Attribute a "index" apos) [b] [] cpos) (eN fa fb) (La ++ Lb) .v:=by
 refine PE.post' (GV PySem.F.slot_tuple_index PySem.F.type_tuple_index zb ha (aX hb bM hs) hbase hfew hline hs rfl) fun σ H Q ⟨env,G,B,β,I,o⟩=>?_
 refine⟨env,G,B,β,I,o.bnd.imp fun d1 β1 h x G1 H1 I1 s1 m1 vx=>?_⟩
 have vx:=vx.brw I.boxThere
 cases d1 with
 |tuple ds=>
  rw[if_pos (show y1 (.tuple ds)=true from rfl)] at h
  obtain⟨p,xs,rfl,hq,r⟩:=vx.tuple I1.sub
  refine⟨⟨p,xs,rfl,by rw[hK];exact hq⟩,?_⟩
  refine⟨bp La env,G1,B,β1,I1,?_⟩
  rw[eS]
  refine h.bnd.imp fun d2 β2 h y G2 H2 I2 s2 m2 vy=>?_
  obtain⟨d,e,k⟩:=h.of
  have vy:=vy.brw I1.boxThere
  cases d2 with
  |int kk=>
   obtain rfl:=vy.int
   simp only[Dq] at e
   cases q:lg ds with
   |none=>rw[q] at e;cases e
   |some ns=>
    rw[q] at e
    dsimp only at e
    split at e
    ·rename_i hk
     cases e
     have eds:=qA q
     subst eds
     have exs:=p0 r
     subst exs
     have hq2:gJ X.K H2 p (ns.map V.int):=by
      rw[hK]
      rcases hq with hq |hq
      ·rcases vx with vx | ⟨_,_,_,vx⟩
       ·cases vx with
        |tup g1 r9=>have z9:=p0 r9;subst z9;exact (g1.grow (s2.trans I2.sub).grow)
       ·exact vx.elim
      ·exact .inr hq
     exact⟨p,ns,kk,rfl,rfl,hq2,hk,k _ G2 H2 (by rw[cp];exact I2) (s1.trans s2) (m1.trans m2) (.int _)⟩
    ·cases e
  |_=>simp only[Dq] at e;cases e
 |_=>exact h.elim
abbrev Fx.at (Γ:Fx)(H0:Hp):Fx:=⟨Γ.K,H0,Γ.G0,Γ.par,Γ.ca,Γ.br,Γ.bx⟩
end
end L2
namespace L2
open PySem PySem.Spec PyProof.Rows
section
variable {X:Cx}{pins:List (Addr×Obj)}{σ:St}{H:Hp}{s:Shared}
theorem Inv.turnedL {t':Nat}{ch:List Addr}{h':Heap}(I:Inv X pins σ H s)(k:∀b o,b∉ch->s.heap.get? b=some o->h'.get? b=some o)(hf:∀b∈ch,o5 X pins H b):Inv X pins σ H {s with heap:=h',toks:=t'}:=by
 have nit:∀b u,H b=some u->b∉ch:=fun b u e z=>by rw[(hf b z).1] at e;cases e
 have nL:X.env.locals∉ch:=fun z=>(hf _ z).2.1 rfl
 refine I.step (g':=s.gens) (d':=s.drawn) (ch:=ch) (fun b hb=>?_) (fun b o _ _ hc e _=>k b o hc e) (fun b o _ _ hc e _=>⟨o.slots,k b o hc e⟩) (fun _ _ _ _ n=>n)
  (fun b o hc e=>⟨o,k b o hc e⟩) (fun _ _ e=>e) (fun _ _ _ e=>e) (fun b ps e=>⟨#[],by rw[e];simp⟩) (fun m hm=>?_) (fun b u e=>?_) I.bare
 ·obtain⟨f0,f1,f2,f3,f4,f5⟩:=hf b hb
  exact⟨f3,f1,f4,f5⟩
 ·obtain⟨o,es,ep,ho,r⟩:=hm
  exact⟨o,es,ep,k _ o nL ho,r⟩
 ·refine (I.hok b u e).stay (fun c v hc q=>k c v ?_ q) (fun _ q=>q) fun _ _ q=>q
  rcases hc with z |z
  ·rw[z];exact nit b u e
  ·exact nit c _ z
end
theorem Jp {n:Nat}(i j:Nat)(h:(i == j)=false):(n + i:Nat)≠n + j:=by
 have:i≠j:=by simpa using h
 omega
section
variable {X:Cx}{Γ:Fx}{E:XK}{e a b c:Expr}{f fa fb:VF D}{L La Lb:List Nat}{md ma mb:Md}{pos:Pos}
def CK:D->Option D
 | .int i=>some (.int i)
 | .bool k=>some (.int (if k then 1 else 0))
 |_=>none
theorem Fy {K:Frag}:zx K (fun x H Q=>(∃i,[x]= [.int i]/\Q (.int i) H)\/∃k,[x]= [.bl k]/\Q (.int (if k then 1 else 0)) H) CK .v:=by
 intro B G H x dx d Q s hB bx e k
 cases dx with
 |int i=>cases e;obtain rfl:=bx.int;exact .inl ⟨i,rfl,k _ G H (Ext.refl s) (.int _)⟩
 |bool b=>cases e;obtain rfl:=bx.bool;exact .inr ⟨b,rfl,k _ G H (Ext.refl s) (.int _)⟩
 |_=>cases e
end
section
variable {κ:Type}[DecidableEq κ]
def DJ (kvs:List (κ×V))(k:κ):Option V:=(kvs.find? fun kv=>decide (kv.1=k)).map (·.2)
def putK (kvs:List (κ×V))(k:κ)(v:V):List (κ×V):=
 if (kvs.any fun kv=>decide (kv.1=k))=true then kvs.map (fun kv=>if kv.1=k then (kv.1,v) else kv) else kvs ++ [(k,v)]
theorem KV.any {kvs:List (κ×V)}{vs:List (κ×Value)}(r:KV kvs vs)(k:κ):(kvs.any fun kv=>decide (kv.1=k))=vs.any fun kv=>decide (kv.1=k):=by
 unfold KV at r
 induction r with
 |nil=>rfl
 |cons h t ih=>rw[any_cons,any_cons,ih,h.1]
end
def CW (H:Hp)(a:Addr)(y:V)(r:Option V):Prop:=
 (∃kvs k,Rd H a (.dK kvs)/\y=kV k/\r=DJ kvs k)\/∃kvs k b,Rd H a (.dT kvs)/\y=.ref b/\H b=some (.tup (k.map kV))/\r=DJ kvs k
def CL (H:Hp)(a:Addr)(y v:V)(H':Hp):Prop:=
 (∃kvs k,H a=some (.dK kvs)/\y=kV k/\kvs.length < sizeLine/\H'=upd H a (.dK (putK kvs k v)))\/
 ∃kvs k b,H a=some (.dT kvs)/\y=.ref b/\H b=some (.tup (k.map kV))/\kvs.length < sizeLine/\H'=upd H a (.dT (putK kvs k v))
theorem CW.k {H:Hp}{a:Addr}{kvs:List (Key×V)}{k:Key}(e:H a=some (.dK kvs)):CW H a (kV k) (DJ kvs k):=.inl ⟨kvs,k,.inl e,rfl,rfl⟩
theorem CW.t {H:Hp}{a b:Addr}{kvs:List (List Key×V)}{k:List Key}(e:H a=some (.dT kvs))(eb:H b=some (.tup (k.map kV))):CW H a (.ref b) (DJ kvs k):=.inr ⟨kvs,k,b,.inl e,rfl,eb,rfl⟩
theorem CL.k {H:Hp}{a:Addr}{kvs:List (Key×V)}{k:Key}{v:V}(e:H a=some (.dK kvs))(hl:kvs.length < sizeLine):CL H a (kV k) v (upd H a (.dK (putK kvs k v))):=.inl ⟨kvs,k,e,rfl,hl,rfl⟩
theorem CL.t {H:Hp}{a b:Addr}{kvs:List (List Key×V)}{k:List Key}{v:V}(e:H a=some (.dT kvs))(eb:H b=some (.tup (k.map kV)))(hl:kvs.length < sizeLine) :
  CL H a (.ref b) v (upd H a (.dT (putK kvs k v))):=.inr ⟨kvs,k,b,e,rfl,eb,hl,rfl⟩
section
variable {X:Cx}{pos:Pos}
end
abbrev CG (n:Nat):List Nat:=[n + 1,n]
theorem zM:bootBuiltins "enumerate"=some (.type "enumerate"):=by decide +kernel
section
variable {X:Cx}{Γ:Fx}{E:XK}{e a b c:Expr}{f fa fb:VF D}{L La Lb:List Nat}{md ma mb:Md}{pos:Pos}
def j3 (ds:List D):List D:=ds.mapIdx fun i d=>.tuple [.int i,d]
end
end L2
namespace L2
open PySem PySem.Spec PyProof.Rows PySem.MeetsSeq PySem.MeetsSeq2 PySem.MeetsSeq3
def EU (K:Frag):R2:=fun x y H Q=>∃a b xs ys,x=.ref a/\y=.ref b/\gJ K H a xs/\gJ K H b ys/\xs.length + ys.length<=sizeLine/\
 (xs= []->Q (.ref b) H)/\(xs≠ []->ys= []->Q (.ref a) H)/\(xs≠ []->ys≠ []->∀p,H p=none->Q (.ref p) (upd H p (.tup (xs ++ ys))))
section
variable {X:Cx}
theorem Cr:mw X (binaryOp .Add) (EU X.K):=by
 intro pins s σ H x y v u Q I rx ry h
 obtain⟨a,b,xs,ys,rfl,rfl,ha,hb,hz,q0,q1,q2⟩:=h
 by_cases hx:xs= []
 ·cases rx
  cases ry
  obtain⟨its,r1,p1,_⟩:=I.tuple ha
  obtain⟨its2,r2,p2,_⟩:=I.tuple hb
  obtain⟨⟨cls,dd,data,sl⟩,ho,hc,n,hd⟩:=id p1
  obtain⟨⟨cls2,dd2,data2,sl2⟩,ho2,hc2,n2,hd2⟩:=id p2
  simp only at hc hd hc2 hd2
  subst hc hd hc2 hd2
  have he:its= []:=r1.nil_iff.mpr hx
  exact concat_meets ⟨_,ho,rfl⟩ ⟨_,ho2,rfl⟩ noFill_tuple_add seq_tuple_add PySem.F.slot_tuple_add PySem.F.entry_tuple_add (PySem.F.args_tuple_add_2 _ _)
   (tuple_addW0 a b its.toArray its2.toArray n n2 dd dd2 sl sl2 (by simp[he])) ⟨ho,ho2,.ref b,H,I,rfl,q0 hx⟩
 ·exact D0 pins s σ H _ _ v u Q I rx ry ⟨a,b,xs,ys,rfl,rfl,ha,hb,hx,hz,q1 hx,q2 hx⟩
end
def sd:D->D->Option D
 | .tuple a,.tuple b=>if a.length + b.length<=sizeLine then some (.tuple (a ++ b)) else none
 |_,_=>none
theorem GZ {K:Frag}:nO K (EU K) sd .v:=by
 intro B G H x y dx dy d Q s hB bx by' e k
 cases dx <;> cases dy <;> first | (cases e;done) |skip
 rename_i a b
 simp only[sd] at e
 split at e
 ·rename_i hz
  cases e
  rcases bx with bx | ⟨_,_,_,q⟩
  case inr=>exact q.elim
  rcases by' with by' | ⟨_,_,_,q⟩
  case inr=>exact q.elim
  cases bx with
  | @tup p xs _ hp r1=>
   cases by' with
   | @tup q ys _ hq r2=>
    refine⟨p,q,xs,ys,rfl,rfl,hp.grow s.grow,hq.grow s.grow,by rw[r1.len,r2.len];exact hz,fun z=>?_,fun z z'=>?_,fun _ _ l hl=>?_⟩
    ·subst z
     cases r1
     exact k _ G H (Ext.refl s) (.tup hq r2)
    ·subst z'
     cases r2
     rw[append_nil] at k
     exact k _ G H (Ext.refl s) (.tup hp r1)
    ·have xn:=Ext.new s (o:=.tup (xs ++ ys)) hl
     exact k _ _ _ xn (.tup (.inl (.inl aC)) ((r1.append r2).mono xn.gg))
 ·cases e
end L2
namespace L2
open PySem PyProof.Rows
section
variable {X:Cx}{K:Frag}{pins:List V}{σ:St}{H:Hp}{s:Shared}{E:XK}
theorem cB.intsB {G:Hp}:∀{ns:List Int} {xs:List V},cB K G xs (ns.map int)->xs=ns.map V.int
 | [],_,.nil=>rfl
 |n :: ns,_,.cons r t=>by cases r;rw[cB.intsB t];rfl
variable {Γ:Fx}{e a b c:Expr}{f fa fb fc:VF D}{L La Lb:List Nat}{md ma mb mc:Md}{pos:Pos}
def sortI (ns:List Int):List Int:=ns.mergeSort fun a b=>decide (a<=b)
theorem sortI_perm (ns:List Int):(sortI ns).Perm ns:=List.mergeSort_perm ..
theorem BI (ns:List Int):(sortI ns).Pairwise (· <= ·):=by
 have:=List.pairwise_mergeSort (le:=fun a b:Int=>decide (a<=b)) (fun a b c h1 h2=>by simp only[decide_eq_true_eq] at *;omega) (fun a b=>by simp only[Bool.or_eq_true,decide_eq_true_eq];omega) ns
 exact this.imp fun h=>by simpa using h
theorem mG {ns ms:List Int}(h:ms.Perm ns)(h2:ms.Pairwise (· <= ·)):ms=sortI ns:=
 List.Perm.eq_of_pairwise (le:=(· <= ·)) (fun a b _ _ h1 h2=>by omega) h2 (BI ns) (h.trans (sortI_perm ns).symm)
def Gb (K:Frag):List V->Hp->VK->Prop:=fun xs H Q=>∃a ns,xs= [.ref a]/\hX K H a (ns.map V.int)/\ns.length < 64/\∀l,H l=none->Q (.ref l) (upd H l (.lst ((sortI ns).map V.int)))
theorem tV:∀{us:List Value} {ns:List Int},IntsAre us ns->Vals (ns.map V.int) us
 |_,_,.nil=>.nil
 |_,_,.cons n t hr=>.cons ⟨t,rfl⟩ (tV hr)
theorem xg:cY X (.builtin "sorted") (Gb X.K):=by
 intro pins s σ H xs us Q I r h
 obtain⟨a,ns,rfl,hq,hl,q⟩:=h
 obtain⟨u,rfl,rx⟩:=vals1 r
 cases rx
 obtain⟨its,rv,pl,hz⟩:=I.list hq
 have hil:its.length=ns.length:=by rw[<-rv.length,length_map]
 refine sorted_ints pl.isList (intsAre_of rv) (by omega) fun out ns' a1 a2 a3=>?_
 obtain rfl:=mG a2 a3
 obtain⟨c,he⟩:=sortedAll_at s.heap its out
 have hf:H (s.heap.objs.size + 1)=none:=I.hok.fresh (Nat.le_succ _)
 have hz':((sortI ns).map V.int).length<=sizeLine:=by
  have:=a2.length_eq
  rw[length_map,sizeLine_eq];omega
 have I2:Inv X pins σ (upd H (s.heap.objs.size + 1) (.lst ((sortI ns).map V.int))) {s with heap:=sortedAll s.heap its out,toks:=s.toks}:=I.laid (t':=s.toks) (fun _ _=>sortedAll_old) (Nat.le_succ _) (show cL X.prog X.w _ _ _ (.lst ((sortI ns).map V.int)) from⟨hz',out.toList,c,tV a1,he⟩)
 exact⟨.ref _,_,I2,rfl,q _ hf⟩
end
end L2
namespace L2
open PySem
section
variable {K:Frag}{h:Heap}{mg:Str->Option Value}
theorem Ai {α:Type}{P:List α->Prop}(q:∀a,P [a]):∀us:List α,us.length=1->P us
 | [a],_=>q a
theorem ln2 {α:Type}{P:List α->Prop}(q:∀a b,P [a,b]):∀us:List α,us.length=2->P us
 | [a,b],_=>q a b
theorem GF {α:Type}{P:List α->Prop}(q:∀a b c,P [a,b,c]):∀us:List α,us.length=3->P us
 | [a,b,c],_=>q a b c
def aZ (x:Str)(st:Stmt)(ps:List Str):Prop:=∀(kV doc pm:Value) (an:Option Addr) (cdv ct:Value) (us:List Value),us.length=ps.length->bindArgs (PySem.W.fnOf x x (jo st) (df st) (av st) .none kV doc pm an cdv ct) ⟨us,[]⟩=pure (ps.zip us)
structure Fo (K:Frag)(mg:Str->Option Value)(x:Str)(st:Stmt)(ps:List Str):Prop where
 ex:∃f fd,i5 K mg x st ps f fd
theorem bB {x:Str}{st:Stmt}{ps:List Str}{f:Addr}{oc:Value}{od an:Option Addr}{sl:Array (Option Value)}{kV doc pm cdv ct:Value}(X:K.In h)(G:h.Ns mainGlobals mg)(b:aZ x st ps)(a:PySem.W.nsIn K mainGlobals x=some (some (.ref f)))
  (l:K.lookup f=some ⟨oc,od,.func (PySem.W.fnOf x x (jo st) (df st) (av st) .none kV doc pm an cdv ct),sl⟩) (c:PySem.W.codeIn K cdv x=true) (k:PySem.W.keepIn K (.ref f)=true):Fo K mg x st ps:=
 ⟨⟨f,_,PySem.W.mg_of X G a,xX l c k,(xX l c k).binds b⟩⟩
def Js:List Str:=["len","range","enumerate","zip","min","max","sum","abs","sorted","reversed","int","str","bool","list","tuple","dict","set","isinstance","repr","any","all","divmod"]
def JG (K:Frag):Bool:=Js.all fun x=>match PySem.W.nsIn K mainGlobals x with
 |some none=>true
 |_=>false
theorem GP (q:JG K=true){x:Str}(hx:x∈Js):PySem.W.nsIn K mainGlobals x=some none:=by
 have:=all_eq_true.mp q x hx
 split at this
 ·assumption
 ·cases this
theorem Hm (X:K.In h)(G:h.Ns mainGlobals mg)(q:JG K=true):jg mg:=by
 have key:∀{x:Str},x∈Js->mg x=none:=fun hx=>PySem.W.mg_none_of X G (GP q hx)
 constructor <;> exact key (by decide)
end
end L2
namespace L2
open PySem PySem.Spec PyProof.Rows
theorem DT {prog:Program}{w:World}{A:Around}{it t:Addr}{xs:Array Value}(hh:A.handled=none)(i:Nat)(hx:xs[i]? =none):Draws prog w A it [it,t] i (fun _ _=>False) (fun j h=>j=i/\h.IsListIter it t i/\h.IsList t xs) where
 live:=fun _ _ st=>let ⟨o,ho,_⟩:=st.2.1;⟨o,ho⟩
 frame:=fun _ _ _ st hk=>⟨st.1,st.2.1.at fun o e=>hk it (by simp) o e,st.2.2.at fun o e=>hk t (by simp) o e⟩
 item:=fun j s Q E hi st k=>absurd st.1 (by omega)
 done:=fun s Q E st k=>wpAny_nextOf_list_end hh st.2.1 st.2.2 hx k
def E4 (K:Frag)(a:Addr):It:=
 ⟨fun i H=>∃xs x,hX K H a xs/\xs[i]? =some x,
  fun i H v H'=>∃x t,H t=none/\(∀xs,hX K H a xs->xs[i]? =some x)/\v=.ref t/\H'=upd H t (.tup [.int i,x]),
  fun i H=>∃xs,hX K H a xs/\xs.length<=i⟩
theorem zP {h:Heap}{a n:Addr}{i:Nat}{its:Array Value}{b:Addr}(p:h.IsList a its)(q:h.IsListIter n b i):a≠n:=fun z=>by
 subst z
 obtain⟨o,e,c,_⟩:=p
 obtain⟨o',e',c',_⟩:=q
 rw[e] at e';cases e'
 rw[c] at c'
 simp at c'
theorem zj {h:Heap}{a n it:Addr}{i:Int}{its:Array Value}{old:Value}(p:h.IsList a its)(q:IsEnum h n it i old):n≠a:=fun z=>by
 subst z
 obtain⟨o,e,c,_⟩:=p
 rw[q] at e;cases e
 simp at c
theorem x6 {P:Program}{w:World}{K:Frag}{elts:List Expr}{x1}{pos:Pos}(a:Addr)(n:Nat):Turn P w K (.Tuple elts x1 pos) (E4 K a) (CG n) (n + 1)
  (fun i h=>(∃old,IsEnum h (n + 1) n i old)/\h.IsListIter n a i) where
 mem:=by simp
 obj:=fun i h st c hc=>by
  obtain⟨⟨old,z1⟩,⟨o2,z2,_,d2⟩⟩:=st
  simp only[CG,mem_cons,not_mem_nil,or_false] at hc
  rcases hc with rfl |rfl
  ·exact⟨_,z1,fun v z=>by
    have z':Data.fields _=Data.cell v:=z
    cases z'⟩
  ·exact⟨o2,z2,fun v z=>by rw[d2] at z;cases z⟩
 keep:=fun i h h' st k=>by
  obtain⟨⟨old,z1⟩,z2⟩:=st
  exact⟨⟨old,k _ (by simp) _ z1⟩,z2.at fun o e=>k _ (by simp) o e⟩
 item:=by
  intro X hP hw hK hc i pins s σ H E I hf st hg
  subst hP hw hK
  obtain⟨xs,x,ha,hx⟩:=hg
  obtain⟨its,rv,p,hz⟩:=I.list ha
  have p:s.heap.IsList a its.toArray:=p.isList
  obtain⟨u0,hu0,ru0⟩:=rv.get hx
  obtain⟨⟨old,z1⟩,z2⟩:=st
  have hh:X.A.in1.handled=none:=I.ok.hd hc
  have hlt:i < its.toArray.size:=by
   have:=List.getElem?_eq_some_iff.mp hu0
   simpa using this.1
  refine wpAny_pyNext_enum_itemD (Draws.list hh n a (zP p z2) its.toArray) z1 ⟨z2,p⟩ hlt (Jp 1 0 rfl) (by
   simp only[mem_cons,not_mem_nil,or_false,not_or]
   exact⟨Jp 1 0 rfl,zj p z1⟩) fun u h' tk hu q1 q2 q3 q4 q5=>?_
  have eu:u0=u:=by
   have hu:its.toArray[i]? =some u:=hu
   rw[getElem?_toArray,hu0] at hu
   exact Option.some.inj hu
  subst eu
  refine⟨_,rfl,wpAny_letOwnedTupleGo_enum (s:={s with heap:=h',toks:=tk + 1}) q1 fun h2 r1 r2=>?_⟩
  have r2:∀c,c≠n + 1->h2.get? c=h'.get? c:=r2.2
  have lz:n + 1 < s.heap.objs.size:=Heap.lt_size z1
  have hT:H s.heap.objs.size=none:=I.hok.fresh (Nat.le_refl _)
  have I1:Inv X pins σ (upd H s.heap.objs.size (.tup [.int i,x])) {s with heap:=s.heap.push {cls:=.type "tuple",data:=.seq #[.int i tk,u0]},toks:=s.toks}:=
   I.laid (fun b o e=>Heap.get?_push_of_some _ e) (Nat.le_refl _) ⟨by show 2<=sizeLine;rw[sizeLine_eq];omega,[.int i tk,u0],.cons ⟨tk,rfl⟩ (.cons ru0 .nil),uw.new _ _⟩
  have hf':∀c∈CG n,o5 X pins (upd H s.heap.objs.size (.tup [.int i,x])) c:=fun c hc=>⟨by
   rw[aE (fun z=>?_)]
   ·exact (hf c hc).1
   ·subst z
    simp only[CG,mem_cons,not_mem_nil,or_false] at hc
    omega,(hf c hc).2⟩
  have I2:Inv X pins σ (upd H s.heap.objs.size (.tup [.int i,x])) {s with heap:=h2,toks:=tk + 1}:=by
   refine I1.turnedL (ch:=CG n) (fun c o hc e=>?_) hf'
   have e:(s.heap.push {cls:=.type "tuple",data:=.seq #[.int i tk,u0]}).get? c=some o:=e
   simp only[CG,mem_cons,not_mem_nil,or_false,not_or] at hc
   rw[r2 c hc.1]
   by_cases z:c=s.heap.objs.size
   ·subst z
    rw[Heap.get?_push_size _ rfl] at e
    rw[<-e];exact q3
   ·refine q5 c o hc.1 hc.2 ?_
    rw[Heap.get?_push_ne _ _ _ z] at e
    exact e
  refine⟨.ref s.heap.objs.size,_,I2,rfl,⟨x,_,hT,fun xs' h'=>?_,rfl,rfl⟩,⟨⟨u0,r1⟩,q2.1.at fun o e=>(r2 _ (Jp 0 1 rfl)).trans e⟩,fun c hc=>(hf' c hc).1⟩
  rw[I.list_inj h' ha];exact hx
 done:=by
  intro X hP hw hK hc i pins s σ H E I hf st hg
  subst hP hw hK
  obtain⟨xs,ha,hl⟩:=hg
  obtain⟨its,rv,p,hz⟩:=I.list ha
  obtain⟨⟨old,z1⟩,z2⟩:=st
  have hh:X.A.in1.handled=none:=I.ok.hd hc
  have l1:=rv.length
  refine wpAny_pyNext_enum_endD (DT hh i (xs:=its.toArray) (by simp;omega)) z1 ⟨rfl,z2,p.isList⟩ fun h' q=>⟨rfl,?_⟩
  refine I.turnedL (t':=s.toks) (ch:=CG n) (fun c o hc e=>?_) hf
  simp only[CG,mem_cons,not_mem_nil,or_false,not_or] at hc
  exact q c o hc.2 e
 self:=fun _ _ _ _ _ st h=>by
  obtain⟨⟨old,z1⟩,_⟩:=st
  exact wpAny_pyIter_enum z1 h
def J4 (K:Frag)(ta:TA):TI:=fun σ H R=>ta σ H fun vs H2=>∃a xs,vs= [.ref a]/\hX K H2 a xs/\R (E4 K a) H2
section
variable {X:Cx}
theorem Fe {a:Expr}{ta:TA}{p pos pt:Pos}{elts:List Expr}{x1}(hg:Gl X "enumerate")(hm:X.mg "enumerate"=none)(ha:PA X [a] ta)(hs:starEach [a] X.env= [(false,eval a X.env)]:=by rfl) :
  PI X (.Tuple elts x1 pt) (.Call (.Name "enumerate" p) [a] [] pos) (J4 X.K ta):=by
 intro pins s σ H R I h
 refine Call_ (n6 I hg hm zM (PyProof.Rows.callWith_type1 (cS (ha pos pins s σ H _ I h) fun us s1 ⟨vs,H1,I1,r1,q1⟩=>?_) hs rfl))
 obtain⟨a,xs,e,h1,q⟩:=q1
 subst e
 cases r1 with
 |cons r rr=>
  cases rr
  cases r
  obtain⟨its,rv,p1,hz⟩:=I1.list h1
  refine call_enumerate_list p1.isList fun h' z1 z2 _ z3=>?_
  refine wpAny_pyIter_enum z1 ⟨_,CG s1.heap.objs.size,_,_,H1,rfl,I1.kept (t':=s1.toks) z3,x6 a s1.heap.objs.size,⟨⟨_,z1⟩,z2⟩,fun c hc=>?_,q⟩
  have:s1.heap.objs.size<=c:=by
   simp only[CG,mem_cons,not_mem_nil,or_false] at hc
   rcases hc with rfl |rfl <;> first |exact Nat.le_refl _ |exact Nat.le_add_right _ _
  exact I1.fpOk this (I1.hok.fresh this)
end
section
variable {X:Cx}{Γ:Fx}{E:XK}{e a b c:Expr}{f fa fb:VF D}{L La Lb:List Nat}{md ma mb:Md}{pos:Pos}
def D9 (fa:VF D):VF (List D):=fun vs β=>(fa vs β).bnd fun x β1=>match x with
 | .list ds=>.ok (j3 ds) β1
 |_=>.bad
theorem AK {K:Frag}{B:Option Addr}{G H1:Hp}{p:Addr}{xs:List V}{ds:List D}(hp:∀Gc H,ax G Gc->ax Gc H->jh B H1 H->hX K H p xs)(r:cB K G xs ds):Walk K B G H1 (j3 ds) (E4 K p):=fun Gc H i s1 s2 m=>by
 have hp':=hp Gc H s1 s2 m
 have l1:=r.len
 have lz:(j3 ds).length=ds.length:=by unfold j3;rw[List.length_mapIdx]
 refine⟨fun hi=>⟨?_,fun x H' y=>?_⟩,fun hi=>⟨xs,hp',by omega⟩⟩
 ·have h1:i < xs.length:=by omega
  exact⟨xs,xs[i],hp',by simp[h1]⟩
 ·obtain⟨x,t,ht,hx,rfl,rfl⟩:=y
  obtain⟨d,ed,rd⟩:=r.at' (hx xs hp')
  have xn:=Ext.new s2 (o:=.tup [.int i,x]) ht
  refine⟨upd Gc t (.tup [.int i,x]),.tuple [.int i,d],xn,?_,.tup (.inl (.inl aC)) (.cons (.int i) (.cons (rd.mono (s1.trans xn.gg)) .nil))⟩
  unfold j3
  rw[List.getElem?_mapIdx,ed];rfl
theorem u6 {p pt:Pos}{elts:List Expr}{x1}(hK:X.K=Γ.K)(hg:Gl X "enumerate")(hm:X.mg "enumerate"=none)(ha:SE X Γ E a fa La .v)(hs:starEach [a] X.env= [(false,eval a X.env)]:=by rfl)(hs':starEach [a] X.env=(false,eval a X.env) :: starEach [] X.env:=by rfl) :
  SI X Γ E (.Tuple elts x1 pt) (.Call (.Name "enumerate" p) [a] [] pos) (D9 fa) La .v:=by
 refine PI.post (Fe hg hm (aX ha bM hs') hs) ?_
 rintro σ H Q ⟨env,G,B,β,I,o⟩
 refine⟨env,G,B,β,I,o.bnd.imp fun d1 β1 h x G1 H1 I1 s1 m1 vx=>?_⟩
 have vx:Rp Γ.K G1 x d1:=vx
 rw[hK]
 cases d1 with
 |list ds=>
  cases vx with
  | @lst p xs _ hq r=>exact⟨p,xs,rfl,.inl (Rd.mono (.inl hq) I1.sub),h _ G1 H1 I1 s1 m1 (AK (fun Gc H t1 t2 _=>.inl (Rd.mono (.inl hq) (t1.trans t2))) r)⟩
 |_=>exact h.elim
end
end L2
section
namespace PyProof.Rows
open PySem PySem.Spec PySem.Calls
section
variable {prog:Program}{w:World}{A:Around}{E:Value->Shared->Prop}{s:Shared}
theorem pY {l:Addr}{vs:List Value}{Q:List Value->Shared->Prop}(hl:s.heap.IsTuple l vs.toArray)
  (h:Q vs {s with heap:=(s.heap.push (seqObj "list" #[] 0)).update s.heap.objs.size (Obj.mapSeq (· ++ vs.toArray))}) (hsz:vs.length<=sizeLine) :
  wpAny (model prog w) A (collect (.ref l)) Q E s:=by
 obtain⟨o,ho,hc,n,hd⟩:=id hl
 unfold collect
 refine wpAny_bind (wpAny_runValue (codeAny_builtin entry_proto_collect' ?_))
 show wpAny _ _ (do again (.builtin "list.__iadd__" ⟨[<-newList [],.ref l],[]⟩)) _ _ s
 refine wpAny_bind (wpAny_newList (wpAny_pure ⟨Code.quiet_builtin _ (by decide +kernel),codeAny_builtin entry_list_iadd' ?_⟩))
 show wpAny _ _ (Builtin.List.listExtendWith (.ref s.heap.objs.size) (.ref l) (.ref s.heap.objs.size)) _ _ {s with heap:=s.heap.push (seqObj "list" #[] 0)}
 unfold Builtin.List.listExtendWith
 have ho':(s.heap.push (seqObj "list" #[] 0)).get? l=some o:=Heap.get?_push_of_some _ ho
 refine wpAny_bind (wpAny_typeOf (T:="tuple") ⟨o,ho',hc⟩ ?_)
 have ht:(Value.type "tuple" == Value.type "tuple")=true:=by rfl
 rw[if_pos (by rw[ht,Bool.or_true])]
 refine wpAny_bind (listItems_at ho' hd ?_)
 refine wpAny_bind (listItems_at (xs:=#[]) (n:=0) (Heap.get?_push_size _ rfl) rfl ?_)
 rw[if_neg (by simp)]
 refine wpAny_bind (listUpdate_at (xs:=#[]) (n:=0) (Heap.get?_push_size _ rfl) rfl ?_ (Nat.zero_le _) (by show (#[] ++ vs.toArray).size<=sizeLine + 1;simp only[Array.size_append,size_toArray,List.length_nil];omega))
 refine wpAny_pure ?_
 show wpAny (model prog w) A (do
   let o <-load s.heap.objs.size
   match o.data with
   | .seq xs _=>pure xs.toList
   |_=>unsupported "internal:collect") Q E {s with heap:=(s.heap.push (seqObj "list" #[] 0)).update s.heap.objs.size (Obj.mapSeq (· ++ vs.toArray))}
 refine wpAny_bind (wpAny_load (get?_update_seq (Heap.get?_push_size _ rfl) _) ?_)
 show wpAny _ _ (pure ((#[]:Array Value) ++ vs.toArray).toList) Q E _
 rw[show ((#[]:Array Value) ++ vs.toArray).toList=vs by simp]
 exact wpAny_pure h
theorem sR {l:Addr}{vs:List Value}{ns:List Int}{Q:Value->Shared->Prop}(hl:s.heap.IsTuple l vs.toArray)(hI:IntsAre vs ns)(h64:vs.length < 64)
  (h:∀(out:Array Value) (ns':List Int),IntsAre out.toList ns'->ns'.Perm ns->ns'.Pairwise (· <= ·)->Q (.ref (s.heap.objs.size + 1)) {s with heap:=sortedAll s.heap vs out}) :
  wpAny (model prog w) A (call (.builtin "sorted") [.ref l]) Q E s:=by
 refine Calls.call_function_entry kind_sorted plain_sorted entry_sorted (args_sorted1 _) ?_
 unfold Builtin.«sorted»
 refine wpAny_bind (m:=checkCount "sorted" 1 1 _) (wpAny_pure ?_)
 refine wpAny_bind (pY hl ?_ (by rw[sizeLine_eq];omega))
 refine wpAny_bind (wpAny_newList ?_)
 have hsz:((s.heap.push (seqObj "list" #[] 0)).update s.heap.objs.size (Obj.mapSeq (· ++ vs.toArray))).objs.size=s.heap.objs.size + 1:=by
  rw[Heap.size_update,size_push']
 have hoL:(((s.heap.push (seqObj "list" #[] 0)).update s.heap.objs.size (Obj.mapSeq (· ++ vs.toArray))).push (seqObj "list" vs.toArray 0)).get? (s.heap.objs.size + 1)=some (seqObj "list" vs.toArray 0):=by
  rw[<-hsz];exact Heap.get?_push_size _ rfl
 show wpAny _ _ _ _ _ {s with heap:=((s.heap.push (seqObj "list" #[] 0)).update s.heap.objs.size (Obj.mapSeq (· ++ vs.toArray))).push (seqObj "list" vs.toArray 0)}
 rw[hsz]
 refine wpAny_bind (wpAny_holding (wpAny_call_entry slot_list_sort ⟨_,hoL,rfl⟩ entry_list_sort (list_sort_tree hoL hI h64 fun out ns' a1 a2 a3=>⟨_,rfl,?_⟩) (args_list_sort _)))
 exact wpAny_pure ⟨_,rfl,h out ns' a1 a2 a3⟩
end
end PyProof.Rows
namespace L2
open PySem PyProof.Rows
section
variable {X:Cx}{K:Frag}{pins:List V}{σ:St}{H:Hp}{s:Shared}{E:XK}
def Cd (K:Frag):List V->Hp->VK->Prop:=fun xs H Q=>∃a ns,xs= [.ref a]/\(hX K H a (ns.map V.int)\/gJ K H a (ns.map V.int))/\ns.length < 64/\∀l,H l=none->Q (.ref l) (upd H l (.lst ((sortI ns).map V.int)))
theorem xo:cY X (.builtin "sorted") (Cd X.K):=by
 intro pins s σ H xs us Q I r h
 obtain⟨a,ns,rfl,hq,hl,q⟩:=h
 rcases hq with hq |hq
 ·exact xg pins s σ H [.ref a] us Q I r ⟨a,ns,rfl,hq,hl,q⟩
 obtain⟨u,rfl,rx⟩:=vals1 r
 cases rx
 obtain⟨its,rv,pl,hz⟩:=I.tuple hq
 have hil:its.length=ns.length:=by rw[<-rv.length,length_map]
 refine sR pl (intsAre_of rv) (by omega) fun out ns' a1 a2 a3=>?_
 obtain rfl:=mG a2 a3
 obtain⟨c,he⟩:=sortedAll_at s.heap its out
 have hf:H (s.heap.objs.size + 1)=none:=I.hok.fresh (Nat.le_succ _)
 have hz':((sortI ns).map V.int).length<=sizeLine:=by
  have:=a2.length_eq
  rw[length_map,sizeLine_eq];omega
 have I2:Inv X pins σ (upd H (s.heap.objs.size + 1) (.lst ((sortI ns).map V.int))) {s with heap:=sortedAll s.heap its out,toks:=s.toks}:=I.laid (t':=s.toks) (fun _ _=>sortedAll_old) (Nat.le_succ _) (show cL X.prog X.w _ _ _ (.lst ((sortI ns).map V.int)) from⟨hz',out.toList,c,tV a1,he⟩)
 exact⟨.ref _,_,I2,rfl,q _ hf⟩
def p5 (d:D):Option D:=match ji d with
 |some ds=>(match lg ds with
  |some ns=>if ns.length < 64 then some (.list ((sortI ns).map int)) else none
  |none=>none)
 |_=>none
theorem Ee:zx K (fun x=>Cd K [x]) p5 .w:=by
 intro B G H x dx d Q s hB bx e k
 unfold p5 at e
 cases q:ji dx with
 |none=>rw[q] at e;cases e
 |some ds=>
  rw[q] at e
  dsimp only at e
  cases q2:lg ds with
  |none=>rw[q2] at e;cases e
  |some ns=>
   rw[q2] at e
   dsimp only at e
   split at e
   ·rename_i hz
    cases e
    obtain⟨p,xs,rfl,hq,r⟩:=bx.seq q s
    rw[qA q2] at r
    have r:=r.intsB
    subst r
    refine⟨p,ns,rfl,hq,hz,fun l hl=>?_⟩
    have hh:ax H (upd H l (.lst ((sortI ns).map V.int))):=ax.new hl
    refine k _ _ _ (Ext.tups s hh) ⟨l,rfl,hl,?_,_,aC,cB.ints _⟩
    unfold mH
    rw[s.free hl,aC]
    exact if_neg fun y=>y
   ·cases e
end
end L2
end
namespace L2
open PySem PyProof.Rows
section
variable {X:Cx}{K:Frag}{E:XK}
def EJ (P:Program)(w:World):List V->Hp->VK->Prop:=fun xs H Q=>∃S qs,xs= [.ref S]/\H S=some (xH P w S qs)/\qs.length<=1000/\Q (.int qs.length) H
theorem zG:cY X (.builtin "len") (EJ X.prog X.w):=by
 intro pins s σ H xs us Q I r h
 obtain⟨S,qs,rfl,hS,hl,q⟩:=h
 obtain⟨u,rfl,rx⟩:=vals1 r
 cases rx
 obtain⟨⟨o,ep,t,ho,hex,hd,T,hled⟩,_,_⟩:Bk X.prog X.w S qs s.heap/\_:=I.hok S _ hS
 have T':L2.ST.Tab t ((qs.map fun q=>(L2.ST.ym X.prog X.w q.2,Value.ref q.1)).toArray.toList.map (·.1)):=by
  rw[toList_toArray,map_map];exact T
 have hz:(qs.map fun q=>(L2.ST.ym X.prog X.w q.2,Value.ref q.1)).toArray.size=qs.length:=by simp
 refine call_len_set ho hex hd (L2.ST.nj T' (by simp)) (by rw[hz];omega) ⟨.int qs.length,H,I.tok _,⟨_,by rw[hz]⟩,q⟩
noncomputable def i6 (d:D):Option D:=match ji d with
 |some ds=>(match eB ds with
  |some ps=>if ps.all CD=true then some (.int ((OM.bR 8 (OM.Mem ps)).length:Nat)) else none
  |none=>none)
 |none=>none
variable {Γ:Fx}{e a b c:Expr}{f fa fb fc:VF D}{L La Lb:List Nat}{md ma mb mc:Md}{pos:Pos}
theorem wM {p1 p2 pos2:Pos}(hc:X.calm=true)(hu:X.A.units + 64 < cLine)(hK:X.K=Γ.K)(hg:Gl X "len")(hm:X.mg "len"=none)(hg2:Gl X "set")(hm2:X.mg "set"=none)(ha:SE X Γ E a fa La ma)
  (he:starEach [a] X.env=(false,eval a X.env) :: starEach [] X.env:=by rfl)
  (he2:starEach [.Call (.Name "set" p2) [a] [] pos2] X.env=(false,eval (.Call (.Name "set" p2) [a] [] pos2) X.env) :: starEach [] X.env:=by rfl) :
  SE X Γ E (.Call (.Name "len" p1) [.Call (.Name "set" p2) [a] [] pos2] [] pos) (f1 fa i6) La .v:=by
 refine PE.post' (j8 zG hg hm (by decide +kernel) (aX (iO (v8 hc hu) hg2 hm2 (by decide +kernel) (aX ha bM he) (by decide) (by decide) he) bM he2) (by decide) (by decide) he2) fun σ H Q ⟨env,G,B,β,I,o⟩=>?_
 refine jr (r:=fun x H1 Q=>FJ X.prog X.w X.K [x] H1 fun y H2=>EJ X.prog X.w [y] H2 Q) ?_ I o
 intro B G H x dx d Q s hB bx e k
 rw[hK]
 unfold i6 at e
 cases q:ji dx with
 |none=>rw[q] at e;cases e
 |some ds=>
  rw[q] at e
  dsimp only at e
  cases q2:eB ds with
  |none=>rw[q2] at e;cases e
  |some ps=>
   rw[q2] at e
   dsimp only at e
   split at e
   ·rename_i h1
    cases e
    obtain⟨p,xs,rfl,hq,r⟩:=bx.seq q s
    rw[iN q2] at r
    have pv:=(r.mono s).pairs
    have sm:∀p,p∈ps->Sm p:=fun p hp=>w9 (all_eq_true.mp h1 p hp)
    refine⟨p,xs,ps,rfl,hq,pv,sm,fun S qs hS hpv nd hm=>?_⟩
    have key:qs.length=(OM.bR 8 (OM.Mem ps)).length:=by
     have l1:(pq qs).length<=(OM.bR 8 (OM.Mem ps)).length:=OM.jM nd fun x hx=>by
      have hx':=(hm x).mp hx
      have hs:=sm x hx'
      exact OM.aY.mpr ⟨⟨⟨hs.1.1,hs.1.2⟩,hs.2.1,hs.2.2⟩,hx'⟩
     have l2:(OM.bR 8 (OM.Mem ps)).length<=(pq qs).length:=OM.jM (OM.eY (OM.cA _ _)) fun x hx=>(hm x).mpr (OM.aY.mp hx).2
     simp only[length_map] at l1 l2
     omega
    have hl:=OM.vM 8 (OM.Mem ps)
    exact⟨S,qs,rfl,aC,by omega,k _ _ _ (Ext.own s hS) (by rw[<-key];exact .int _)⟩
   ·cases e
theorem SI.vb {tg:Expr}{fi:VF (List D)}(h:SI X Γ E tg e fi L .v):SI X Γ E tg e fi L .b:=PI.post h fun σ H Q ⟨env,G,B,β,I,o⟩=>⟨env,G,B,β,I,o.imp fun ds β' k J G' H' a b c w=>k J G' H' a b c w.any⟩
end
end L2
namespace HD
open PySem PySem.W
noncomputable abbrev Aw:=@PySem.W.Fast.tw10156331382660048174
noncomputable abbrev GH:=@PySem.W.Fast.tw11892475500146522536
noncomputable abbrev Jr:=@PySem.W.Fast.tw6613529449190102663
noncomputable abbrev GS:=@PySem.W.Fast.tw14364793385576792824
noncomputable abbrev EL:=@PySem.W.Fast.tw17154629097778926822
noncomputable abbrev BK:=@PySem.W.Fast.tw12822647523644345616
noncomputable def Bj (p:Program):Thread:=
 ⟨do
  let code <-EL p.main
  let frame <-BK code mainNs mainNs
  let _ <-run (.body (behindTheImports p) {scope:=p.main.scope,locals:=mainNs,globals:=mainNs,cells:=[],code,frame:=some frame})
  ret .none,
  .builtin "claim.caller" {},default,[]⟩
theorem AB (p:Program):topStub p=Bj p:=by
 unfold topStub Bj EL BK
 rw[<-PySem.W.Fast.te17154629097778926822,<-PySem.W.Fast.te12822647523644345616]
noncomputable def pf (p:Program)(w:World)(n₀:Nat)(ann:Option Value):Nat->SharedT->Thread->Option SharedT
 | 0,_,_=>none
 |n + 1,s,t=>match through t with
  |true=>some s
  |false=>match Jr n₀ ann t with
   |false=>none
   |true=>match Aw (GH GS) p w s t with
    |some (s',t')=>pf p w n₀ ann n s' t'
    |none=>none
theorem sC {p:Program}{w:World}{n₀:Nat}{ann:Option Value}:∀{n:Nat} {s s':SharedT} {t:Thread},pf p w n₀ ann n s t=some s'->topRun treeTable p w n₀ ann n s.abs t=some s'.abs
 | 0,_,_,_,h=>by cases h
 |n + 1,s,s',t,h=>by
  unfold pf at h
  unfold topRun
  cases ht:through t with
  |true=>rw[ht] at h;cases h;rfl
  |false=>
   rw[ht] at h
   have hq:Jr n₀ ann t=stepOk n₀ ann t:=by unfold Jr;rw[<-PySem.W.Fast.te6613529449190102663]
   dsimp only at h
   rw[hq] at h
   cases hk:stepOk n₀ ann t with
   |false=>rw[hk] at h;cases h
   |true=>
    rw[hk] at h
    have hq:Aw (GH GS) p w s t=stepT (denote treeTable) p w s t:=by unfold Aw GH GS;rw[<-PySem.W.Fast.te10156331382660048174,<-PySem.W.Fast.te11892475500146522536,<-PySem.W.Fast.te14364793385576792824]
    dsimp only at h
    rw[hq] at h
    cases hs:stepT (denote treeTable) p w s t with
    |none=>rw[hs] at h;cases h
    |some r=>obtain⟨s₂,t₂⟩:=r;rw[hs] at h;rw[stepT_spec hs];exact sC h
def treeOf (l:List Obj):BT:=(l.foldl (fun (x:BT×Nat) o=>(x.1.ins x.2 o,x.2 + 1)) (.nil,0)).1
noncomputable def Cw (P:Params):BT:=treeOf (boot_heap P).objs.toList
abbrev vP:Nat:=11
abbrev AQ:Life:={}
theorem boot_abs (P:Params):absHeap (Cw P) vP AQ=boot_heap P:=by kernel_rfl
theorem zA (w:World):((boot_heap w.params).isNs mainGlobals && (Array.mk ([]:List GenState)).size == 0,(boot_heap w.params).objs.size,(boot_heap w.params).nsMap mainGlobals "__annotations__")=(true,vP,some (.ref 6)):=by kernel_rfl
noncomputable def BB (w:World)(os:OsState):SharedT:=⟨Cw w.params,vP,AQ,Array.mk [],boot_drawn,boot_toks,os⟩
noncomputable def ED (p:Program)(w:World)(s:Shared):Bool:=staticsOk (importedModules p.main.body) (boot_heap w.params) s.heap && namesBound p s.heap && gensDone s && laidKept (boot_heap w.params) s.heap
theorem Eo {p q:Program}{loose:List Str}{Xt:Shared->Bool}{α:Type}{Yf:Shared->α}{Ya:World->α}{N:Nat}{g0:Bool}
  (e:opening p=plainProg p.main.scope.names) (hN:Nat.ble 600 N=true) (f:∀s,fenceModules? p s=some s)
  (run:∀(w:World) (os:OsState),(pf p w vP (some (.ref 6)) N (BB w os) (Bj p)).map (fun s=>(ED p w s.abs,openSeen q loose (importedModules p.main.body) Xt g0 s.abs,Yf s.abs))=some (true,openGood q loose,Ya w)):LeftO p q loose Xt Yf Ya N g0:=fun w=>by
 obtain⟨⟨h,gs,d,k,os⟩,e,e'⟩:=Option.map_eq_some_iff.mp (boot_open e hN f w)
 obtain⟨rfl,rfl,rfl,rfl⟩:h=boot_heap w.params/\gs=Array.mk []/\d=boot_drawn/\k=boot_toks:=by simpa using e'
 obtain⟨z1,z2,z3⟩:_/\_/\_:=by simpa only [Prod.mk.injEq] using zA w
 obtain⟨s',r,ls⟩:=Option.map_eq_some_iff.mp (run w os)
 obtain⟨l1,l2,l3⟩:_/\_/\_:=by simpa only [Prod.mk.injEq] using ls
 have r:=sC r
 have ha:(BB w os).abs=⟨boot_heap w.params,Array.mk [],boot_drawn,boot_toks,os⟩:=by
  show Shared.mk (absHeap (Cw w.params) vP AQ) _ _ _ _=_
  rw[boot_abs]
  rfl
 rw[ha,<-AB] at r
 have t:topFrom treeTable p w N ⟨boot_heap w.params,Array.mk [],boot_drawn,boot_toks,os⟩=some s'.abs:=by
  unfold topFrom
  dsimp only
  rw[z1,z2,z3,r]
  show (match ED p w s'.abs with |true=>_ |false=>_)=_
  rw[l1]
 unfold openEnds
 rw[e]
 show (topFrom treeTable p w N _).map _=_
 rw[t]
 exact congrArg some (Prod.ext l2 l3)
end HD
namespace L2
open PySem
section
variable {α γ:Type}
@[simp] theorem mE (a:α)(β:Int)(k:α->Int->R γ):(R.ok a β).bnd k=k a β:=rfl
@[simp] theorem IH (c:Str)(k:α->Int->R γ):(R.exc c:R α).bnd k=.exc c:=rfl
@[simp] theorem IT (k:α->Int->R γ):(R.bad:R α).bnd k=.bad:=rfl
@[simp] theorem JZ (a:α)(β:Int)(k:α->Int->R γ):(R.ok a β).okb k=k a β:=rfl
@[simp] theorem tm (a:α)(β:Int):R.of (some a) β=.ok a β:=rfl
@[simp] theorem of_none (β:Int):(R.of none β:R α)=.bad:=rfl
@[simp] theorem JQ (a:α)(β:Int)(k:α->Int->SO):toS (.ok a β) k=k a β:=rfl
@[simp] theorem IG (c:Str)(k:α->Int->SO):toS (.exc c:R α) k=.exc c:=rfl
@[simp] theorem IF (k:α->Int->SO):toS (.bad:R α) k=.bad:=rfl
end
section
variable (f fa fb fc:VF D)(t u:VF Bool)(m m':SF)(vs:List Nv)(β:Int)(env:En)(i j:Nat)(L:List Nat)
@[simp] theorem BR:gv i vs β=R.of (dat vs[i]?) β:=rfl
@[simp] theorem wL (d:D):dat (some (.da d))=some d:=rfl
@[simp] theorem Jx (d:D):cst d vs β=.ok d β:=rfl
@[simp] theorem Kq (g:D->Option D):f1 fa g vs β=(fa vs β).bnd fun x β1=>R.of (g x) β1:=rfl
@[simp] theorem Ki (g:D->D->Option D):f2 fa fb g vs β=(fa vs β).bnd fun x β1=>(fb vs β1).bnd fun y β2=>R.of (g x y) β2:=rfl
@[simp] theorem yi:ag vs β=.ok [] β:=rfl
@[simp] theorem bN (fr:VF (List D)):aa fa fr vs β=(fa vs β).bnd fun x β1=>(fr vs β1).bnd fun xs β2=>.ok (x :: xs) β2:=rfl
@[simp] theorem ux:iY fa vs β=(fa vs β).bnd fun x β1=>R.of (G6 x) β1:=rfl
@[simp] theorem uc:nP t vs β=(t vs β).bnd fun c β1=>.ok (!c) β1:=rfl
@[simp] theorem AG:sH t u vs β=(t vs β).bnd fun c β1=>if c=true then u vs β1 else .ok false β1:=rfl
@[simp] theorem pB:hZ t u vs β=(t vs β).bnd fun c β1=>if c=true then .ok true β1 else u vs β1:=rfl
@[simp] theorem Kv (n:Bool):tN fa n vs β=(fa vs β).bnd fun x β1=>.ok (if n then !Dc x else Dc x) β1:=rfl
@[simp] theorem Gd:IX t fa fb vs β=(t vs β).bnd fun c β1=>if c=true then fa vs β1 else fb vs β1:=rfl
@[simp] theorem bS (c:Bool){β1:Int}(h:fa vs β=.ok (.bool c) β1):bD fa vs β=.ok c β1:=by unfold bD;rw[h];rfl
@[simp] theorem xi:vl []= []:=rfl
@[simp] theorem uo (s:Sl):vl (s :: env)=s.val :: vl env:=rfl
@[simp] theorem xO (d:D):(Sl.fz d).val=.da d:=rfl
@[simp] theorem Kc (d:D):(Sl.ow d).val=.da d:=rfl
@[simp] theorem Jw:Sl.no.val=.no:=rfl
@[simp] theorem JB:Sl.bx.val=.bx:=rfl
@[simp] theorem Jf:bp [] env=env:=rfl
@[simp] theorem Ij:bp (i :: L) env=bp L (gV env i):=rfl
@[simp] theorem IL:aG m m' env β=(match m env β with
 | .nx env' β'=>m' env' β'
 |r=>r):=rfl
@[simp] theorem JW:jS L t m m' env β=toS (t (vl env) β) fun c β'=>if c=true then m (bp L env) β' else m' (bp L env) β':=rfl
@[simp] theorem bP:bG f env β=toS (f (vl env) β) fun d β'=>.rt d false β':=rfl
@[simp] theorem Bu:rL f env β=toS (f (vl env) β) fun d β'=>.rt d true β':=rfl
@[simp] theorem Jq:lh env β=.nx env β:=rfl
@[simp] theorem bA:ba i L f env β=toS (f (vl env) β) fun d β'=>.nx ((bp L env).set i (.fz d)) β':=rfl
@[simp] theorem fG:gY i L f env β=toS (f (vl env) β) fun d β'=>.nx ((bp L env).set i (.ow d)) β':=rfl
@[simp] theorem Cj:BY L f env β=toS (f (vl env) β) fun _ β'=>.nx (bp L env) β':=rfl
end
theorem ah {m m':SF}{env env':En}{β β':Int}(h:m env β=.nx env' β'):aG m m' env β=m' env' β':=by unfold aG;rw[h]
theorem dI {m m':SF}{env:En}{β β':Int}{d:D}{b:Bool}(h:m env β=.rt d b β'):aG m m' env β=.rt d b β':=by unfold aG;rw[h]
theorem hW {L:List Nat}{t:VF Bool}{m m':SF}{env:En}{β β':Int}(h:t (vl env) β=.ok true β'):jS L t m m' env β=m (bp L env) β':=by unfold jS;rw[h];rfl
theorem cW {L:List Nat}{t:VF Bool}{m m':SF}{env:En}{β β':Int}(h:t (vl env) β=.ok false β'):jS L t m m' env β=m' (bp L env) β':=by unfold jS;rw[h];rfl
theorem aI {F:List D->FR}{fr:VF (List D)}{vs:List Nv}{β β1:Int}{ds:List D}{d:D}{b:Bool}(h:fr vs β=.ok ds β1)(e:F ds=.ok d b):aw F fr vs β=.ok d β1:=by unfold aw;rw[h];dsimp only[R.bnd];rw[e]
theorem AR {F:List D->FR}{fr:VF (List D)}{vs:List Nv}{β β1:Int}{ds:List D}{d:D}(h:fr vs β=.ok ds β1)(e:F ds=.ok d true):sN F fr vs β=.ok d β1:=by unfold sN;rw[h];dsimp only[R.bnd];rw[e]
theorem dh {fa:VF D}{g:D->Option D}{vs:List Nv}{β β1:Int}{x d:D}(h:fa vs β=.ok x β1)(e:g x=some d):f1 fa g vs β=.ok d β1:=by unfold f1;rw[h];dsimp only[R.bnd];rw[e];rfl
theorem aA {fa fb:VF D}{g:D->D->Option D}{vs:List Nv}{β β1 β2:Int}{x y d:D}(h:fa vs β=.ok x β1)(h':fb vs β1=.ok y β2)(e:g x y=some d):f2 fa fb g vs β=.ok d β2:=by unfold f2;rw[h];dsimp only[R.bnd];rw[h'];dsimp only[R.bnd];rw[e];rfl
theorem di {i:Nat}{F:List D->Int->FB}{fr:VF (List D)}{vs:List Nv}{β β1 β2:Int}{ds:List D}{d:D}{b:Bool}(hi:xR vs i=true)(h:fr vs β=.ok ds β1)(e:F ds β1=.ok d b β2):fO i F fr vs β=.ok d β2:=by unfold fO;rw[if_pos hi,h];dsimp only[R.bnd];rw[e]
theorem sz (n:Nat)(h:n<=1000):n<=sizeLine:=by rw[sizeLine_eq];omega
theorem HX (n:Nat)(h:n<=1000):n < sizeLine:=by rw[sizeLine_eq];omega
theorem gA {fr:VF (List D)}{vs:List Nv}{β β1:Int}{ds:List D}(h:fr vs β=.ok ds β1)(hz:ds.length<=1000):bH fr vs β=.ok (.tuple ds) β1:=by unfold bH;rw[h];exact if_pos (sz _ hz)
theorem dQ {fr:VF (List D)}{vs:List Nv}{β β1:Int}{ds:List D}(h:fr vs β=.ok ds β1)(hz:ds.length<=1000):bo fr vs β=.ok (.list ds) β1:=by unfold bo;rw[h];exact if_pos (sz _ hz)
theorem tH {i:Nat}{env:En}{β:Int}{g:List D->Option (List D)}{ds es:List D}(h:env[i]? =some (.ow (.list ds)))(e:g ds=some es):ET i env β g=.nx (env.set i (.ow (.list es))) β:=by unfold ET;rw[h];dsimp only;rw[e]
theorem jm {i:Nat}{L:List Nat}{f:VF D}{env:En}{β β':Int}{ds:List D}{d:D}(hi:env[i]? =some (.ow (.list ds)))(hf:f (vl env) β=.ok d β')(hL:(bp L env)[i]? =some (.ow (.list ds)))(hz:ds.length<=1000):ij i L f env β=.nx ((bp L env).set i (.ow (.list (ds ++ [d])))) β':=by
 unfold ij
 rw[if_pos (by rw[hi];rfl),hf]
 exact tH hL (if_pos (HX _ hz))
theorem xN {i j:Nat}{L:List Nat}{f:VF D}{env:En}{β β':Int}{ds es es':List D}{k d:D}(hi:env[i]? =some (.ow (.list ds)))(hj:env[j]? =some (.ow (.list es)))(hij:i≠j)(hf:f (vl env) β=.ok k β')(hL:bp L env=env)(hp:zC es k=some (d,es'))(hz:ds.length<=1000):k9 i j L f env β=.nx ((env.set j (.ow (.list es'))).set i (.ow (.list (ds ++ [d])))) β':=by
 unfold k9
 rw[if_pos ⟨by rw[hi];rfl,by rw[hj];rfl,hij⟩,hf,hL]
 dsimp only[toS]
 rw[hj]
 dsimp only
 rw[hp]
 exact tH (by rw[getElem?_set_ne (Ne.symm hij)];exact hi) (if_pos (HX _ hz))
theorem AS {i:Nat}{Le Li:List Nat}{fe fi:VF D}{env:En}{β β1 β2:Int}{ds:List D}{d:D}{k:Int}{n:Nat}(he:fe (vl env) β=.ok d β1)(h1:(bp Le env)[i]? =some (.ow (.list ds)))(hi:fi (vl env) β1=.ok (.int k) β2)(h2:(bp (Le ++ Li) env)[i]? =some (.ow (.list ds)))(hk:qN ds.length k=some n):vZ i Le Li fe fi env β=.nx ((bp (Le ++ Li) env).set i (.ow (.list (ds.set n d)))) β2:=by
 unfold vZ
 rw[he]
 dsimp only[toS]
 rw[if_pos (by rw[h1];rfl),hi]
 exact tH h2 (by dsimp only;rw[hk];rfl)
theorem qi {t:Tg}{ft:VF Bool}{fe:VF D}{vs:List Nv}(g:D->Bool)(h:D->D):∀{ds:List D} {β:Int},(∀d,d∈ds->∃vs1,mq t d vs=some vs1/\ft vs1 β=.ok (g d) β/\(g d=true->fe vs1 β=.ok (h d) β))->fL t ft fe vs ds β=.ok ((ds.filter g).map h) β
 | [],β,_=>rfl
 |d :: ds,β,hh=>by
  obtain⟨vs1,e1,e2,e3⟩:=hh d (mem_cons_self ..)
  have ih:=qi (t:=t) (ft:=ft) (fe:=fe) (vs:=vs) g h (ds:=ds) (β:=β) fun d' hd=>hh d' (mem_cons_of_mem _ hd)
  unfold fL
  rw[e1]
  dsimp only
  rw[e2]
  dsimp only[R.okb]
  cases q:g d with
  |true=>
   rw[if_pos rfl,e3 q]
   dsimp only
   rw[ih,List.filter_cons_of_pos q];rfl
  |false=>
   rw[if_neg Bool.false_ne_true,ih,List.filter_cons_of_neg (by rw[q];exact Bool.false_ne_true)]
theorem xD {own:Nat}{ixs:List Nat}{t:Tg}{fi:VF (List D)}{ft:VF Bool}{fe:VF D}{vs:List Nv}{β β1:Int}{ds:List D}(g:D->Bool)(h:D->D)(hi:fi vs β=.ok ds β1)(hz:ds.length<=1000)
  (hh:∀d,d∈ds->∃vs1,mq t d (fQ own ixs vs)=some vs1/\ft vs1 β1=.ok (g d) β1/\(g d=true->fe vs1 β1=.ok (h d) β1)):aK own ixs t fi ft fe vs β=.ok (.list ((ds.filter g).map h)) β1:=by
 unfold aK
 rw[hi]
 dsimp only[R.bnd]
 rw[if_pos (sz _ hz),qi g h hh];rfl
theorem l4 {own:Nat}{ixs:List Nat}{t:Tg}{fi:VF (List D)}{fe:VF D}{vs:List Nv}{β β1:Int}{ds:List D}(h:D->D)(hi:fi vs β=.ok ds β1)(hz:ds.length<=1000)
  (hh:∀d,d∈ds->∃vs1,mq t d (fQ own ixs vs)=some vs1/\fe vs1 β1=.ok (h d) β1):aK own ixs t fi ki fe vs β=.ok (.list (ds.map h)) β1:=by
 rw[xD (ft:=ki) (fun _=>true) h hi hz fun d hd=>let ⟨vs1,e1,e2⟩:=hh d hd;⟨vs1,e1,rfl,fun _=>e2⟩]
 rw[List.filter_eq_self.mpr (fun _ _=>rfl)]
theorem fY {α:Type}{own:Nat}{ixs:List Nat}{t:Tg}{fi:VF (List D)}{fe:VF D}{vs:List Nv}{β β1:Int}{l:List α}{e:α->D}(h:α->D)(hi:fi vs β=.ok (l.map e) β1)(hz:l.length<=1000)
  (hh:∀x,x∈l->∃vs1,mq t (e x) (fQ own ixs vs)=some vs1/\fe vs1 β1=.ok (h x) β1):aK own ixs t fi ki fe vs β=.ok (.list (l.map h)) β1:=by
 unfold aK
 rw[hi]
 dsimp only[R.bnd]
 rw[if_pos (sz _ (by rw[length_map];exact hz))]
 have key:∀m:List α,(∀x,x∈m->x∈l)->fL t ki fe (fQ own ixs vs) (m.map e) β1=.ok (m.map h) β1:=by
  intro m
  induction m with
  |nil=>intro _;rfl
  |cons x m ih=>
   intro hm
   obtain⟨vs1,e1,e2⟩:=hh x (hm x (mem_cons_self ..))
   rw[map_cons]
   unfold fL
   rw[e1]
   dsimp only
   show (R.ok true β1).okb _=_
   dsimp only[R.okb]
   rw[if_pos rfl,e2]
   dsimp only
   rw[ih fun y hy=>hm y (mem_cons_of_mem _ hy)];rfl
 rw[key l fun _ h=>h];rfl
theorem bZ {α:Type}{own:Nat}{ixs:List Nat}{t:Tg}{fi:VF (List D)}{ft:VF Bool}{fe:VF D}{vs:List Nv}{β β1:Int}{l:List α}{e:α->D}(g:α->Bool)(h:α->D)(hi:fi vs β=.ok (l.map e) β1)(hz:l.length<=1000)
  (hh:∀x,x∈l->∃vs1,mq t (e x) (fQ own ixs vs)=some vs1/\ft vs1 β1=.ok (g x) β1/\(g x=true->fe vs1 β1=.ok (h x) β1)):aK own ixs t fi ft fe vs β=.ok (.list ((l.filter g).map h)) β1:=by
 unfold aK
 rw[hi]
 dsimp only[R.bnd]
 rw[if_pos (sz _ (by rw[length_map];exact hz))]
 have key:∀m:List α,(∀x,x∈m->x∈l)->fL t ft fe (fQ own ixs vs) (m.map e) β1=.ok ((m.filter g).map h) β1:=by
  intro m
  induction m with
  |nil=>intro _;rfl
  |cons x m ih=>
   intro hm
   obtain⟨vs1,e1,e2,e3⟩:=hh x (hm x (mem_cons_self ..))
   have ih:=ih fun y hy=>hm y (mem_cons_of_mem _ hy)
   rw[map_cons]
   unfold fL
   rw[e1]
   dsimp only
   rw[e2]
   dsimp only[R.okb]
   cases q:g x with
   |true=>
    rw[if_pos rfl,e3 q]
    dsimp only
    rw[ih,List.filter_cons_of_pos q];rfl
   |false=>
    rw[if_neg Bool.false_ne_true,ih,List.filter_cons_of_neg (by rw[q];exact Bool.false_ne_true)]
 rw[key l fun _ h=>h];rfl
theorem cj {t:Tg}{m:SF}(Pv:Nat->En->Int->Prop):∀{ds:List D} {k:Nat} {env:En} {β:Int},Pv k env β->
  (∀i d env β,ds[i]? =some d->Pv (k + i) env β->∃env1,iq t d env=some env1/\∃env2 β2,m env1 β=.nx env2 β2/\Pv (k + i + 1) env2 β2)->∃env' β',lu t m ds env β=.nx env' β'/\Pv (k + ds.length) env' β'
 | [],k,env,β,h0,_=>⟨env,β,rfl,h0⟩
 |d :: ds,k,env,β,h0,hs=>by
  obtain⟨env1,e1,env2,β2,e2,h1⟩:=hs 0 d env β rfl h0
  obtain⟨env',β',e3,h2⟩:=cj Pv (t:=t) (m:=m) (ds:=ds) (k:=k + 1) h1 fun i d' en be hi hp=>by
   have:=hs (i + 1) d' en be (by simpa using hi) (by rw[show k + (i + 1)=k + 1 + i by omega];exact hp)
   rw[show k + (i + 1) + 1=k + 1 + i + 1 by omega] at this
   exact this
  refine⟨env',β',?_,by rw[length_cons,show k + (ds.length + 1)=k + 1 + ds.length by omega];exact h2⟩
  unfold lu
  rw[e1]
  dsimp only
  rw[e2]
  exact e3
theorem fV {L:List Nat}{t:VF Bool}{m:SF}(Pv:Nat->En->Int->Prop)(Dn:En->Int->Prop):∀{n k:Nat} {env:En} {β:Int},k < n->Pv k env β->
  (∀k env β,Pv k env β->∃c β1,t (vl env) β=.ok c β1/\((c=false/\Dn (bp L env) β1)\/(c=true/\∃env2 β2 k',m (bp L env) β1=.nx env2 β2/\k' < k/\Pv k' env2 β2)))->∃env' β',ie L t m n env β=.nx env' β'/\Dn env' β'
 | 0,k,env,β,hk,_,_=>by omega
 |n + 1,k,env,β,hk,h0,hs=>by
  obtain⟨c,β1,e1,hc⟩:=hs k env β h0
  unfold ie
  rw[e1]
  dsimp only[toS]
  rcases hc with⟨rfl,hd⟩ | ⟨rfl,env2,β2,k',e2,hl,h1⟩
  ·exact⟨_,_,rfl,hd⟩
  ·rw[if_pos rfl,e2]
   exact fV Pv Dn (n:=n) (k:=k') (by omega) h1 hs
end L2
namespace RM
open PySem L2
def qz:SF:=(bG (eJ (f1 (gv 0) (gS "int")) (f1 (f1 (gv 0) (gS "bool")) Ag)))
def pN (cm:List D->FR):SF:=(bG (eJ (aw cm (aa (gv 0) ag)) (kI (cst (.int 0)) (gv 0) (gv 1) BL vL)))
def rV (cm:List D->FR):SF:=(bG (eJ (aw cm (aa (gv 0) ag)) (kI (cst (.int 1)) (gv 0) (cst (.int 8)) BL BL)))
def jX (eM:List D->FR):SF:=(aG (jS ([] ++ ([] ++ [])) (hZ (nP (iY (f1 (gv 0) (gS "tuple")))) (bD (f2 (f1 (gv 0) bV) (cst (.int 2)) (bL true))))
 (bG (cst (.bool false)))
 lh)
 (bG (eJ (aw eM (aa (f2 (gv 0) (cst (.int 0)) a8) (aa (gv 1) ag))) (aw eM (aa (f2 (gv 0) (cst (.int 1)) a8) (aa (gv 1) ag))))))
def uE:SF:=(rL (aK 1 [0] (.nm 0) (bX (f2 (gv 0) (gv 0) cJ)) ki (bH (aa (f2 (gv 0) (gv 1) BG) (aa (f2 (gv 0) (gv 1) nr) ag)))))
def qu:SF:=(bG (f1 (aK 2 [] (.two 0 1) (bw (gv 0)) ki (f2 (gv 0) (gv 1) (bL false))) (dk fun bs=>bs.any id)))
def jb (iQ cw jW gf:List D->FR):SF:=(aG (jS ([] ++ ([] ++ [])) (hZ (nP (iY (f1 (gv 0) (gS "tuple")))) (bD (f2 (f1 (gv 0) bV) (cst (.int 2)) (bL true))))
 (bG (cst (.bool false)))
 lh)
 (aG (ba 1 ([] ++ []) (f2 (gv 0) (cst (.int 0)) a8))
 (aG (ba 2 ([] ++ []) (f2 (gv 0) (cst (.int 1)) a8))
 (aG (jS (([1] ++ []) ++ []) (hZ (nP (iY (aw iQ (aa (gv 1) ag)))) (nP (iY (f1 (gv 2) (gS "tuple")))))
 (bG (cst (.bool false)))
 lh)
 (aG (jS ([] ++ [1]) (nP (iY (f1 (aK 1 [1] (.nm 0) (bw (gv 2)) ki (aw cw (aa (gv 0) (aa (gv 1) ag)))) (dk fun bs=>bs.all id))))
 (bG (cst (.bool false)))
 lh)
 (bG (eJ (f2 (gv 2) (aw jW (aa (gv 1) (aa (gv 2) ag))) (bL false)) (f1 (aw gf (aa (gv 2) ag)) Ag))))))))
def iB (gq:List D->FR):SF:=(jS ([0] ++ []) (nP (iY (aw gq (aa (gv 0) ag))))
 (fun env β=>toS ((aa (cst (.str "this is no order")) ag) (vl env) β) fun ds _=>if ds.length<=sizeLine then .exc "NoOrder" else .bad)
 lh)
def oE:SF:=(bG (eJ (f2 (gv 1) (gv 2) (bL true)) (eJ (f2 (bH (aa (gv 1) (aa (gv 2) ag))) (f2 (gv 0) (cst (.int 1)) a8) (lb true)) (f2 (bH (aa (gv 2) (aa (gv 1) ag))) (f2 (gv 0) (cst (.int 1)) a8) (lb true)))))
def gZ:SF:=(aG (jS ([] ++ []) (bD (f2 (gv 1) (f1 (gv 0) bV) vL))
 (bG (f2 (gv 0) (gv 1) a8))
 lh)
 (bG (cst (.int 0))))
def kj:SF:=(aG (ba 2 [] (bo (Kn [48271,69621,16807,39373,30269,40014,40692,50021,61687,71993,83869,95561,30307]))) (aG (ba 3 ((((([] ++ []) ++ []) ++ ([] ++ ([] ++ []))) ++ ([] ++ [])) ++ ([] ++ ([] ++ []))) (f2 (f2 (f2 (f2 (f2 (gv 0) (cst (.int 2147483647)) nr) (cst (.int 12345)) cc) (f2 (gv 2) (f2 (gv 1) (cst (.int 13)) nr) a8) cJ) (f2 (cst (.int 977)) (gv 1) cJ) cc) (f2 (cst (.int 7919)) (f2 (gv 1) (cst (.int 13)) BG) cJ) cc))
 (aG (ba 3 ([] ++ []) (f2 (gv 3) (cst (.int 1000000007)) nr))
 (bG (f2 (f2 (f2 (f2 (gv 3) (gv 3) cJ) (f2 (cst (.int 48271)) (gv 1) cJ) cc) (cst (.int 1000000007)) nr) (cst (.int 7)) BG)))))
def kE (eT gu:List D->FR):SF:=(aG (ba 2 ([0] ++ ([1] ++ [])) (aw eT (aa (gv 0) (aa (gv 1) ag))))
 (aG (jS (([] ++ []) ++ []) (bD (f2 (f2 (gv 2) (cst (.int 2)) nr) (cst (.int 0)) (bL false)))
 (rL (bo (aa (f2 (f1 (gv 2) Dt) (cst (.int 2)) BG) ag)))
 lh)
 (aG (ba 3 [] (cst (.int 0)))
 (aG (cH (.nm 4) [] (bX (cst (.int 40)))
 (ba 3 (([] ++ []) ++ ([2] ++ ([4] ++ []))) (f2 (f2 (gv 3) (cst (.int 142857143)) cJ) (aw gu (aa (gv 2) (aa (gv 4) ag))) cc)))
 (rL (bo (aa (gv 3) ag)))))))
def dY (aB:List D->Int->FB):SF:=(aG (gY 2 [] (f1 (gv 1) yq))
 (aG (gY 3 [] (bo ag))
 (aG (ie ([] ++ []) (bD (f2 (gv 2) (bo ag) (bL true)))
 (k9 3 2 ([] ++ []) (fO 0 aB (aa (f1 (gv 2) bV) ag))) 1000)
 (pG 3))))
noncomputable def gN:SF:=(aG (ba 1 [] (f1 (gv 0) cX))
 (aG (ba 2 [] (f1 (cst (.int 1)) ox))
 (aG (ie ([] ++ []) (bD (f2 (gv 2) (f1 (gv 1) bV) (bL true)))
 (aG (ba 2 [] (f1 (gv 1) bV))
 (aG (ba 3 [] (bo ag))
 (aG (cH (.two 4 5) [1] (bw (gv 1))
 (ba 3 ([] ++ ([] ++ [4])) (f2 (gv 3) (aK 2 [5,4] (.two 0 1) (bw (gv 1)) (bD (f2 (gv 0) (gv 2) (bL false))) (bH (aa (gv 3) (aa (gv 1) ag)))) fU)))
 (ba 1 ([] ++ []) (f1 (f2 (gv 1) (gv 3) fU) cX))))) 1000)
 (bG (f1 (gv 1) i7)))))
def iw (c6:List D->FR)(aB aM:List D->Int->FB):SF:=(aG (ba 2 ([] ++ ([1] ++ [])) (f2 (cst (.int 1)) (fO 0 aB (aa (gv 1) ag)) cc))
 (aG (ba 3 ([] ++ []) (fO 0 aM (aa (f1 (gv 2) cf) ag)))
 (aG (ba 4 (([] ++ ([] ++ ([] ++ ([] ++ [])))) ++ ([] ++ [])) (f2 (bo (aa (cst (.int 2)) (aa (cst (.int 3)) (aa (cst (.int 4)) (aa (cst (.int 7)) ag))))) (fO 0 aB (aa (cst (.int 4)) ag)) a8))
 (aG (gY 5 [] (bo ag))
 (aG (cH (.nm 6) [] (bX (gv 2))
 (cH (.nm 7) (([] ++ []) ++ []) (sv (f2 (gv 6) (cst (.int 1)) cc) (gv 2))
 (jS (([4] ++ []) ++ []) (bD (f2 (fO 0 aB (aa (gv 4) ag)) (cst (.int 0)) (bL false)))
 (ij 5 (([] ++ []) ++ (([] ++ []) ++ [])) (bH (aa (f2 (gv 3) (gv 6) a8) (aa (f2 (gv 3) (gv 7) a8) ag))))
 lh)))
 (bG (bH (aa (gv 2) (aa (aw c6 (aa (gv 5) ag)) ag)))))))))
def nA:SF:=(bG (eJ (f2 (gv 1) (gv 2) (bL true)) (eJ (f2 (bH (aa (gv 1) (aa (gv 2) ag))) (f2 (gv 0) (cst (.int 1)) a8) (lb true)) (f2 (bH (aa (gv 2) (aa (gv 1) ag))) (f2 (gv 0) (cst (.int 1)) a8) (lb true)))))
def mL:D->Bool
 | .int _=>true
 |_=>false
def lO:List D->FR
 | [d]=>if eZ d=true then .bad else .ok (.bool (mL d)) false
 |_=>.bad
theorem ni {d:D}(h:eZ d=false):lO [d]=.ok (.bool (mL d)) false:=if_neg (by rw[h];exact Bool.false_ne_true)
theorem yG (ds:List D)(h:lO ds≠.bad):bg 1 1 qz ds=lO ds:=by
 unfold lO at h
 split at h
 ·rename_i d
  cases q:eZ d with
  |true=>rw[q] at h;exact absurd rfl h
  |false=>
   rw[ni q]
   have e1:gS "int" d=some (.bool (BH d "int")):=by unfold gS;rw[q];rfl
   have e2:gS "bool" d=some (.bool (BH d "bool")):=by unfold gS;rw[q];rfl
   show fin (bG (eJ (f1 (gv 0) (gS "int")) (f1 (f1 (gv 0) (gS "bool")) Ag)) [.fz d] 0)=_
   unfold bG eJ f1 gv
   simp only[uo,xi,xO,List.getElem?_cons_zero,wL,tm,mE,e1,e2]
   cases d <;> rfl
 ·exact absurd rfl h
def lP (d:D)(n:Int):Bool:=match d with
 | .int i=>decide (0<=i/\i < n)
 |_=>false
def gp:List D->FR
 | [d,.int n]=>if eZ d=true then .bad else .ok (.bool (lP d n)) false
 |_=>.bad
theorem sZ {d:D}{n:Int}(h:eZ d=false):gp [d,.int n]=.ok (.bool (lP d n)) false:=if_neg (by rw[h];exact Bool.false_ne_true)
theorem uU {i lo n:Int}{vs:List Nv}{β:Int}{fa fb fc:VF D}{g':D->D->Option D}{q:Bool}(ha:fa vs β=.ok (.int lo) β)(hb:fb vs β=.ok (.int i) β)(hc:fc vs β=.ok (.int n) β)(hq:g' (.int i) (.int n)=some (.bool q)):kI fa fb fc BL g' vs β=.ok (.bool (decide (lo<=i) && q)) β:=by
 unfold kI
 rw[ha];dsimp only[R.bnd];rw[hb];dsimp only[R.bnd]
 show (match (some (PyData.bool (decide (lo<=i))):Option D) with
  |some (.bool true)=>_
  |some (.bool false)=>_
  |_=>_)=_
 by_cases h:lo<=i
 ·rw[decide_eq_true h]
  dsimp only
  rw[hc]
  dsimp only[R.bnd]
  rw[hq];rfl
 ·rw[decide_eq_false h];rfl
theorem Dw (ds:List D)(h:gp ds≠.bad):bg 2 2 (pN lO) ds=gp ds:=by
 unfold gp at h
 split at h
 ·rename_i d n
  cases q:eZ d with
  |true=>rw[q] at h;exact absurd rfl h
  |false=>
   rw[sZ q]
   show fin (bG (eJ (aw lO (aa (gv 0) ag)) (kI (cst (.int 0)) (gv 0) (gv 1) BL vL)) [.fz d,.fz (.int n)] 0)=_
   unfold bG eJ aw
   simp only[uo,xi,xO,bN,yi,BR,List.getElem?_cons_zero,wL,tm,mE,ni q]
   cases d with
   |int i=>
    show fin (toS (kI (cst (.int 0)) (gv 0) (gv 1) BL vL [.da (.int i),.da (.int n)] 0) _)=_
    rw[uU (lo:=0) (i:=i) (n:=n) rfl rfl rfl rfl]
    show FR.ok (.bool (decide (0<=i) && decide (i < n))) false=.ok (.bool (decide (0<=i/\i < n))) false
    rw[Bool.decide_and]
   |_=>rfl
 ·exact absurd rfl h
def EI (d:D):Bool:=match d with
 | .int i=>decide (1<=i/\i<=8)
 |_=>false
def mz:List D->FR
 | [d]=>if eZ d=true then .bad else .ok (.bool (EI d)) false
 |_=>.bad
theorem BF {d:D}(h:eZ d=false):mz [d]=.ok (.bool (EI d)) false:=if_neg (by rw[h];exact Bool.false_ne_true)
theorem GA (ds:List D)(h:mz ds≠.bad):bg 1 1 (rV lO) ds=mz ds:=by
 unfold mz at h
 split at h
 ·rename_i d
  cases q:eZ d with
  |true=>rw[q] at h;exact absurd rfl h
  |false=>
   rw[BF q]
   show fin (bG (eJ (aw lO (aa (gv 0) ag)) (kI (cst (.int 1)) (gv 0) (cst (.int 8)) BL BL)) [.fz d] 0)=_
   unfold bG eJ aw
   simp only[uo,xi,xO,bN,yi,BR,List.getElem?_cons_zero,wL,tm,mE,ni q]
   cases d with
   |int i=>
    show fin (toS (kI (cst (.int 1)) (gv 0) (cst (.int 8)) BL BL [.da (.int i)] 0) _)=_
    rw[uU (lo:=1) (i:=i) (n:=8) rfl rfl rfl rfl]
    show FR.ok (.bool (decide (1<=i) && decide (i<=8))) false=.ok (.bool (decide (1<=i/\i<=8))) false
    rw[Bool.decide_and]
   |_=>rfl
 ·exact absurd rfl h
def pairF:List D->FR
 | [d,.int n]=>(match qh d with
  |some p=>.ok (.bool (decide ((0<=p.1/\p.1 < n)/\(0<=p.2/\p.2 < n)))) false
  |none=>.bad)
 |_=>.bad
theorem Bl (p:Pr)(n:Int):pairF [aq p,.int n]=.ok (.bool (decide ((0<=p.1/\p.1 < n)/\(0<=p.2/\p.2 < n)))) false:=rfl
theorem GU (ds:List D)(h:pairF ds≠.bad):bg 2 2 (jX gp) ds=pairF ds:=by
 unfold pairF at h
 split at h
 ·rename_i d n
  cases q:qh d with
  |none=>rw[q] at h;exact absurd rfl h
  |some p=>
   obtain rfl:=vI q
   rw[Bl]
   obtain⟨a,b⟩:=p
   show fin (toS (eJ (aw gp (aa (f2 (gv 0) (cst (.int 0)) a8) (aa (gv 1) ag))) (aw gp (aa (f2 (gv 0) (cst (.int 1)) a8) (aa (gv 1) ag))) [.da (.tuple [.int a,.int b]),.da (.int n)] 0) fun d β'=>.rt d false β')=_
   have e1:aw gp (aa (f2 (gv 0) (cst (.int 0)) a8) (aa (gv 1) ag)) [.da (.tuple [.int a,.int b]),.da (.int n)] 0=.ok (.bool (decide (0<=a/\a < n))) 0:=rfl
   have e2:aw gp (aa (f2 (gv 0) (cst (.int 1)) a8) (aa (gv 1) ag)) [.da (.tuple [.int a,.int b]),.da (.int n)] 0=.ok (.bool (decide (0<=b/\b < n))) 0:=rfl
   unfold eJ
   rw[e1]
   dsimp only[R.bnd]
   by_cases c:0<=a/\a < n
   ·rw[decide_eq_true c,e2]
    show FR.ok (.bool (decide (0<=b/\b < n))) false=.ok (.bool (decide ((0<=a/\a < n)/\(0<=b/\b < n)))) false
    simp[c]
   ·rw[decide_eq_false c]
    show FR.ok (.bool false) false=.ok (.bool (decide ((0<=a/\a < n)/\(0<=b/\b < n)))) false
    simp[c]
 ·exact absurd rfl h
def au (n:Nat)(l:List Pr):D:=.tuple [.int n,.tuple (l.map aq)]
open Classical in
noncomputable def sr (f:Nat->List Pr->FR):D->FR:=fun d=>if h:∃nl:Nat×List Pr,d=au nl.1 nl.2/\OM.Ord nl.1 nl.2 then f (Classical.choose h).1 (Classical.choose h).2 else .bad
theorem D6 {p q:Pr}(h:aq p=aq q):p=q:=by
 obtain⟨a,b⟩:=p
 obtain⟨c,d⟩:=q
 unfold aq at h
 simp at h
 rw[h.1,h.2]
theorem oH:∀{l m:List Pr},l.map aq=m.map aq->l=m
 | [],[],_=>rfl
 | [],_ :: _,h=>by cases h
 |_ :: _,[],h=>by cases h
 |p :: l,q :: m,h=>by
  simp only[map_cons,List.cons.injEq] at h
  rw[D6 h.1,oH h.2]
theorem BJ {n m:Nat}{l k:List Pr}(h:au n l=au m k):n=m/\l=k:=by
 unfold au at h
 simp only[PyData.tuple.injEq,List.cons.injEq,int.injEq,and_true] at h
 exact⟨by omega,oH h.2⟩
theorem wx {f:Nat->List Pr->FR}{n:Nat}{l:List Pr}(O:OM.Ord n l):sr f (au n l)=f n l:=by
 unfold sr
 have h:∃nl:Nat×List Pr,au n l=au nl.1 nl.2/\OM.Ord nl.1 nl.2:=⟨(n,l),rfl,O⟩
 rw[dif_pos h]
 obtain⟨e,_⟩:=Classical.choose_spec h
 obtain⟨e1,e2⟩:=BJ e
 rw[<-e1,<-e2]
theorem wa {f:Nat->List Pr->FR}{d:D}(h:sr f d≠.bad):∃n l,d=au n l/\OM.Ord n l:=by
 unfold sr at h
 by_cases q:∃nl:Nat×List Pr,d=au nl.1 nl.2/\OM.Ord nl.1 nl.2
 ·obtain⟨nl,e,O⟩:=q;exact⟨nl.1,nl.2,e,O⟩
 ·rw[dif_neg q] at h;exact absurd rfl h
noncomputable def du:List D->FR
 | [.int n,d]=>(match ji d with
  |some ds=>(match eB ds with
   |some ps=>(open Classical in if 1<=n/\n<=8/\OM.Wn n.toNat ps then .ok (.tuple ((OM.bR n.toNat (OM.Tr (OM.Mem ps))).map aq)) false else .bad)
   |none=>.bad)
  |none=>.bad)
 |_=>.bad
theorem Cy {n:Nat}{ps:List Pr}(h1:1<=n)(h8:n<=8)(w:OM.Wn n ps):du [.int n,.tuple (ps.map aq)]=.ok (.tuple ((OM.bR n (OM.Tr (OM.Mem ps))).map aq)) false:=by
 unfold du
 simp only[ji,eO]
 rw[if_pos ⟨by omega,by omega,by rw[Int.toNat_natCast];exact w⟩,Int.toNat_natCast]
def lj:List D->FR
 | [.tuple ds]=>(match eB ds with
  |some ps=>if ps.length<=1000 then .ok (.bool (ps.any fun p=>decide (p.1=p.2))) false else .bad
  |none=>.bad)
 |_=>.bad
theorem kh {α:Type}(f:α->Bool):∀l:List α,lD (l.map fun x=>PyData.bool (f x))=some (l.map f)
 | []=>rfl
 |x :: l=>by
  show (lD (l.map fun x=>PyData.bool (f x))).map (f x :: ·)=_
  rw[kh f l];rfl
theorem Gz (ds:List D)(h:lj ds≠.bad):bg 1 1 qu ds=lj ds:=by
 unfold lj at h
 split at h
 ·rename_i ds
  cases q:eB ds with
  |none=>rw[q] at h;exact absurd rfl h
  |some ps=>
   rw[q] at h
   dsimp only at h
   by_cases hz:ps.length<=1000
   case neg=>rw[if_neg hz] at h;exact absurd rfl h
   obtain rfl:=iN q
   have e:lj [.tuple (ps.map aq)]=.ok (.bool (ps.any fun p=>decide (p.1=p.2))) false:=by
    unfold lj;simp only[eO];rw[if_pos hz]
   rw[e]
   have ec:aK 2 [] (.two 0 1) (bw (gv 0)) ki (f2 (gv 0) (gv 1) (bL false)) [.da (.tuple (ps.map aq))] 0=.ok (.list (ps.map fun p=>PyData.bool (decide (p.1=p.2)))) 0:=by
    exact fY (l:=ps) (e:=aq) (fun p=>PyData.bool (decide (p.1=p.2))) rfl hz fun p hp=>⟨_,rfl,rfl⟩
   show fin (toS ((aK 2 [] (.two 0 1) (bw (gv 0)) ki (f2 (gv 0) (gv 1) (bL false)) [.da (.tuple (ps.map aq))] 0).bnd fun x β1=>R.of (dk (fun bs=>bs.any id) x) β1) fun d β'=>.rt d false β')=_
   rw[ec]
   simp only[mE,dk]
   rw[kh]
   simp[fin,List.any_map]
 ·exact absurd rfl h
theorem oi (p:Pr):SeqAt.shaped (aq p)=true:=rfl
theorem tY:∀l:List Pr,PyData.canLayAll0 (l.map aq)=true
 | []=>rfl
 |p :: l=>by
  show ((aq p).canLay0 && PyData.canLayAll0 (l.map aq))=true
  rw[tY l];rfl
theorem pA:∀l:List Pr,PyData.depthAll (l.map aq)<=1
 | []=>by show (0:Nat)<=1;omega
 |p :: l=>by
  show max (aq p).depth (PyData.depthAll (l.map aq))<=1
  have h1:(aq p).depth=1:=by simp[aq,PyData.depth,PyData.depthAll]
  have h2:=pA l
  omega
theorem pS (l:List Pr):SeqAt.shaped (.tuple (l.map aq))=true:=by
 unfold SeqAt.shaped
 have h1:(PyData.tuple (l.map aq)).canLay0=true:=by simp only[PyData.canLay0];exact tY l
 have h2:(PyData.tuple (l.map aq)).depth<=64:=by simp only[PyData.depth];have:=pA l;omega
 rw[h1,decide_eq_true h2];rfl
theorem mU (l:List Pr):SeqAt.shaped (.list (l.map aq))=true:=by
 unfold SeqAt.shaped
 have h1:(PyData.list (l.map aq)).canLay0=true:=by simp only[PyData.canLay0];exact tY l
 have h2:(PyData.list (l.map aq)).depth<=64:=by simp only[PyData.depth];have:=pA l;omega
 rw[h1,decide_eq_true h2];rfl
theorem B4 (p q:Pr):PyData.eqv (aq p) (aq q)=decide (p=q):=by
 obtain⟨a,b⟩:=p
 obtain⟨c,d⟩:=q
 simp only[aq,PyData.eqv,PyData.eqvAll,Bool.and_true]
 rw[Bool.eq_iff_iff]
 simp
theorem pE:∀l m:List Pr,PyData.eqvAll (l.map aq) (m.map aq)=decide (l=m)
 | [],[]=>rfl
 | [],_ :: _=>rfl
 |_ :: _,[]=>rfl
 |p :: l,q :: m=>by
  show (PyData.eqv (aq p) (aq q) && PyData.eqvAll (l.map aq) (m.map aq))=_
  rw[B4,pE l m,Bool.eq_iff_iff]
  simp
theorem sY {n:Nat}{l:List Pr}(O:OM.Ord n l):l.length < 64:=by
 have h8:=O.hi
 have e:=O.closed
 by_cases h:l.length < 64
 ·exact h
 ·exfalso
  have h1:l.length<=n * n:=by rw[<-e];exact OM.vM _ _
  have h2:n * n<=64:=Nat.mul_le_mul h8 h8
  have hn:n=8:=by
   by_cases h7:n<=7
   ·have:n * n<=7 * 7:=Nat.mul_le_mul h7 h7
    omega
   ·omega
  have hlen:l.length=n * n:=by subst hn;omega
  have hg:l=OM.cN n:=by
   refine OM.sub_eq O.ris (OM.g8 n) (fun x hx=>OM.bh.mpr (O.wn x hx)) ?_
   rw[hlen];unfold OM.cN;simp
  have:((0:Int),(0:Int))∈l:=by rw[hg];exact OM.bh.mpr ⟨⟨by omega,by omega⟩,by omega,by omega⟩
  exact O.irr 0 this
theorem A9 {n:Nat}(h1:1<=n)(h8:n<=8):mz [.int n]=.ok (.bool true) false:=by
 rw[BF rfl]
 show FR.ok (.bool (decide (1<=(n:Int)/\(n:Int)<=8))) false=_
 rw[decide_eq_true (by omega)]
theorem A6 (neg:Bool)(l m:List Pr):bL neg (.tuple (l.map aq)) (.tuple (m.map aq))=some (.bool (if neg then !decide (l=m) else decide (l=m))):=by
 unfold bL
 rw[pS,pS]
 simp only[Bool.and_self,if_true,PyData.eqv,pE]
theorem lN (neg:Bool)(l m:List Pr):bL neg (.list (l.map aq)) (.list (m.map aq))=some (.bool (if neg then !decide (l=m) else decide (l=m))):=by
 unfold bL
 rw[mU,mU]
 simp only[Bool.and_self,if_true,PyData.eqv,pE]
theorem CP {n:Nat}{l:List Pr}(O:OM.Ord n l):lj [.tuple (l.map aq)]=.ok (.bool false) false:=by
 have hl:=sY O
 unfold lj
 simp only[eO]
 rw[if_pos (by omega)]
 have:(l.any fun p=>decide (p.1=p.2))=false:=by
  rw[List.any_eq_false]
  intro p hp
  simp only[decide_eq_true_eq]
  intro e
  obtain⟨a,b⟩:=p
  simp only at e
  subst e
  exact O.irr a hp
 rw[this]
theorem zJ {n:Nat}{l:List Pr}(O:OM.Ord n l):bg 3 1 (jb mz pairF du lj) [au n l]=.ok (.bool true) false:=by
 have hl:=sY O
 show fin (jb mz pairF du lj [.fz (au n l),.no,.no] 0)=_
 unfold jb
 rw[ah (env':=[.fz (au n l),.no,.no]) (β':=0) (by rfl)]
 rw[ah (env':=[.fz (au n l),.fz (.int n),.no]) (β':=0) (by rfl)]
 rw[ah (env':=[.fz (au n l),.fz (.int n),.fz (.tuple (l.map aq))]) (β':=0) (by rfl)]
 have e4:aw mz (aa (gv 1) ag) [.da (au n l),.da (.int n),.da (.tuple (l.map aq))] 0=.ok (.bool true) 0:=aI rfl (A9 O.lo O.hi)
 rw[ah (env':=[.fz (au n l),.fz (.int n),.fz (.tuple (l.map aq))]) (β':=0) ?h4]
 case h4=>
  refine cW ?_
  show hZ (nP (iY (aw mz (aa (gv 1) ag)))) _ [.da (au n l),.da (.int n),.da (.tuple (l.map aq))] 0=_
  rw[pB,uc,ux,e4]
  rfl
 have e5:aK 1 [1] (.nm 0) (bw (gv 2)) ki (aw pairF (aa (gv 0) (aa (gv 1) ag))) [.da (au n l),.da (.int n),.da (.tuple (l.map aq))] 0=.ok (.list (l.map fun _=>PyData.bool true)) 0:=by
  refine fY (l:=l) (e:=aq) (fun _=>PyData.bool true) rfl (by omega) fun p hp=>⟨_,rfl,?_⟩
  refine aI (b:=false) (ds:=[aq p,.int n]) rfl ?_
  rw[Bl,decide_eq_true (by have:=O.wn p hp;exact this)]
 rw[ah (env':=[.fz (au n l),.fz (.int n),.fz (.tuple (l.map aq))]) (β':=0) ?h5]
 case h5=>
  refine cW ?_
  show nP (iY (f1 (aK 1 [1] (.nm 0) (bw (gv 2)) ki (aw pairF (aa (gv 0) (aa (gv 1) ag)))) (dk fun bs=>bs.all id))) [.da (au n l),.da (.int n),.da (.tuple (l.map aq))] 0=_
  rw[uc,ux,dh (d:=.bool true) e5 (by simp only[dk];rw[kh];simp)]
  rfl
 have e6:aw du (aa (gv 1) (aa (gv 2) ag)) [.da (au n l),.da (.int n),.da (.tuple (l.map aq))] 0=.ok (.tuple (l.map aq)) 0:=aI rfl (by rw[Cy O.lo O.hi O.wn,O.closed])
 have e7:aw lj (aa (gv 2) ag) [.da (au n l),.da (.int n),.da (.tuple (l.map aq))] 0=.ok (.bool false) 0:=aI rfl (CP O)
 show fin (toS (eJ (f2 (gv 2) (aw du (aa (gv 1) (aa (gv 2) ag))) (bL false)) (f1 (aw lj (aa (gv 2) ag)) Ag) [.da (au n l),.da (.int n),.da (.tuple (l.map aq))] 0) _)=_
 unfold eJ
 rw[aA (d:=.bool true) (x:=.tuple (l.map aq)) rfl e6 (by rw[A6];simp)]
 dsimp only[R.bnd]
 rw[dh (d:=.bool true) e7 rfl]
 rfl
noncomputable def fH:List D->FR
 | [d]=>sr (fun _ _=>.ok (.bool true) false) d
 |_=>.bad
theorem rP {n:Nat}{l:List Pr}(O:OM.Ord n l):fH [au n l]=.ok (.bool true) false:=by simp only[fH];exact wx O
theorem wH (ds:List D)(h:fH ds≠.bad):bg 3 1 (jb mz pairF du lj) ds=fH ds:=by
 unfold fH at h
 split at h
 ·obtain⟨n,l,rfl,O⟩:=wa h
  rw[zJ O,rP O]
 ·exact absurd rfl h
noncomputable def qK:List D->FR
 | [d]=>sr (fun _ _=>.ok .none false) d
 |_=>.bad
theorem AI {n:Nat}{l:List Pr}(O:OM.Ord n l):qK [au n l]=.ok .none false:=by simp only[qK];exact wx O
theorem DK (ds:List D)(h:qK ds≠.bad):bg 1 1 (iB fH) ds=qK ds:=by
 unfold qK at h
 split at h
 ·obtain⟨n,l,rfl,O⟩:=wa h
  rw[AI O]
  have e:aw fH (aa (gv 0) ag) [.da (au n l)] 0=.ok (.bool true) 0:=aI (ds:=[au n l]) rfl (rP O)
  show fin (iB fH [.fz (au n l)] 0)=_
  unfold iB
  rw[cW (β':=0)]
  ·rfl
  ·show nP (iY (aw fH (aa (gv 0) ag))) [.da (au n l)] 0=_
   rw[uc,ux,e];rfl
 ·exact absurd rfl h
abbrev cM (ns:List Int):D:=.dict [(.none,.list (ns.map int))]
theorem nZ {i j:Int}(h: -(2 ^ 64) < i/\i < 2 ^ 64):cJ (.int i) (.int j)=some (.int (i * j)):=if_pos (by dsimp only;rw[decide_eq_true h.1,decide_eq_true h.2];rfl)
theorem yb {i j:Int}(h: -(2 ^ 64) < j/\j < 2 ^ 64):cJ (.int i) (.int j)=some (.int (i * j)):=if_pos (by dsimp only;rw[decide_eq_true h.1,decide_eq_true h.2,Bool.and_self,Bool.or_true])
theorem pV {i j:Int}(h:0 < j):nr (.int i) (.int j)=some (.int (i % j)):=if_pos (decide_eq_true h)
theorem B6 {i j:Int}(h:0 < j)(h2:j < 1073741824):BG (.int i) (.int j)=some (.int (i / j)):=if_pos (by dsimp only;rw[decide_eq_true h,decide_eq_true h2];rfl)
theorem dU {α β:Type}(f:α->β)(l:List α)(i:Int):jT (l.map f) i=(jT l i).map f:=by
 unfold jT
 rw[length_map]
 cases qN l.length i with
 |none=>rfl
 |some j=>simp
theorem jQ {α:Type}{l:List α}{k:Nat}(h:k < l.length):jT l (k:Int)=some l[k]:=nM (getElem?_eq_getElem h)
theorem FH {fa fb:VF D}{vs:List Nv}{β β1 β2:Int}{i j:Int}(h:fa vs β=.ok (.int i) β1)(h':fb vs β1=.ok (.int j) β2):bD (f2 fa fb vL) vs β=.ok (decide (i < j)) β2:=bS _ _ _ _ (aA h h' rfl)
theorem dv {neg:Bool}{fa fb:VF D}{vs:List Nv}{β β1 β2:Int}{i j:Int}(h:fa vs β=.ok (.int i) β1)(h':fb vs β1=.ok (.int j) β2):bD (f2 fa fb (bL neg)) vs β=.ok (if neg then !decide (i=j) else decide (i=j)) β2:=by
 refine bS _ _ _ _ (aA h h' ?_)
 cases neg <;> rfl
theorem Gr (ns:List Int)(k:Nat):∃z,bg 2 2 gZ [cM ns,.int k]=.ok (.int z) false:=by
 show ∃z,fin (gZ [.fz (cM ns),.fz (.int k)] 0)=.ok (.int z) false
 unfold gZ
 have e:bD (f2 (gv 1) (f1 (gv 0) bV) vL) [.da (cM ns),.da (.int k)] 0=.ok (decide ((k:Int) < (ns.map int).length)) 0:=FH rfl rfl
 by_cases h:k < ns.length
 ·refine⟨ns[k],?_⟩
  rw[decide_eq_true (by simp;exact h)] at e
  rw[dI (d:=.int ns[k]) (b:=false) (β':=0)]
  ·rfl
  ·rw[hW e]
   show toS (f2 (gv 0) (gv 1) a8 [.da (cM ns),.da (.int k)] 0) _=_
   rw[aA (x:=cM ns) (y:=.int k) (d:=.int ns[k]) (β1:=0) (β2:=0) rfl rfl]
   ·rfl
   ·show jT (ns.map int) (k:Int)=_
    rw[dU,jQ h];rfl
 ·refine⟨0,?_⟩
  rw[decide_eq_false (by simp;omega)] at e
  rw[ah (env':=[.fz (cM ns),.fz (.int k)]) (β':=0)]
  ·rfl
  ·rw[cW e];rfl
noncomputable def yR:List D->FR:=bg 2 2 gZ
noncomputable def Bw:List D->FR:=bg 4 2 kj
abbrev wY:List Int:=[48271,69621,16807,39373,30269,40014,40692,50021,61687,71993,83869,95561,30307]
theorem HQ (c k:Int):∃z,Bw [.int c,.int k]=.ok (.int z) false:=by
 show ∃z,fin (kj [.fz (.int c),.fz (.int k),.no,.no] 0)=.ok (.int z) false
 unfold kj
 rw[ah (env':=[.fz (.int c),.fz (.int k),.fz (.list (wY.map int)),.no]) (β':=0) (by rfl)]
 obtain⟨j,hj⟩:∃j:Nat,k % 13=j:=⟨(k % 13).toNat,by omega⟩
 have hj13:j < wY.length:=by show j < 13;omega
 have e1:f2 (f2 (f2 (f2 (f2 (gv 0) (cst (.int 2147483647)) nr) (cst (.int 12345)) cc) (f2 (gv 2) (f2 (gv 1) (cst (.int 13)) nr) a8) cJ) (f2 (cst (.int 977)) (gv 1) cJ) cc) (f2 (cst (.int 7919)) (f2 (gv 1) (cst (.int 13)) BG) cJ) cc [.da (.int c),.da (.int k),.da (.list (wY.map int)),.no] 0
   =.ok (.int ((c % 2147483647 + 12345) * wY[j] + 977 * k + 7919 * (k / 13))) 0:=by
  refine aA (aA (aA (aA (aA (x:=.int c) (y:=.int 2147483647) rfl rfl (pV (by omega))) rfl rfl) (aA (x:=.list (wY.map int)) rfl (aA (x:=.int k) (y:=.int 13) rfl rfl (pV (by omega))) (d:=.int wY[j]) ?_) (nZ ⟨by omega,by omega⟩)) (aA (x:=.int 977) (y:=.int k) rfl rfl (nZ ⟨by omega,by omega⟩)) rfl) (aA (x:=.int 7919) rfl (aA (x:=.int k) (y:=.int 13) rfl rfl (B6 (by omega) (by omega))) (nZ ⟨by omega,by omega⟩)) rfl
  show jT (wY.map int) (k % 13)=_
  rw[hj,dU,jQ hj13];rfl
 generalize ((c % 2147483647 + 12345) * wY[j] + 977 * k + 7919 * (k / 13))=st at e1
 rw[ah (env':=[.fz (.int c),.fz (.int k),.fz (.list (wY.map int)),.fz (.int st)]) (β':=0) ?h]
 case h=>
  show toS (f2 _ _ cc [.da (.int c),.da (.int k),.da (.list (wY.map int)),.no] 0) _=_
  rw[e1];rfl
 have e2:f2 (gv 3) (cst (.int 1000000007)) nr [.da (.int c),.da (.int k),.da (.list (wY.map int)),.da (.int st)] 0=.ok (.int (st % 1000000007)) 0:=aA rfl rfl (pV (by omega))
 rw[ah (env':=[.fz (.int c),.fz (.int k),.fz (.list (wY.map int)),.fz (.int (st % 1000000007))]) (β':=0) ?h2]
 case h2=>
  show toS (f2 (gv 3) (cst (.int 1000000007)) nr [.da (.int c),.da (.int k),.da (.list (wY.map int)),.da (.int st)] 0) _=_
  rw[e2];rfl
 have hb: -(2 ^ 64) < st % 1000000007/\st % 1000000007 < 2 ^ 64:=⟨by omega,by omega⟩
 generalize st % 1000000007=u at hb
 have e3:f2 (f2 (f2 (f2 (gv 3) (gv 3) cJ) (f2 (cst (.int 48271)) (gv 1) cJ) cc) (cst (.int 1000000007)) nr) (cst (.int 7)) BG [.da (.int c),.da (.int k),.da (.list (wY.map int)),.da (.int u)] 0=.ok (.int ((u * u + 48271 * k) % 1000000007 / 7)) 0:=
  aA (aA (aA (aA (x:=.int u) (y:=.int u) rfl rfl (nZ hb)) (aA (x:=.int 48271) (y:=.int k) rfl rfl (nZ ⟨by omega,by omega⟩)) rfl) rfl (pV (by omega))) rfl (B6 (by omega) (by omega))
 refine⟨(u * u + 48271 * k) % 1000000007 / 7,?_⟩
 show fin (toS (f2 _ (cst (.int 7)) BG [.da (.int c),.da (.int k),.da (.list (wY.map int)),.da (.int u)] 0) _)=_
 rw[e3];rfl
noncomputable def D3:List D->FR:=bg 5 2 (kE yR Bw)
theorem HW (ns:List Int)(k:Nat):∃z,D3 [cM ns,.int k]=.ok (.list [.int z]) true:=by
 obtain⟨c,hc⟩:=Gr ns k
 show ∃z,fin (kE yR Bw [.fz (cM ns),.fz (.int k),.no,.no,.no] 0)=.ok (.list [.int z]) true
 unfold kE
 have e0:aw yR (aa (gv 0) (aa (gv 1) ag)) [.da (cM ns),.da (.int k),.no,.no,.no] 0=.ok (.int c) 0:=aI rfl hc
 rw[ah (env':=[.fz (cM ns),.fz (.int k),.fz (.int c),.no,.no]) (β':=0) ?h]
 case h=>
  show toS (aw yR _ [.da (cM ns),.da (.int k),.no,.no,.no] 0) _=_
  rw[e0];rfl
 have e1:bD (f2 (f2 (gv 2) (cst (.int 2)) nr) (cst (.int 0)) (bL false)) [.da (cM ns),.da (.int k),.da (.int c),.no,.no] 0=.ok (decide (c % 2=0)) 0:=dv (neg:=false) (aA rfl rfl (pV (by omega))) rfl
 by_cases h:c % 2=0
 ·rw[decide_eq_true h] at e1
  refine⟨(if c < 0 then -c else c) / 2,?_⟩
  rw[dI (d:=.list [.int ((if c < 0 then -c else c) / 2)]) (b:=true) (β':=0)]
  ·rfl
  ·rw[hW e1]
   show toS (bo (aa (f2 (f1 (gv 2) Dt) (cst (.int 2)) BG) ag) [.da (cM ns),.da (.int k),.da (.int c),.no,.no] 0) _=_
   rw[dQ (ds:=[.int ((if c < 0 then -c else c) / 2)]) (β1:=0)]
   ·rfl
   ·have e2:f2 (f1 (gv 2) Dt) (cst (.int 2)) BG [.da (cM ns),.da (.int k),.da (.int c),.no,.no] 0=.ok (.int ((if c < 0 then -c else c) / 2)) 0:=aA (dh (x:=.int c) rfl rfl) rfl (B6 (by omega) (by omega))
    rw[bN,e2];rfl
   ·simp
 ·rw[decide_eq_false h] at e1
  rw[ah (env':=[.fz (cM ns),.fz (.int k),.fz (.int c),.no,.no]) (β':=0) (by rw[cW e1];rfl)]
  rw[ah (env':=[.fz (cM ns),.fz (.int k),.fz (.int c),.fz (.int 0),.no]) (β':=0) (by rfl)]
  obtain⟨env',β',el,z,x,rfl,rfl⟩:=cj (t:=.nm 4) (m:=ba 3 (([] ++ []) ++ ([2] ++ ([4] ++ []))) (f2 (f2 (gv 3) (cst (.int 142857143)) cJ) (aw Bw (aa (gv 2) (aa (gv 4) ag))) cc)) (ds:=cg 0 40) (k:=0)
   (fun _ env β=>∃(z:Int) (x:Sl),env= [.fz (cM ns),.fz (.int k),.fz (.int c),.fz (.int z),x]/\β=0) (env:=[.fz (cM ns),.fz (.int k),.fz (.int c),.fz (.int 0),.no]) (β:=0) ⟨0,.no,rfl,rfl⟩ (by
    rintro i d env β hi ⟨z,x,rfl,rfl⟩
    obtain⟨j,rfl⟩:∃j:Int,d=.int j:=by
     unfold cg at hi
     rw[getElem?_map] at hi
     cases q:(List.range 40)[i]? with
     |none=>rw[q] at hi;cases hi
     |some j=>rw[q] at hi;cases hi;exact⟨_,rfl⟩
    obtain⟨y,hy⟩:=HQ c j
    refine⟨_,rfl,_,_,?_,z * 142857143 + y,.fz (.int j),rfl,rfl⟩
    show toS (f2 (f2 (gv 3) (cst (.int 142857143)) cJ) (aw Bw (aa (gv 2) (aa (gv 4) ag))) cc [.da (cM ns),.da (.int k),.da (.int c),.da (.int z),.da (.int j)] 0) _=_
    rw[aA (d:=.int (z * 142857143 + y)) (aA (x:=.int z) (y:=.int 142857143) (β1:=0) (β2:=0) rfl rfl (yb ⟨by omega,by omega⟩)) (aI (ds:=[.int c,.int j]) (β1:=0) rfl hy) rfl]
    rfl)
  refine⟨z,?_⟩
  rw[ah (env':=[.fz (cM ns),.fz (.int k),.fz (.int c),.fz (.int z),x]) (β':=0) ?h2]
  case h2=>exact el
  show fin (toS (bo (aa (gv 3) ag) [.da (cM ns),.da (.int k),.da (.int c),.da (.int z),x.val] 0) _)=_
  rw[dQ (ds:=[.int z]) (β1:=0) rfl (by simp)]
  rfl
noncomputable def eG:List D->Int->FB:=nD 4 1 (dY bE)
theorem lay_ints:∀ns:List Int,PyData.canLayAll0 (ns.map int)=true
 | []=>rfl
 |n :: ns=>by
  show ((int n).canLay0 && PyData.canLayAll0 (ns.map int))=true
  rw[lay_ints ns];rfl
theorem qw:∀ns:List Int,PyData.depthAll (ns.map int)=0
 | []=>rfl
 |n :: ns=>by
  show max (int n).depth (PyData.depthAll (ns.map int))=0
  rw[qw ns];rfl
theorem shaped_ints (ns:List Int):SeqAt.shaped (.list (ns.map int))=true:=by
 unfold SeqAt.shaped
 have h1:(PyData.list (ns.map int)).canLay0=true:=by simp only[PyData.canLay0];exact lay_ints ns
 have h2:(PyData.list (ns.map int)).depth<=64:=by simp only[PyData.depth];rw[qw];omega
 rw[h1,decide_eq_true h2];rfl
theorem p9:∀l m:List Int,PyData.eqvAll (l.map int) (m.map int)=decide (l=m)
 | [],[]=>rfl
 | [],_ :: _=>rfl
 |_ :: _,[]=>rfl
 |p :: l,q :: m=>by
  show ((p == q) && PyData.eqvAll (l.map int) (m.map int))=_
  rw[p9 l m,Bool.eq_iff_iff]
  simp
theorem lC (neg:Bool)(l m:List Int):bL neg (.list (l.map int)) (.list (m.map int))=some (.bool (if neg then !decide (l=m) else decide (l=m))):=by
 unfold bL
 rw[shaped_ints,shaped_ints]
 simp only[Bool.and_self,if_true,PyData.eqv,p9]
theorem i4 {α:Type}:∀{l:List α} {k:Nat} {x:α},l[k]? =some x->(x :: l.eraseIdx k).Perm l
 | [],_,_,h=>by simp at h
 |y :: l,0,x,h=>by simp at h;subst h;exact List.Perm.refl _
 |y :: l,k + 1,x,h=>by
  have h:l[k]? =some x:=by simpa using h
  have ih:=i4 h
  show (x :: y :: l.eraseIdx k).Perm (y :: l)
  exact (List.Perm.swap y x _).trans (ih.cons y)
theorem rK {α β:Type}(f:α->β):∀(l:List α) (k:Nat),(l.map f).eraseIdx k=(l.eraseIdx k).map f
 | [],_=>rfl
 |_ :: _,0=>rfl
 |x :: l,k + 1=>by simp[rK f l k]
theorem pe (ns:List Int)(hz:ns.length<=100)(β:Int):∃(ms:List Int) (β':Int),eG [.list (ns.map int)] β=.ok (.list (ms.map int)) true β'/\ms.Perm ns:=by
 show ∃(ms:List Int) (β':Int),tE (dY bE [.bx,.fz (.list (ns.map int)),.no,.no] β)=.ok (.list (ms.map int)) true β'/\ms.Perm ns
 unfold dY
 rw[ah (env':=[.bx,.fz (.list (ns.map int)),.ow (.list (ns.map int)),.no]) (β':=β) (by rfl)]
 have ez:bo ag [Nv.bx,.da (.list (ns.map int)),.da (.list (ns.map int)),.no] β=.ok (.list []) β:=dQ rfl (by simp)
 rw[ah (env':=[.bx,.fz (.list (ns.map int)),.ow (.list (ns.map int)),.ow (.list [])]) (β':=β) ?h]
 case h=>
  show toS (bo ag [Nv.bx,.da (.list (ns.map int)),.da (.list (ns.map int)),.no] β) _=_
  rw[ez];rfl
 obtain⟨env',β',ew,ms,rfl,hp⟩:=fV (L:=[] ++ []) (t:=bD (f2 (gv 2) (bo ag) (bL true))) (m:=k9 3 2 ([] ++ []) (fO 0 bE (aa (f1 (gv 2) bV) ag)))
  (fun k env β=>∃ls ms:List Int,env= [.bx,.fz (.list (ns.map int)),.ow (.list (ls.map int)),.ow (.list (ms.map int))]/\(ms ++ ls).Perm ns/\k=ls.length)
  (fun env β=>∃ms:List Int,env= [.bx,.fz (.list (ns.map int)),.ow (.list []),.ow (.list (ms.map int))]/\ms.Perm ns) (n:=1000) (k:=ns.length) (env:=[.bx,.fz (.list (ns.map int)),.ow (.list (ns.map int)),.ow (.list [])]) (β:=β) (by omega) ⟨ns,[],rfl,by simp,rfl⟩ (by
   rintro k env β ⟨ls,ms,rfl,hp,rfl⟩
   have e1:bo ag [Nv.bx,.da (.list (ns.map int)),.da (.list (ls.map int)),.da (.list (ms.map int))] β=.ok (.list (([]:List Int).map int)) β:=dQ rfl (by simp)
   have et:bD (f2 (gv 2) (bo ag) (bL true)) [Nv.bx,.da (.list (ns.map int)),.da (.list (ls.map int)),.da (.list (ms.map int))] β=.ok (!decide (ls= [])) β:=
    bS _ _ _ _ (aA (x:=.list (ls.map int)) rfl e1 (by rw[lC];rfl))
   refine⟨_,_,et,?_⟩
   have hlen:=hp.length_eq
   rw[length_append] at hlen
   cases ls with
   |nil=>exact .inl ⟨rfl,ms,rfl,by simpa using hp⟩
   |cons y ys=>
    refine .inr ⟨rfl,?_⟩
    have hm:(0:Int) < ((y :: ys).length:Nat)/\(((y :: ys).length:Nat):Int) < 1073741824:=by
     have:(y :: ys).length<=100:=by omega
     constructor
     ·simp
     ·omega
    obtain⟨j,hj⟩:∃j:Nat,β % (((y :: ys).length:Nat):Int)=j:=⟨(β % (((y :: ys).length:Nat):Int)).toNat,by have:=Int.emod_nonneg β (b:=(((y :: ys).length:Nat):Int)) (by omega);omega⟩
    have hj2:j < (y :: ys).length:=by have:=Int.emod_lt_of_pos β hm.1;omega
    have ef:fO 0 bE (aa (f1 (gv 2) bV) ag) [Nv.bx,.da (.list (ns.map int)),.da (.list ((y :: ys).map int)),.da (.list (ms.map int))] β=.ok (.int (j:Int)) (β / (((y :: ys).length:Nat):Int)):=by
     refine di (ds:=[.int (((y :: ys).length:Nat):Int)]) (b:=false) (by rfl) ?_ (by rw[uy hm.1 hm.2,hj])
     show R.ok [int ((((y :: ys).map int).length:Nat):Int)] β=_
     rw[length_map]
    have hpop:zC ((y :: ys).map int) (.int (j:Int))=some (.int (y :: ys)[j],((y :: ys).eraseIdx j).map int):=by
     unfold zC
     dsimp only
     rw[if_pos ⟨by omega,by omega⟩]
     have es:seqIndex? (j:Int) ((y :: ys).map int).length=some j:=by
      rw[length_map]
      exact PySem.StrLaws.seqIndex_nonneg (by omega) (by omega)
     rw[es]
     dsimp only
     rw[getElem?_map,getElem?_eq_getElem hj2,rK];rfl
    refine⟨[.bx,.fz (.list (ns.map int)),.ow (.list (((y :: ys).eraseIdx j).map int)),.ow (.list ((ms ++ [(y :: ys)[j]]).map int))],β / (((y :: ys).length:Nat):Int),((y :: ys).eraseIdx j).length,?_,?_,(y :: ys).eraseIdx j,ms ++ [(y :: ys)[j]],rfl,?_,rfl⟩
    ·show k9 3 2 ([] ++ []) (fO 0 bE (aa (f1 (gv 2) bV) ag)) [.bx,.fz (.list (ns.map int)),.ow (.list ((y :: ys).map int)),.ow (.list (ms.map int))] β=_
     rw[xN (ds:=ms.map int) (es:=(y :: ys).map int) (by rfl) (by rfl) (by decide) ef (by rfl) hpop (by rw[length_map];omega),map_append]
     rfl
    ·rw[List.length_eraseIdx]
     rw[if_pos hj2]
     show (y :: ys).length - 1 < (y :: ys).length
     simp
    ·rw[append_assoc]
     exact (List.Perm.append_left ms (i4 (getElem?_eq_getElem hj2))).trans hp)
 refine⟨ms,β',?_,hp⟩
 rw[ah ew]
 rfl
theorem EA {n:Nat}{l:List Pr}(h8:n<=8)(w:OM.Wn n l):OM.bR 8 (OM.Mem l)=OM.bR n (OM.Mem l):=by
 refine OM.gK (OM.cA _ _) (OM.cA _ _) fun x=>?_
 rw[OM.aY,OM.aY]
 constructor
 ·rintro⟨_,h⟩;exact⟨w x h,h⟩
 ·rintro⟨h1,h⟩;exact⟨⟨⟨h1.1.1,by omega⟩,h1.2.1,by omega⟩,h⟩
theorem Di {n:Nat}{l:List Pr}(h1:1<=n)(h8:n<=8)(w:OM.Wn n l)(nd:l.Nodup)(irr:∀a,(a,a)∉l):l.length < 64:=by
 have:=OM.jM (l:=(0,0) :: l) (m:=OM.cN n) (nodup_cons.mpr ⟨irr 0,nd⟩) (fun x hx=>by
  rcases mem_cons.mp hx with e |e
  ·subst e;exact OM.bh.mpr ⟨⟨by simp,by simp;omega⟩,by simp,by simp;omega⟩
  ·exact OM.bh.mpr (w x e))
 have hg:(OM.cN n).length=n * n:=by unfold OM.cN;simp
 have hn:n * n<=64:=Nat.mul_le_mul h8 h8
 rw[hg,length_cons] at this
 omega
theorem AM {n:Nat}{l:List Pr}(h8:n<=8)(w:OM.Wn n l):l.all CD=true:=by
 rw[all_eq_true]
 intro p hp
 have:=w p hp
 unfold CD
 rw[decide_eq_true this.1.1,decide_eq_true (by omega:p.1 < 8),decide_eq_true this.2.1,decide_eq_true (by omega:p.2 < 8)];rfl
theorem oM {n:Nat}{l:List Pr}{d:D}(h8:n<=8)(w:OM.Wn n l)(hl:(OM.bR n (OM.Mem l)).length < 64)(hd:ji d=some (l.map aq)):cX d=some (.list ((OM.bR n (OM.Mem l)).map aq)):=by
 unfold cX
 rw[hd]
 simp only[eO]
 rw[EA h8 w,if_pos ⟨AM h8 w,hl⟩]
def wC (l:List Pr)(p:Pr):List Pr:=(l.filter fun q=>decide (q.1=p.2)).map fun q=>(p.1,q.2)
theorem yE (l:List Pr)(p:Pr):(wC l p).length<=l.length:=by unfold wC;rw[length_map];exact length_filter_le ..
theorem vj (l m:List Pr):(m.flatMap (wC l)).length<=m.length * l.length:=by
 induction m with
 |nil=>simp
 |cons p m ih=>
  rw[List.flatMap_cons,length_append,length_cons,Nat.succ_mul]
  have:=yE l p
  omega
theorem lY {a b:List D}(h:a.length + b.length<=10000):fU (.list a) (.list b)=some (.list (a ++ b)):=if_pos (by rw[sizeLine_eq];omega)
noncomputable def kg:List D->FR:=bg 6 1 gN
theorem zd {n:Nat}{ps:List Pr}(h1:1<=n)(h8:n<=8)(w:OM.Wn n ps)(irr:∀a,¬OM.Tr (OM.Mem ps) a a):kg [.list (ps.map aq)]=.ok (.tuple ((OM.bR n (OM.Tr (OM.Mem ps))).map aq)) false:=by
 have blen:∀{l:List Pr},OM.EH n ps l->l.length < 64:=fun {l} B=>Di h1 h8 B.wn (OM.eY B.ris) fun a ha=>irr a (B.sup _ ha)
 show fin (gN [.fz (.list (ps.map aq)),.no,.no,.no,.no,.no] 0)=_
 unfold gN
 have B0:=OM.zD (ps:=ps) w
 have e0:f1 (gv 0) cX [.da (.list (ps.map aq)),.no,.no,.no,.no,.no] 0=.ok (.list ((OM.bR n (OM.Mem ps)).map aq)) 0:=dh rfl (oM h8 w (blen B0) rfl)
 rw[ah (env':=[.fz (.list (ps.map aq)),.fz (.list ((OM.bR n (OM.Mem ps)).map aq)),.no,.no,.no,.no]) (β':=0) ?h0]
 case h0=>
  show toS (f1 (gv 0) cX [.da (.list (ps.map aq)),.no,.no,.no,.no,.no] 0) _=_
  rw[e0];rfl
 rw[ah (env':=[.fz (.list (ps.map aq)),.fz (.list ((OM.bR n (OM.Mem ps)).map aq)),.fz (.int (-1)),.no,.no,.no]) (β':=0) (by rfl)]
 obtain⟨env',β',ew,rfl,x,sz,a,b,rfl⟩:=fV (L:=[] ++ []) (t:=bD (f2 (gv 2) (f1 (gv 1) bV) (bL true)))
  (m:=aG (ba 2 [] (f1 (gv 1) bV)) (aG (ba 3 [] (bo ag)) (aG (cH (.two 4 5) [1] (bw (gv 1)) (ba 3 ([] ++ ([] ++ [4])) (f2 (gv 3) (aK 2 [5,4] (.two 0 1) (bw (gv 1)) (bD (f2 (gv 0) (gv 2) (bL false))) (bH (aa (gv 3) (aa (gv 1) ag)))) fU))) (ba 1 ([] ++ []) (f1 (f2 (gv 1) (gv 3) fU) cX)))))
  (fun k env β=>β=0/\∃(l:List Pr) (sz:Int) (x a b:Sl),env= [.fz (.list (ps.map aq)),.fz (.list (l.map aq)),.fz (.int sz),x,a,b]/\OM.EH n ps l/\(sz= -1\/∃lp,OM.EH n ps lp/\l=OM.lH n lp/\sz=lp.length)/\k=2 * (64 - l.length) + (if sz=l.length then 0 else 1))
  (fun env β=>β=0/\∃(x sz a b:Sl),env= [.fz (.list (ps.map aq)),.fz (.list ((OM.bR n (OM.Tr (OM.Mem ps))).map aq)),sz,x,a,b])
  (n:=1000) (k:=2 * (64 - (OM.bR n (OM.Mem ps)).length) + (if (-1:Int)=(OM.bR n (OM.Mem ps)).length then 0 else 1)) (env:=[.fz (.list (ps.map aq)),.fz (.list ((OM.bR n (OM.Mem ps)).map aq)),.fz (.int (-1)),.no,.no,.no]) (β:=0)
  (by split <;> omega) ⟨rfl,_,_,_,_,_,rfl,B0,.inl rfl,rfl⟩ (by
   rintro k env β ⟨rfl,l,sz,x,a,b,rfl,B,hsz,rfl⟩
   have hl:=blen B
   have et:bD (f2 (gv 2) (f1 (gv 1) bV) (bL true)) [.da (.list (ps.map aq)),.da (.list (l.map aq)),.da (.int sz),x.val,a.val,b.val] 0=.ok (!decide (sz=((l.map aq).length:Nat))) 0:=dv (neg:=true) rfl rfl
   rw[length_map] at et
   refine⟨_,_,et,?_⟩
   by_cases c:sz=(l.length:Nat)
   ·refine .inl ⟨by rw[decide_eq_true c];rfl,rfl,x,.fz (.int sz),a,b,?_⟩
    rcases hsz with h | ⟨lp,Bp,rfl,h⟩
    ·omega
    ·show [Sl.fz (.list (ps.map aq)),.fz (.list ((OM.lH n lp).map aq)),.fz (.int sz),x,a,b]=_
     rw[OM.AU Bp (by omega)]
   ·refine .inr ⟨by rw[decide_eq_false c];rfl,?_⟩
    obtain⟨B2,hs⟩:=OM.wj B
    have hl2:=blen B2
    have hge:l.length<=(OM.lH n l).length:=OM.jM (OM.eY B.ris) hs
    have eturn:∃x' a' b':Sl,aG (ba 2 [] (f1 (gv 1) bV)) (aG (ba 3 [] (bo ag)) (aG (cH (.two 4 5) [1] (bw (gv 1)) (ba 3 ([] ++ ([] ++ [4])) (f2 (gv 3) (aK 2 [5,4] (.two 0 1) (bw (gv 1)) (bD (f2 (gv 0) (gv 2) (bL false))) (bH (aa (gv 3) (aa (gv 1) ag)))) fU))) (ba 1 ([] ++ []) (f1 (f2 (gv 1) (gv 3) fU) cX)))) [.fz (.list (ps.map aq)),.fz (.list (l.map aq)),.fz (.int sz),x,a,b] 0
      =.nx [.fz (.list (ps.map aq)),.fz (.list ((OM.lH n l).map aq)),.fz (.int (l.length:Nat)),x',a',b'] 0:=by
     rw[ah (env':=[.fz (.list (ps.map aq)),.fz (.list (l.map aq)),.fz (.int (l.length:Nat)),x,a,b]) (β':=0) ?g1]
     case g1=>
      show SO.nx [.fz (.list (ps.map aq)),.fz (.list (l.map aq)),.fz (.int ((l.map aq).length:Nat)),x,a,b] 0=_
      rw[length_map]
     have e3:bo ag [.da (.list (ps.map aq)),.da (.list (l.map aq)),.da (.int (l.length:Nat)),x.val,a.val,b.val] 0=.ok (.list []) 0:=dQ rfl (by simp)
     rw[ah (env':=[.fz (.list (ps.map aq)),.fz (.list (l.map aq)),.fz (.int (l.length:Nat)),.fz (.list []),a,b]) (β':=0) ?g2]
     case g2=>
      show toS (bo ag [.da (.list (ps.map aq)),.da (.list (l.map aq)),.da (.int (l.length:Nat)),x.val,a.val,b.val] 0) _=_
      rw[e3];rfl
     obtain⟨env2,β2,ef,rfl,a2,b2,rfl⟩:=cj (t:=.two 4 5) (m:=ba 3 ([] ++ ([] ++ [4])) (f2 (gv 3) (aK 2 [5,4] (.two 0 1) (bw (gv 1)) (bD (f2 (gv 0) (gv 2) (bL false))) (bH (aa (gv 3) (aa (gv 1) ag)))) fU)) (ds:=l.map aq) (k:=0)
      (fun i env β=>β=0/\∃a b:Sl,env= [.fz (.list (ps.map aq)),.fz (.list (l.map aq)),.fz (.int (l.length:Nat)),.fz (.list (((l.take i).flatMap (wC l)).map aq)),a,b]) (env:=[.fz (.list (ps.map aq)),.fz (.list (l.map aq)),.fz (.int (l.length:Nat)),.fz (.list []),a,b]) (β:=0) ⟨rfl,a,b,rfl⟩ (by
       rintro i d env β hi ⟨rfl,a,b,rfl⟩
       rw[getElem?_map] at hi
       cases q:l[i]? with
       |none=>rw[q] at hi;cases hi
       |some p=>
        rw[q] at hi
        cases hi
        have hil:i < l.length:=(List.getElem?_eq_some_iff.mp q).1
        refine⟨[.fz (.list (ps.map aq)),.fz (.list (l.map aq)),.fz (.int (l.length:Nat)),.fz (.list (((l.take (0 + i)).flatMap (wC l)).map aq)),.fz (.int p.1),.fz (.int p.2)],rfl,[.fz (.list (ps.map aq)),.fz (.list (l.map aq)),.fz (.int (l.length:Nat)),.fz (.list (((l.take (0 + i + 1)).flatMap (wC l)).map aq)),.fz (.int p.1),.fz (.int p.2)],0,?_,rfl,_,_,rfl⟩
        have ec:aK 2 [5,4] (.two 0 1) (bw (gv 1)) (bD (f2 (gv 0) (gv 2) (bL false))) (bH (aa (gv 3) (aa (gv 1) ag))) [.da (.list (ps.map aq)),.da (.list (l.map aq)),.da (.int (l.length:Nat)),.da (.list (((l.take (0 + i)).flatMap (wC l)).map aq)),.da (.int p.1),.da (.int p.2)] 0=.ok (.list ((wC l p).map aq)) 0:=by
         rw[bZ (l:=l) (e:=aq) (fun q=>decide (q.1=p.2)) (fun q=>aq (p.1,q.2)) rfl (by omega) (β1:=0)]
         ·unfold wC;rw[map_map];rfl
         ·intro q hq
          refine⟨_,rfl,dv (neg:=false) (i:=q.1) (j:=p.2) rfl rfl,fun _=>?_⟩
          exact gA (ds:=[.int p.1,.int q.2]) rfl (by simp)
        have hk:(l.take (0 + i)).length<=63:=by rw[length_take];omega
        have hfl:=vj l (l.take (0 + i))
        have hfl2:(l.take (0 + i)).length * l.length<=63 * 63:=Nat.mul_le_mul hk (by omega)
        have hm1:=yE l p
        have e5:f2 (gv 3) (aK 2 [5,4] (.two 0 1) (bw (gv 1)) (bD (f2 (gv 0) (gv 2) (bL false))) (bH (aa (gv 3) (aa (gv 1) ag)))) fU [.da (.list (ps.map aq)),.da (.list (l.map aq)),.da (.int (l.length:Nat)),.da (.list (((l.take (0 + i)).flatMap (wC l)).map aq)),.da (.int p.1),.da (.int p.2)] 0=.ok (.list (((l.take (0 + i + 1)).flatMap (wC l)).map aq)) 0:=by
         refine aA rfl ec ?_
         rw[lY (by rw[length_map,length_map];omega),<-map_append]
         have:l.take (0 + i + 1)=l.take (0 + i) ++ [p]:=by rw[Nat.zero_add,take_add_one,q];rfl
         rw[this,List.flatMap_append,List.flatMap_cons,List.flatMap_nil,append_nil]
        show toS (f2 (gv 3) (aK 2 [5,4] (.two 0 1) (bw (gv 1)) (bD (f2 (gv 0) (gv 2) (bL false))) (bH (aa (gv 3) (aa (gv 1) ag)))) fU [.da (.list (ps.map aq)),.da (.list (l.map aq)),.da (.int (l.length:Nat)),.da (.list (((l.take (0 + i)).flatMap (wC l)).map aq)),.da (.int p.1),.da (.int p.2)] 0) _=_
        rw[e5];rfl)
     rw[Nat.zero_add,length_map,take_of_length_le (Nat.le_refl _)] at ef
     rw[ah (env':=[.fz (.list (ps.map aq)),.fz (.list (l.map aq)),.fz (.int (l.length:Nat)),.fz (.list ((l.flatMap (wC l)).map aq)),a2,b2]) (β':=0) ?g3]
     case g3=>exact ef
     have hfl:=vj l l
     have hfl2:l.length * l.length<=63 * 63:=Nat.mul_le_mul (by omega) (by omega)
     have e6:f1 (f2 (gv 1) (gv 3) fU) cX [.da (.list (ps.map aq)),.da (.list (l.map aq)),.da (.int (l.length:Nat)),.da (.list ((l.flatMap (wC l)).map aq)),a2.val,b2.val] 0=.ok (.list ((OM.lH n l).map aq)) 0:=by
      refine dh (x:=.list ((l ++ OM.more l).map aq)) (aA rfl rfl ?_) (oM h8 (OM.Cu B) hl2 rfl)
      rw[lY (by rw[length_map,length_map];omega),<-map_append];rfl
     refine⟨.fz (.list ((l.flatMap (wC l)).map aq)),a2,b2,?_⟩
     show toS (f1 (f2 (gv 1) (gv 3) fU) cX [.da (.list (ps.map aq)),.da (.list (l.map aq)),.da (.int (l.length:Nat)),.da (.list ((l.flatMap (wC l)).map aq)),a2.val,b2.val] 0) _=_
     rw[e6];rfl
    obtain⟨x',a',b',et2⟩:=eturn
    refine⟨_,_,_,et2,?_,rfl,_,_,_,_,_,rfl,B2,.inr ⟨l,B,rfl,rfl⟩,rfl⟩
    rw[if_neg c]
    split <;> omega)
 rw[ah ew]
 rfl
def vE (ms:List Int)(ps:List Pr):Prop:=∀p,p∈ps->∃i j:Nat,i < j/\ms[i]? =some p.1/\ms[j]? =some p.2
theorem iV {α:Type}:∀{l:List α} {i j:Nat} {x:α},l.Nodup->l[i]? =some x->l[j]? =some x->i=j
 | [],_,_,_,_,h,_=>by simp at h
 |y :: l,0,0,_,_,_,_=>rfl
 |y :: l,0,j + 1,x,nd,h1,h2=>by
  simp at h1
  subst h1
  exact absurd (mem_of_getElem? (by simpa using h2)) (nodup_cons.mp nd).1
 |y :: l,i + 1,0,x,nd,h1,h2=>by
  simp at h2
  subst h2
  exact absurd (mem_of_getElem? (by simpa using h1)) (nodup_cons.mp nd).1
 |y :: l,i + 1,j + 1,x,nd,h1,h2=>by
  rw[iV (l:=l) (i:=i) (j:=j) (nodup_cons.mp nd).2 (by simpa using h1) (by simpa using h2)]
theorem Cm {ms:List Int}{ps:List Pr}(nd:ms.Nodup)(h:vE ms ps){a b:Int}(t:OM.Tr (OM.Mem ps) a b):∃i j:Nat,i < j/\ms[i]? =some a/\ms[j]? =some b:=by
 refine t.least (S:=fun a b=>∃i j:Nat,i < j/\ms[i]? =some a/\ms[j]? =some b) (fun a b r=>h _ r) ?_
 rintro a b c ⟨i,j,hij,h1,h2⟩ ⟨k,l,hkl,h3,h4⟩
 have:=iV nd h2 h3
 exact⟨i,l,by omega,h1,h4⟩
theorem z5 {ms:List Int}{ps:List Pr}(nd:ms.Nodup)(h:vE ms ps)(a:Int):¬OM.Tr (OM.Mem ps) a a:=fun t=>by
 obtain⟨i,j,hij,h1,h2⟩:=Cm nd h t
 have:=iV nd h1 h2
 omega
def dm (n:Nat):List Int:=(List.range n).map fun (k:Nat)=>(k:Int)
theorem dg (n:Nat):(dm n).length=n:=by unfold dm;simp
theorem bF {n:Nat}{x:Int}:x∈dm n↔0<=x/\x < n:=by
 unfold dm
 rw[mem_map]
 constructor
 ·rintro⟨k,hk,rfl⟩
  have:=mem_range.mp hk
  omega
 ·intro h
  exact⟨x.toNat,mem_range.mpr (by omega),by omega⟩
theorem mf (n:Nat):(dm n).Nodup:=by
 unfold dm
 rw[nodup_iff_pairwise_ne,pairwise_map]
 exact (nodup_iff_pairwise_ne.mp nodup_range).imp fun {a b} h e=>h (by omega)
theorem oB (n:Nat):cg 0 n=(dm n).map int:=by
 unfold cg dm
 rw[map_map]
 refine map_congr_left fun k _=>?_
 show int (0 + (k:Int))=_
 rw[Int.zero_add];rfl
theorem fM {lo:Int}{n i:Nat}{d:D}(h:(cg lo n)[i]? =some d):i < n/\d=.int (lo + i):=by
 unfold cg at h
 rw[getElem?_map] at h
 cases q:(List.range n)[i]? with
 |none=>rw[q] at h;cases h
 |some j=>
  rw[q] at h
  cases h
  obtain⟨hi,ej⟩:=List.getElem?_eq_some_iff.mp q
  rw[length_range] at hi
  rw[List.getElem_range] at ej
  subst ej
  exact⟨hi,rfl⟩
theorem jB {n:Nat}(h:n<=1000):cf (.int n)=some (.list ((dm n).map int)):=by
 unfold cf
 dsimp only
 rw[if_pos ⟨by omega,by omega⟩,Int.toNat_natCast,oB]
theorem cU {fa:VF D}{vs:List Nv}{β β1:Int}{n:Nat}(h:fa vs β=.ok (.int n) β1)(hn:n<=1000):bX fa vs β=.ok (cg 0 n) β1:=by
 unfold bX
 rw[h]
 simp only[mE]
 rw[if_pos (nX (by omega) (by omega)),Int.toNat_natCast]
theorem Bz {fa fb:VF D}{vs:List Nv}{β β1 β2:Int}{i j:Int}(h:fa vs β=.ok (.int i) β1)(h':fb vs β1=.ok (.int j) β2)(hi:0<=i/\i<=1000)(hj:0<=j/\j<=1000):sv fa fb vs β=.ok (cg i (j - i).toNat) β2:=by
 unfold sv
 rw[h]
 simp only[mE]
 rw[h']
 simp only[mE]
 rw[if_pos (by rw[nX (by omega) (by omega),nX (by omega) (by omega)];rfl)]
theorem b8 {t:Tg}{L:List Nat}{fi:VF (List D)}{m:SF}{env:En}{β β1:Int}{ds:List D}(h:fi (vl env) β=.ok ds β1):cH t L fi m env β=lu t m ds (bp L env) β1:=by unfold cH;rw[h];rfl
noncomputable def pw:List D->Int->FB:=nD 8 1 (iw kg bE eG)
theorem z7 {n:Nat}{ms:List Int}{ps:List Pr}(h1:1<=n)(h8:n<=8)(hp:ms.Perm (dm n))(ha:vE ms ps):OM.Wn n ps/\(∀a,¬OM.Tr (OM.Mem ps) a a)/\OM.Ord n (OM.bR n (OM.Tr (OM.Mem ps))):=by
 have nd:ms.Nodup:=hp.nodup_iff.mpr (mf n)
 have w:OM.Wn n ps:=fun p hm=>by
  obtain⟨i,j,_,e1,e2⟩:=ha p hm
  have m1:=bF.mp (hp.mem_iff.mp (mem_of_getElem? e1))
  have m2:=bF.mp (hp.mem_iff.mp (mem_of_getElem? e2))
  exact⟨m1,m2⟩
 have ir:=fun a=>z5 nd ha a
 exact⟨w,ir,OM.Fi h1 h8 w ir⟩
theorem fJ {m:Nat}(h:1<=m)(h2:m<=1000)(β:Int):∃j:Nat,j < m/\bE [.int m] β=.ok (.int (j:Int)) false (β / m):=by
 refine⟨(β % m).toNat,?_,?_⟩
 ·have h0:=Int.emod_nonneg β (b:=(m:Int)) (by omega)
  have h3:=Int.emod_lt_of_pos β (b:=(m:Int)) (by omega)
  omega
 ·rw[uy (by omega) (by omega)]
  have h0:=Int.emod_nonneg β (b:=(m:Int)) (by omega)
  rw[show ((β % m).toNat:Int)=β % m by omega]
theorem Bh {most:Nat}(hm1:1<=most)(hm8:most<=8)(β:Int):∃(n:Nat) (l:List Pr) (β':Int),pw [.int most] β=.ok (au n l) false β'/\OM.Ord n l/\n<=most:=by
 obtain⟨j,hj,ej⟩:=fJ hm1 (by omega) β
 show ∃(n:Nat) (l:List Pr) (β':Int),tE (iw kg bE eG [.bx,.fz (.int most),.no,.no,.no,.no,.no,.no] β)=.ok (au n l) false β'/\OM.Ord n l/\n<=most
 unfold iw
 generalize hβ1:β / (most:Int)=β1 at ej
 have n8:1 + j<=8:=by omega
 have e1:f2 (cst (.int 1)) (fO 0 bE (aa (gv 1) ag)) cc [Nv.bx,.da (.int most),.no,.no,.no,.no,.no,.no] β=.ok (.int ((1 + j:Nat):Int)) β1:=by
  refine aA (x:=.int 1) rfl (di (by rfl) rfl ej) ?_
  show some (int (1 + (j:Int)))=_
  rw[show ((1 + j:Nat):Int)=1 + (j:Int) by omega]
 rw[ah (env':=[.bx,.fz (.int most),.fz (.int ((1 + j:Nat):Int)),.no,.no,.no,.no,.no]) (β':=β1) ?g1]
 case g1=>
  show toS (f2 (cst (.int 1)) (fO 0 bE (aa (gv 1) ag)) cc [Nv.bx,.da (.int most),.no,.no,.no,.no,.no,.no] β) _=_
  rw[e1];rfl
 generalize hn:1 + j=n at n8
 have n1:1<=n:=by omega
 obtain⟨ms,β2,em,hp⟩:=pe (dm n) (by rw[dg];omega) β1
 have hml:ms.length=n:=by rw[hp.length_eq,dg]
 have e2:fO 0 eG (aa (f1 (gv 2) cf) ag) [Nv.bx,.da (.int most),.da (.int n),.no,.no,.no,.no,.no] β1=.ok (.list (ms.map int)) β2:=by
  refine di (ds:=[.list ((dm n).map int)]) (b:=true) (β1:=β1) (by rfl) ?_ em
  rw[bN,dh (x:=.int n) (d:=.list ((dm n).map int)) (β1:=β1) rfl (jB (by omega))];rfl
 rw[ah (env':=[.bx,.fz (.int most),.fz (.int n),.fz (.list (ms.map int)),.no,.no,.no,.no]) (β':=β2) ?g2]
 case g2=>
  show toS (fO 0 eG (aa (f1 (gv 2) cf) ag) [Nv.bx,.da (.int most),.da (.int n),.no,.no,.no,.no,.no] β1) _=_
  rw[e2];rfl
 obtain⟨q,hq,eq⟩:=fJ (m:=4) (by omega) (by omega) β2
 obtain⟨th,hth,hthv⟩:∃th:Nat,([2,3,4,7]:List Nat)[q]? =some th/\1<=th/\th<=7:=by
  rcases (show q=0\/q=1\/q=2\/q=3 by omega) with rfl |rfl |rfl |rfl
  ·exact⟨2,rfl,by omega,by omega⟩
  ·exact⟨3,rfl,by omega,by omega⟩
  ·exact⟨4,rfl,by omega,by omega⟩
  ·exact⟨7,rfl,by omega,by omega⟩
 generalize hβ3:β2 / ((4:Nat):Int)=β3 at eq
 have e3:f2 (bo (aa (cst (.int 2)) (aa (cst (.int 3)) (aa (cst (.int 4)) (aa (cst (.int 7)) ag))))) (fO 0 bE (aa (cst (.int 4)) ag)) a8 [Nv.bx,.da (.int most),.da (.int n),.da (.list (ms.map int)),.no,.no,.no,.no] β2=.ok (.int th) β3:=by
  refine aA (x:=.list (([2,3,4,7]:List Nat).map fun (k:Nat)=>int (k:Int))) (y:=.int q) (dQ rfl (by simp)) (di (ds:=[.int 4]) (by rfl) rfl eq) ?_
  show jT (([2,3,4,7]:List Nat).map fun (k:Nat)=>int (k:Int)) (q:Int)=_
  rw[dU,nM hth];rfl
 rw[ah (env':=[.bx,.fz (.int most),.fz (.int n),.fz (.list (ms.map int)),.fz (.int th),.no,.no,.no]) (β':=β3) ?g3]
 case g3=>
  show toS (f2 (bo (aa (cst (.int 2)) (aa (cst (.int 3)) (aa (cst (.int 4)) (aa (cst (.int 7)) ag))))) (fO 0 bE (aa (cst (.int 4)) ag)) a8 [Nv.bx,.da (.int most),.da (.int n),.da (.list (ms.map int)),.no,.no,.no,.no] β2) _=_
  rw[e3];rfl
 have e4:bo ag [Nv.bx,.da (.int most),.da (.int n),.da (.list (ms.map int)),.da (.int th),.no,.no,.no] β3=.ok (.list []) β3:=dQ rfl (by simp)
 rw[ah (env':=[.bx,.fz (.int most),.fz (.int n),.fz (.list (ms.map int)),.fz (.int th),.ow (.list []),.no,.no]) (β':=β3) ?g4]
 case g4=>
  show toS (bo ag [Nv.bx,.da (.int most),.da (.int n),.da (.list (ms.map int)),.da (.int th),.no,.no,.no] β3) _=_
  rw[e4];rfl
 obtain⟨env',β',ef,ps,a,b,rfl,hal,hpl⟩:=cj (t:=.nm 6) (m:=cH (.nm 7) (([] ++ []) ++ []) (sv (f2 (gv 6) (cst (.int 1)) cc) (gv 2))
   (jS (([4] ++ []) ++ []) (bD (f2 (fO 0 bE (aa (gv 4) ag)) (cst (.int 0)) (bL false)))
   (ij 5 (([] ++ []) ++ (([] ++ []) ++ [])) (bH (aa (f2 (gv 3) (gv 6) a8) (aa (f2 (gv 3) (gv 7) a8) ag)))) lh)) (ds:=cg 0 n) (k:=0)
  (fun i env β=>∃(ps:List Pr) (a b:Sl),env= [.bx,.fz (.int most),.fz (.int n),.fz (.list (ms.map int)),.fz (.int th),.ow (.list (ps.map aq)),a,b]/\vE ms ps/\ps.length<=8 * i)
  (env:=[.bx,.fz (.int most),.fz (.int n),.fz (.list (ms.map int)),.fz (.int th),.ow (.list []),.no,.no]) (β:=β3) ⟨[],.no,.no,rfl,fun p hp=>(by cases hp),by simp⟩ (by
   rintro i d env β hi ⟨ps,a,b,rfl,hal,hpl⟩
   obtain⟨hin,rfl⟩:=fM hi
   refine⟨[.bx,.fz (.int most),.fz (.int n),.fz (.list (ms.map int)),.fz (.int th),.ow (.list (ps.map aq)),.fz (.int (0 + (i:Int))),b],rfl,?_⟩
   have er:sv (f2 (gv 6) (cst (.int 1)) cc) (gv 2) [Nv.bx,.da (.int most),.da (.int n),.da (.list (ms.map int)),.da (.int th),.da (.list (ps.map aq)),.da (.int (0 + (i:Int))),b.val] β=.ok (cg (0 + (i:Int) + 1) ((n:Int) - (0 + (i:Int) + 1)).toNat) β:=Bz rfl rfl ⟨by omega,by omega⟩ ⟨by omega,by omega⟩
   rw[b8 (env:=[.bx,.fz (.int most),.fz (.int n),.fz (.list (ms.map int)),.fz (.int th),.ow (.list (ps.map aq)),.fz (.int (0 + (i:Int))),b]) er]
   obtain⟨env',β',ef,qs,b,rfl,hal2,hql⟩:=cj (t:=.nm 7) (m:=jS (([4] ++ []) ++ []) (bD (f2 (fO 0 bE (aa (gv 4) ag)) (cst (.int 0)) (bL false)))
     (ij 5 (([] ++ []) ++ (([] ++ []) ++ [])) (bH (aa (f2 (gv 3) (gv 6) a8) (aa (f2 (gv 3) (gv 7) a8) ag)))) lh) (ds:=cg (0 + (i:Int) + 1) ((n:Int) - (0 + (i:Int) + 1)).toNat) (k:=0)
    (fun k env β=>∃(qs:List Pr) (b:Sl),env= [.bx,.fz (.int most),.fz (.int n),.fz (.list (ms.map int)),.fz (.int th),.ow (.list (qs.map aq)),.fz (.int (0 + (i:Int))),b]/\vE ms qs/\qs.length<=8 * i + k)
    (env:=[.bx,.fz (.int most),.fz (.int n),.fz (.list (ms.map int)),.fz (.int th),.ow (.list (ps.map aq)),.fz (.int (0 + (i:Int))),b]) (β:=β) ⟨ps,b,rfl,hal,by omega⟩ (by
     rintro k d env β hk ⟨qs,b,rfl,hal,hql⟩
     obtain⟨hkn,rfl⟩:=fM hk
     have hkn:i + 1 + k < n:=by omega
     refine⟨[.bx,.fz (.int most),.fz (.int n),.fz (.list (ms.map int)),.fz (.int th),.ow (.list (qs.map aq)),.fz (.int (0 + (i:Int))),.fz (.int (0 + (i:Int) + 1 + (k:Int)))],rfl,?_⟩
     obtain⟨z,hz,ez⟩:=fJ hthv.1 (by omega) β
     have et:bD (f2 (fO 0 bE (aa (gv 4) ag)) (cst (.int 0)) (bL false)) [Nv.bx,.da (.int most),.da (.int n),.da (.list (ms.map int)),.da (.int th),.da (.list (qs.map aq)),.da (.int (0 + (i:Int))),.da (.int (0 + (i:Int) + 1 + (k:Int)))] β=.ok (decide ((z:Int)=0)) (β / th):=dv (neg:=false) (di (ds:=[.int th]) (by rfl) rfl ez) rfl
     by_cases c:(z:Int)=0
     ·rw[decide_eq_true c] at et
      have h1:i < ms.length:=by omega
      have h2:i + 1 + k < ms.length:=by omega
      refine⟨[.bx,.fz (.int most),.fz (.int n),.fz (.list (ms.map int)),.fz (.int th),.ow (.list ((qs ++ [(ms[i],ms[i + 1 + k])]).map aq)),.fz (.int (0 + (i:Int))),.fz (.int (0 + (i:Int) + 1 + (k:Int)))],β / th,?_,qs ++ [(ms[i],ms[i + 1 + k])],_,rfl,?_,?_⟩
      ·rw[hW et]
       have ep:bH (aa (f2 (gv 3) (gv 6) a8) (aa (f2 (gv 3) (gv 7) a8) ag)) [Nv.bx,.da (.int most),.da (.int n),.da (.list (ms.map int)),.da (.int th),.da (.list (qs.map aq)),.da (.int (0 + (i:Int))),.da (.int (0 + (i:Int) + 1 + (k:Int)))] (β / th)=.ok (aq (ms[i],ms[i + 1 + k])) (β / th):=by
        refine gA (ds:=[.int ms[i],.int ms[i + 1 + k]]) ?_ (by simp)
        have a1:f2 (gv 3) (gv 6) a8 [Nv.bx,.da (.int most),.da (.int n),.da (.list (ms.map int)),.da (.int th),.da (.list (qs.map aq)),.da (.int (0 + (i:Int))),.da (.int (0 + (i:Int) + 1 + (k:Int)))] (β / th)=.ok (.int ms[i]) (β / th):=by
         refine aA rfl rfl ?_
         show jT (ms.map int) (0 + (i:Int))=_
         rw[Int.zero_add,dU,jQ h1];rfl
        have a2:f2 (gv 3) (gv 7) a8 [Nv.bx,.da (.int most),.da (.int n),.da (.list (ms.map int)),.da (.int th),.da (.list (qs.map aq)),.da (.int (0 + (i:Int))),.da (.int (0 + (i:Int) + 1 + (k:Int)))] (β / th)=.ok (.int ms[i + 1 + k]) (β / th):=by
         refine aA rfl rfl ?_
         show jT (ms.map int) (0 + (i:Int) + 1 + (k:Int))=_
         rw[show (0 + (i:Int) + 1 + (k:Int))=((i + 1 + k:Nat):Int) by omega,dU,jQ h2];rfl
        rw[bN,a1]
        dsimp only[R.bnd]
        rw[bN,a2];rfl
       have:=jm (i:=5) (L:=([] ++ []) ++ (([] ++ []) ++ [])) (env:=[.bx,.fz (.int most),.fz (.int n),.fz (.list (ms.map int)),.fz (.int th),.ow (.list (qs.map aq)),.fz (.int (0 + (i:Int))),.fz (.int (0 + (i:Int) + 1 + (k:Int)))]) (ds:=qs.map aq) (by rfl) ep (by rfl) (by rw[length_map];omega)
       rw[map_append]
       exact this
      ·intro p hp
       rcases mem_append.mp hp with hp |hp
       ·exact hal p hp
       ·have:p=(ms[i],ms[i + 1 + k]):=by simpa using hp
        subst this
        exact⟨i,i + 1 + k,by omega,getElem?_eq_getElem h1,getElem?_eq_getElem h2⟩
      ·rw[length_append];simp;omega
     ·rw[decide_eq_false c] at et
      refine⟨_,_,by rw[cW et];rfl,qs,_,rfl,hal,by omega⟩)
   have hlen:(cg (0 + (i:Int) + 1) ((n:Int) - (0 + (i:Int) + 1)).toNat).length<=7:=by rw[dN];omega
   exact⟨_,_,ef,qs,_,b,rfl,hal2,by omega⟩)
 rw[ah (env':=[.bx,.fz (.int most),.fz (.int n),.fz (.list (ms.map int)),.fz (.int th),.ow (.list (ps.map aq)),a,b]) (β':=β') ?g5]
 case g5=>
  rw[b8 (env:=[.bx,.fz (.int most),.fz (.int n),.fz (.list (ms.map int)),.fz (.int th),.ow (.list []),.no,.no]) (cU (n:=n) rfl (by omega))]
  exact ef
 obtain⟨w,ir,O⟩:=z7 n1 n8 hp hal
 refine⟨n,OM.bR n (OM.Tr (OM.Mem ps)),β',?_,O,by omega⟩
 have e9:bH (aa (gv 2) (aa (aw kg (aa (gv 5) ag)) ag)) [Nv.bx,.da (.int most),.da (.int n),.da (.list (ms.map int)),.da (.int th),.da (.list (ps.map aq)),a.val,b.val] β'=.ok (au n (OM.bR n (OM.Tr (OM.Mem ps)))) β':=by
  refine gA (ds:=[.int n,.tuple ((OM.bR n (OM.Tr (OM.Mem ps))).map aq)]) ?_ (by simp)
  have a1:aw kg (aa (gv 5) ag) [Nv.bx,.da (.int most),.da (.int n),.da (.list (ms.map int)),.da (.int th),.da (.list (ps.map aq)),a.val,b.val] β'=.ok (.tuple ((OM.bR n (OM.Tr (OM.Mem ps))).map aq)) β':=aI rfl (zd n1 n8 w ir)
  rw[bN]
  show (R.ok (int n) β').bnd _=_
  dsimp only[R.bnd]
  rw[bN,a1];rfl
 show tE (toS (bH (aa (gv 2) (aa (aw kg (aa (gv 5) ag)) ag)) [Nv.bx,.da (.int most),.da (.int n),.da (.list (ms.map int)),.da (.int th),.da (.list (ps.map aq)),a.val,b.val] β') _)=_
 rw[e9];rfl
theorem tS (p:Pr):∀l:List Pr,((l.map aq).any fun e=>PyData.eqv e (aq p))=decide (p∈l)
 | []=>rfl
 |q :: l=>by
  rw[map_cons,any_cons,tS p l,B4,Bool.eq_iff_iff]
  simp only[Bool.or_eq_true,decide_eq_true_eq,mem_cons]
  exact⟨fun h=>h.imp Eq.symm id,fun h=>h.imp Eq.symm id⟩
theorem yA (l:List Pr):(l.map aq).all SeqAt.shaped=true:=by
 rw[all_eq_true]
 intro d hd
 obtain⟨p,_,rfl⟩:=mem_map.mp hd
 exact oi p
theorem tJ (neg:Bool)(p:Pr)(l:List Pr):lb neg (aq p) (.tuple (l.map aq))=some (.bool (if neg then !decide (p∈l) else decide (p∈l))):=by
 unfold lb
 simp only[ji,oi,yA,Bool.and_self,if_true,tS]
theorem uf (neg:Bool)(p:Pr)(l:List Pr):lb neg (aq p) (.list (l.map aq))=some (.bool (if neg then !decide (p∈l) else decide (p∈l))):=by
 unfold lb
 simp only[ji,oi,yA,Bool.and_self,if_true,tS]
theorem nC (neg:Bool)(i j:Int):bL neg (.int i) (.int j)=some (.bool (if neg then !decide (i=j) else decide (i=j))):=rfl
theorem uF {fa fb:VF D}{vs:List Nv}{β:Int}{a b:Bool}(h:fa vs β=.ok (.bool a) β)(h':fb vs β=.ok (.bool b) β):eJ fa fb vs β=.ok (.bool (a && b)) β:=by
 unfold eJ
 rw[h]
 dsimp only[R.bnd]
 cases a with
 |true=>exact h'
 |false=>rfl
theorem jf {fa fb:VF D}{vs:List Nv}{β:Int}{a b:Int}(h:fa vs β=.ok (.int a) β)(h':fb vs β=.ok (.int b) β):bH (aa fa (aa fb ag)) vs β=.ok (aq (a,b)) β:=by
 refine gA (ds:=[.int a,.int b]) ?_ (by simp)
 rw[bN,h]
 dsimp only[R.bnd]
 rw[bN,h'];rfl
def xr (l:List Pr)(p:Pr):Bool:= !decide (p.1=p.2) && (!decide ((p.1,p.2)∈l) && !decide ((p.2,p.1)∈l))
theorem Jc {n:Nat}{l:List Pr}{fa:VF D}{vs:List Nv}{β:Int}(h:fa vs β=.ok (au n l) β):f2 fa (cst (.int 1)) a8 vs β=.ok (.tuple (l.map aq)) β:=aA h rfl rfl
theorem G9 {n:Nat}{l:List Pr}{fa:VF D}{vs:List Nv}{β:Int}(h:fa vs β=.ok (au n l) β):f2 fa (cst (.int 0)) a8 vs β=.ok (.int n) β:=aA h rfl rfl
def JT:List D->FR:=bg 3 3 oE
def xc:List D->FR:=bg 3 3 nA
theorem HA (n:Nat)(l:List Pr)(a b:Int):JT [au n l,.int a,.int b]=.ok (.bool (xr l (a,b))) false:=by
 show fin (toS (eJ (f2 (gv 1) (gv 2) (bL true)) (eJ (f2 (bH (aa (gv 1) (aa (gv 2) ag))) (f2 (gv 0) (cst (.int 1)) a8) (lb true)) (f2 (bH (aa (gv 2) (aa (gv 1) ag))) (f2 (gv 0) (cst (.int 1)) a8) (lb true))) [.da (au n l),.da (.int a),.da (.int b)] 0) _)=_
 rw[uF (aA (x:=.int a) (y:=.int b) rfl rfl (nC true a b)) (uF (aA (jf (a:=a) (b:=b) rfl rfl) (Jc (n:=n) (l:=l) rfl) (tJ true (a,b) l)) (aA (jf (a:=b) (b:=a) rfl rfl) (Jc (n:=n) (l:=l) rfl) (tJ true (b,a) l)))]
 rfl
theorem HK (n:Nat)(l:List Pr)(a b:Int):xc [au n l,.int a,.int b]=.ok (.bool (xr l (a,b))) false:=HA n l a b
def iR (n:Nat)(l:List Pr):List Pr:=(OM.cN n).filter (xr l)
theorem hG (n:Nat):(OM.cN n).length=n * n:=by unfold OM.cN;simp
theorem kG {n:Nat}{l:List Pr}{p:Pr}:p∈iR n l↔((0<=p.1/\p.1 < n)/\(0<=p.2/\p.2 < n))/\xr l p=true:=by
 unfold iR;rw[mem_filter,OM.bh]
theorem hU {fa:VF D}{vs:List Nv}{β:Int}{c:Bool}(h:fa vs β=.ok (.bool c) β):iY fa vs β=.ok c β:=by rw[ux,h];rfl
theorem qE {t u:VF Bool}{vs:List Nv}{β:Int}{a b:Bool}(h:t vs β=.ok a β)(h':u vs β=.ok b β):sH t u vs β=.ok (a && b) β:=by
 rw[AG,h];dsimp only[R.bnd]
 cases a with
 |true=>rw[if_pos rfl,h'];rfl
 |false=>rfl
theorem D4 {t u:VF Bool}{vs:List Nv}{β:Int}{a b:Bool}(h:t vs β=.ok a β)(h':u vs β=.ok b β):hZ t u vs β=.ok (a || b) β:=by
 rw[pB,h];dsimp only[R.bnd]
 cases a with
 |true=>rfl
 |false=>rw[if_neg Bool.false_ne_true,h'];rfl
theorem cu {t:VF Bool}{vs:List Nv}{β:Int}{a:Bool}(h:t vs β=.ok a β):nP t vs β=.ok (!a) β:=by rw[uc,h];rfl
theorem BQ (n:Nat):(dm n).Pairwise (· < ·):=by
 unfold dm
 rw[pairwise_map]
 exact List.pairwise_lt_range.imp fun {a b} h=>by omega
def upTo (n:Nat)(f:Pr->Bool)(i k:Nat):List Pr:=(OM.cN n).filter fun p=>(decide (p.1 < i) || (decide (p.1=i) && decide (p.2 < k))) && f p
theorem AH {n:Nat}(f:Pr->Bool)(i k:Nat)(h8:n<=8):(upTo n f i k).length<=64:=by
 have h1:(upTo n f i k).length<=(OM.cN n).length:=length_filter_le _ _
 rw[hG] at h1
 have:n * n<=64:=Nat.mul_le_mul h8 h8
 omega
theorem zh (n:Nat)(f:Pr->Bool):upTo n f 0 0= []:=by
 unfold upTo
 rw[filter_eq_nil_iff]
 intro p hp
 have:=OM.bh.mp hp
 rw[decide_eq_false (by omega),decide_eq_false (p:=p.2 < ((0:Nat):Int)) (by omega)];simp
theorem AW (n:Nat)(f:Pr->Bool):upTo n f n 0=(OM.cN n).filter f:=by
 unfold upTo
 refine filter_congr fun p hp=>?_
 have:=(OM.bh.mp hp).1.2
 rw[decide_eq_true this];simp
theorem Bg (n:Nat)(f:Pr->Bool)(i:Nat):upTo n f i n=upTo n f (i + 1) 0:=by
 unfold upTo
 refine filter_congr fun p hp=>?_
 have h:=OM.bh.mp hp
 congr 1
 rw[Bool.eq_iff_iff]
 simp only[Bool.or_eq_true,Bool.and_eq_true,decide_eq_true_eq]
 omega
theorem sk {n i k:Nat}(f:Pr->Bool)(hi:i < n)(hk:k < n):upTo n f i (k + 1)=upTo n f i k ++ if f ((i:Int),(k:Int))=true then [((i:Int),(k:Int))] else []:=by
 refine OM.gK (OM.eQ _ (OM.g8 n)) ?_ fun x=>?_
 ·show List.Pairwise OM.CF _
  rw[List.pairwise_append]
  refine⟨OM.eQ _ (OM.g8 n),?_,fun p hp q hq=>?_⟩
  ·split <;> simp
  ·unfold upTo at hp
   have h1:=(mem_filter.mp hp).2
   simp only[Bool.or_eq_true,Bool.and_eq_true,decide_eq_true_eq] at h1
   split at hq
   ·have:q=((i:Int),(k:Int)):=by simpa using hq
    subst this
    show p.1 < (i:Int)\/(p.1=(i:Int)/\p.2 < (k:Int))
    exact h1.1
   ·cases hq
 ·rw[mem_append]
  unfold upTo
  rw[mem_filter,mem_filter,OM.bh]
  simp only[Bool.or_eq_true,Bool.and_eq_true,decide_eq_true_eq]
  constructor
  ·rintro⟨h1,h2,h3⟩
   by_cases z:x.1=i/\x.2=k
   ·obtain⟨xa,xb⟩:=x
    simp only at z h3
    obtain⟨rfl,rfl⟩:=z
    rw[if_pos h3]
    exact .inr (mem_singleton.mpr rfl)
   ·exact .inl ⟨h1,by omega,h3⟩
  ·rintro (⟨h1,h2,h3⟩ |h)
   ·exact⟨h1,by omega,h3⟩
   ·split at h
    ·rename_i hf
     have:x=((i:Int),(k:Int)):=by simpa using h
     subst this
     exact⟨⟨⟨by show (0:Int)<=(i:Int);omega,by show (i:Int) < n;omega⟩,by show (0:Int)<=(k:Int);omega,by show (k:Int) < n;omega⟩,.inr ⟨rfl,by show (k:Int) < ((k + 1:Nat):Int);omega⟩,hf⟩
    ·cases h
def tupI (r:List Int):D:=.tuple (r.map int)
theorem lZ {fa fb:VF D}{vs:List Nv}{β:Int}{r:List Int}{k:Int}(h:fa vs β=.ok (tupI r) β)(h':fb vs β=.ok (.int k) β)(hk:k∈r):eN fa fb vs β=.ok (.int (r.idxOf k:Nat)) β:=by
 unfold eN
 rw[h]
 dsimp only[R.bnd]
 rw[if_pos (by rfl),h']
 dsimp only[R.bnd,Dq,tupI]
 rw[jZ]
 dsimp only
 rw[if_pos hk];rfl
theorem D7 {r:List Int}{a b:Int}(ha:a∈r)(hb:b∈r)(h:r.idxOf a=r.idxOf b):a=b:=by
 have h1:=List.getElem_idxOf (idxOf_lt_length_iff.mpr ha)
 have h2:=List.getElem_idxOf (idxOf_lt_length_iff.mpr hb)
 rw[<-h1,<-h2]
 congr 1
def Aq:D->Bool
 | .tuple _=>true
 |_=>false
theorem yB {d:D}(h:Aq d=true):∃ds,d=.tuple ds:=by
 cases d with
 |tuple ds=>exact⟨ds,rfl⟩
 |_=>cases h
theorem BD {d:D}(h:eZ d=false):gS "tuple" d=some (.bool (Aq d)):=by
 unfold gS;rw[h];cases d <;> rfl
section
variable {fa fb:VF D}{vs:List Nv}{β:Int}
theorem vn {d:D}(ha:fa vs β=.ok d β)(h:eZ d=false):iY (f1 fa (gS "tuple")) vs β=.ok (Aq d) β:=hU (dh ha (BD h))
theorem o9 {l:List D}{f:D->Bool}(h:fa vs β=.ok (.list (l.map fun q=>PyData.bool (f q))) β):f1 fa (dk fun bs=>bs.all id) vs β=.ok (.bool (l.all f)) β:=by
 refine dh h ?_
 simp only[dk]
 rw[kh]
 simp[List.all_map]
theorem Ew {ds:List D}(ha:fa vs β=.ok (.tuple ds) β):f1 fa bV vs β=.ok (.int ds.length) β:=dh ha rfl
theorem tQ {ds:List D}{k:Int}(ha:fa vs β=.ok (.tuple ds) β):bD (f2 (f1 fa bV) (cst (.int k)) (bL true)) vs β=.ok (!decide ((ds.length:Int)=k)) β:=dv (neg:=true) (Ew ha) rfl
theorem yu {t u:VF Bool}(h:t vs β=.ok true β):hZ t u vs β=.ok true β:=by rw[pB,h];rfl
theorem fB {t u:VF Bool}{c:Bool}(h:t vs β=.ok false β)(h':u vs β=.ok c β):hZ t u vs β=.ok c β:=by rw[pB,h];exact h'
theorem EG (h:fa vs β=.ok (.bool false) β):eJ fa fb vs β=.ok (.bool false) β:=by unfold eJ;rw[h];rfl
theorem EW {d:D}(h:fa vs β=.ok (.bool true) β)(h':fb vs β=.ok d β):eJ fa fb vs β=.ok d β:=by unfold eJ;rw[h];exact h'
theorem Jo (h:fa vs β=.ok (.bool true) β):Gj fa fb vs β=.ok (.bool true) β:=by unfold Gj;rw[h];rfl
theorem J2 {d:D}(h:fa vs β=.ok (.bool false) β)(h':fb vs β=.ok d β):Gj fa fb vs β=.ok d β:=by unfold Gj;rw[h];exact h'
end
section
variable {vs:List Nv}{β β1 β2:Int}{fa:VF D}{fr:VF (List D)}{d:D}{ds:List D}
theorem ac {fa:VF D}{fr:VF (List D)}(h:fa vs β=.ok d β)(h':fr vs β=.ok ds β):aa fa fr vs β=.ok (d :: ds) β:=by rw[bN,h];dsimp only[R.bnd];rw[h']
theorem an:ag vs β=.ok [] β:=rfl
theorem tp (h:fr vs β=.ok ds β)(hz:ds.length<=1000:=by simp):bH fr vs β=.ok (.tuple ds) β:=gA h hz
theorem lp (h:fr vs β=.ok ds β)(hz:ds.length<=1000:=by simp):bo fr vs β=.ok (.list ds) β:=dQ h hz
theorem ck (d:D):cst d vs β=.ok d β:=rfl
end
theorem CS {P:D->Prop}{x y:D}(hx:P x)(hy:P y):∀d,d∈ [x,y]->P d:=fun d hd=>by
 rcases mem_cons.mp hd with rfl |hd
 ·exact hx
 ·rw[mem_singleton] at hd;subst hd;exact hy
theorem B8 {d:D}(h:eZ d=false):gS "list" d=some (.bool (match d with | .list _=>true |_=>false)):=by
 unfold gS;rw[h];cases d <;> rfl
def Gk:D->Bool
 | .list _=>true
 |_=>false
theorem DQ {d:D}(h:Gk d=true):∃ds,d=.list ds:=by
 cases d with
 |list ds=>exact⟨ds,rfl⟩
 |_=>cases h
theorem EC {fa:VF D}{vs:List Nv}{β:Int}{d:D}(ha:fa vs β=.ok d β)(h:eZ d=false):f1 fa (gS "list") vs β=.ok (.bool (Gk d)) β:=dh ha (by rw[B8 h];cases d <;> rfl)
theorem mD {fa:VF D}{vs:List Nv}{β:Int}{ds:List D}(ha:fa vs β=.ok (.list ds) β):f1 fa bV vs β=.ok (.int ds.length) β:=dh ha rfl
def nK:SF:=(bG (eJ (f1 (gv 0) (gS "int")) (f1 (f1 (gv 0) (gS "bool")) Ag)))
def jC:SF:=(bG (f2 (aK 2 [1] (.two 0 1) (bw (f2 (gv 0) (cst (.int 1)) a8)) (bD (f2 (eN (gv 2) (gv 0)) (eN (gv 2) (gv 1)) Cs)) (cst (.int 1))) (bo ag) (bL false)))
noncomputable def gH (bI:List D->FR):SF:=(aG (jS ([] ++ (([] ++ []) ++ ([] ++ []))) (hZ (nP (iY (f1 (gv 0) (gS "tuple")))) (hZ (bD (f2 (f1 (gv 0) bV) (gv 1) (bL true))) (nP (iY (f1 (aK 1 [] (.nm 0) (bw (gv 0)) ki (aw bI (aa (gv 0) ag))) (dk fun bs=>bs.all id))))))
 (bG (cst (.bool false)))
 lh)
 (bG (f2 (f1 (gv 0) p5) (f1 (gv 1) cf) (bL false))))
def kz (aB:List D->Int->FB):SF:=(aG (ba 2 [] (bH ag))
 (aG (ie ([] ++ ([] ++ [])) (bD (f2 (f1 (gv 2) bV) (f2 (gv 1) (cst (.int 0)) a8) vL))
 (aG (gY 3 [] (bo ag))
 (aG (cH (.nm 4) ([] ++ []) (bX (f2 (gv 1) (cst (.int 0)) a8))
 (aG (ba 5 (([] ++ []) ++ []) (aK 2 [4,2] (.two 0 1) (bw (f2 (gv 1) (cst (.int 1)) a8)) (sH (bD (f2 (gv 1) (gv 2) (bL false))) (bD (f2 (gv 0) (gv 3) (lb true)))) (gv 0)))
 (jS (([] ++ []) ++ ([] ++ [])) (sH (bD (f2 (gv 4) (gv 2) (lb true))) (bD (f2 (gv 5) (bo ag) (bL false))))
 (ij 3 [4] (gv 4))
 lh)))
 (ba 2 ([] ++ (([] ++ ([] ++ [])) ++ [])) (f2 (gv 2) (bH (aa (f2 (gv 3) (fO 0 aB (aa (f1 (gv 3) bV) ag)) a8) ag)) sd)))) 1000)
 (pG 2)))
def iD (dA:List D->FR):SF:=(aG (ba 1 [] (bo ag))
 (aG (cH (.nm 2) ([] ++ []) (bX (f2 (gv 0) (cst (.int 0)) a8))
 (ba 1 ([] ++ (([] ++ []) ++ [0,2])) (f2 (gv 1) (aK 1 [0,2] (.nm 0) (bX (f2 (gv 0) (cst (.int 0)) a8)) (iY (aw dA (aa (gv 1) (aa (gv 2) (aa (gv 0) ag))))) (bH (aa (gv 2) (aa (gv 0) ag)))) fU)))
 (pG 1)))
def fP (n:Nat)(l:List Pr)(i:Nat):List Pr:=(OM.cN n).filter fun p=>decide (p.1 < i) && xr l p
theorem sx (n:Nat)(l:List Pr):fP n l n=iR n l:=by
 unfold fP iR
 refine filter_congr fun p hp=>?_
 have:=(OM.bh.mp hp).1.2
 rw[decide_eq_true this,Bool.true_and]
theorem AY {n i:Nat}(l:List Pr)(hi:i < n):fP n l (i + 1)=fP n l i ++ ((dm n).filter fun b=>xr l ((i:Int),b)).map fun b=>((i:Int),b):=by
 refine OM.gK (OM.eQ _ (OM.g8 n)) ?_ fun x=>?_
 ·show List.Pairwise OM.CF _
  rw[List.pairwise_append]
  refine⟨OM.eQ _ (OM.g8 n),?_,fun p hp q hq=>?_⟩
  ·rw[pairwise_map]
   exact ((BQ n).filter _).imp fun {a b} h=>.inr ⟨rfl,h⟩
  ·unfold fP at hp
   have h1:=(mem_filter.mp hp).2
   rw[Bool.and_eq_true,decide_eq_true_eq] at h1
   obtain⟨b,_,rfl⟩:=mem_map.mp hq
   exact .inl h1.1
 ·rw[mem_append]
  unfold fP
  rw[mem_filter,mem_filter,mem_map,OM.bh]
  simp only[Bool.and_eq_true,decide_eq_true_eq]
  constructor
  ·rintro⟨h1,h2,h3⟩
   by_cases z:x.1 < i
   ·exact .inl ⟨h1,z,h3⟩
   ·have e:x.1=i:=by omega
    obtain⟨xa,xb⟩:=x
    simp only at e h1 h3
    subst e
    exact .inr ⟨xb,mem_filter.mpr ⟨bF.mpr h1.2,h3⟩,rfl⟩
  ·rintro (⟨h1,h2,h3⟩ | ⟨b,hb,rfl⟩)
   ·exact⟨h1,by omega,h3⟩
   ·obtain⟨hb1,hb2⟩:=mem_filter.mp hb
    have:=bF.mp hb1
    exact⟨⟨⟨by omega,by omega⟩,this⟩,by omega,hb2⟩
theorem su {n:Nat}(l:List Pr)(i:Nat)(h8:n<=8):(fP n l i).length<=64:=by
 have h1:(fP n l i).length<=(OM.cN n).length:=length_filter_le _ _
 rw[hG] at h1
 have:n * n<=64:=Nat.mul_le_mul h8 h8
 omega
def kY:List D->FR:=bg 3 1 (iD xc)
theorem v9 {n:Nat}{l:List Pr}(O:OM.Ord n l):kY [au n l]=.ok (.list ((iR n l).map aq)) false:=by
 have h8:=O.hi
 show fin (iD xc [.fz (au n l),.no,.no] 0)=_
 unfold iD
 rw[ah (env':=[.fz (au n l),.fz (.list []),.no]) (β':=0) ?g1]
 case g1=>rw[bA,dQ (ds:=[]) rfl (by simp)];rfl
 have er:∀(s t:Sl),bX (f2 (gv 0) (cst (.int 0)) a8) [.da (au n l),s.val,t.val] 0=.ok (cg 0 n) 0:=fun s t=>cU (n:=n) (G9 (n:=n) (l:=l) rfl) (by omega)
 obtain⟨env',β',ef,s,rfl,rfl⟩:=cj (t:=.nm 2) (m:=ba 1 ([] ++ (([] ++ []) ++ [0,2])) (f2 (gv 1) (aK 1 [0,2] (.nm 0) (bX (f2 (gv 0) (cst (.int 0)) a8)) (iY (aw xc (aa (gv 1) (aa (gv 2) (aa (gv 0) ag))))) (bH (aa (gv 2) (aa (gv 0) ag)))) fU)) (ds:=cg 0 n) (k:=0)
  (fun i env β=>∃s:Sl,env= [.fz (au n l),.fz (.list ((fP n l i).map aq)),s]/\β=0)
  (env:=[.fz (au n l),.fz (.list []),.no]) (β:=0) ⟨.no,by
   have:fP n l 0= []:=by
    unfold fP
    rw[filter_eq_nil_iff]
    intro p hp
    have:=(OM.bh.mp hp).1.1
    rw[decide_eq_false (by omega)];simp
   rw[this];rfl,rfl⟩ (by
   rintro i d env β hi ⟨s,rfl,rfl⟩
   obtain⟨hin,rfl⟩:=fM hi
   refine⟨[.fz (au n l),.fz (.list ((fP n l (0 + i)).map aq)),.fz (.int (0 + (i:Int)))],rfl,?_⟩
   rw[Nat.zero_add,Int.zero_add]
   have ec:aK 1 [0,2] (.nm 0) (bX (f2 (gv 0) (cst (.int 0)) a8)) (iY (aw xc (aa (gv 1) (aa (gv 2) (aa (gv 0) ag))))) (bH (aa (gv 2) (aa (gv 0) ag))) [.da (au n l),.da (.list ((fP n l i).map aq)),.da (.int i)] 0=.ok (.list (((dm n).filter fun b=>xr l ((i:Int),b)).map fun b=>aq ((i:Int),b))) 0:=by
    refine bZ (l:=dm n) (e:=int) (fun b=>xr l ((i:Int),b)) (fun b=>aq ((i:Int),b)) ?_ (by rw[dg];omega) fun b hb=>⟨_,rfl,hU (aI (ds:=[au n l,.int i,.int b]) rfl (HK n l i b)),fun _=>jf rfl rfl⟩
    rw[<-oB]
    exact er (.fz _) (.fz _)
   have ew:f2 (gv 1) (aK 1 [0,2] (.nm 0) (bX (f2 (gv 0) (cst (.int 0)) a8)) (iY (aw xc (aa (gv 1) (aa (gv 2) (aa (gv 0) ag))))) (bH (aa (gv 2) (aa (gv 0) ag)))) fU [.da (au n l),.da (.list ((fP n l i).map aq)),.da (.int i)] 0=.ok (.list ((fP n l (i + 1)).map aq)) 0:=by
    refine aA (x:=.list ((fP n l i).map aq)) rfl ec ?_
    rw[lY]
    ·rw[AY l hin,map_append,map_map];rfl
    ·rw[length_map,length_map]
     have h1:=su l i h8
     have h2:((dm n).filter fun b=>xr l ((i:Int),b)).length<=(dm n).length:=length_filter_le _ _
     rw[dg] at h2
     omega
   refine⟨[.fz (au n l),.fz (.list ((fP n l (i + 1)).map aq)),.fz (.int i)],0,?_,_,rfl,rfl⟩
   rw[bA]
   show toS (f2 (gv 1) (aK 1 [0,2] (.nm 0) (bX (f2 (gv 0) (cst (.int 0)) a8)) (iY (aw xc (aa (gv 1) (aa (gv 2) (aa (gv 0) ag))))) (bH (aa (gv 2) (aa (gv 0) ag)))) fU [.da (au n l),.da (.list ((fP n l i).map aq)),.da (.int i)] 0) _=_
   rw[ew];rfl)
 rw[dN,Nat.zero_add,sx] at ef
 rw[ah (env':=[.fz (au n l),.fz (.list ((iR n l).map aq)),s]) (β':=0) ?g2]
 case g2=>
  rw[b8 (env:=[.fz (au n l),.fz (.list []),.no]) (er (.fz (.list [])) .no)]
  exact ef
 rfl
def Ge (e:D):Prop:=eZ e=false/\∀es,e=.tuple es->es.length<=100/\∀x,x∈es->eZ x=false
def EK (n:Int):D->Bool
 | .tuple [x,y]=>lP x n && lP y n
 |_=>false
theorem HC {n:Int}{d:D}(h:EK n d=true):∃p:Pr,d=aq p/\(0<=p.1/\p.1 < n)/\(0<=p.2/\p.2 < n):=by
 unfold EK at h
 split at h
 ·rename_i x y
  rw[Bool.and_eq_true] at h
  cases x with
  |int a=>
   cases y with
   |int b=>exact⟨(a,b),rfl,of_decide_eq_true h.1,of_decide_eq_true h.2⟩
   |_=>cases h.2
  |_=>cases h.1
 ·cases h
def Ja:List D->FR:=bg 2 2 (jX gp)
theorem pR {es:List D}:(decide ((es.length:Int)=2)=false/\∀n,EK n (.tuple es)=false)\/∃x y,es= [x,y]:=by
 match es with
 | []=>exact .inl ⟨rfl,fun _=>rfl⟩
 | [_]=>exact .inl ⟨rfl,fun _=>rfl⟩
 | [x,y]=>exact .inr ⟨x,y,rfl⟩
 |_ :: _ :: _ :: _=>exact .inl ⟨decide_eq_false (by simp;omega),fun _=>rfl⟩
theorem Kf {d:D}{n:Int}(h:Ge d):Ja [d,.int n]=.ok (.bool (EK n d)) false:=by
 show fin (jX gp [.fz d,.fz (.int n)] 0)=_
 unfold jX
 have g0:gv 0 (vl [.fz d,.fz (.int n)]) 0=.ok d 0:=rfl
 have t1:=vn g0 h.1
 cases hy:Aq d with
 |false=>
  rw[hy] at t1
  rw[dI (d:=.bool false) (b:=false) (β':=0) ?a]
  ·cases d <;> first |rfl |cases hy
  case a=>rw[hW (yu (cu t1))];rfl
 |true=>
  obtain⟨es,rfl⟩:=yB hy
  rw[hy] at t1
  have t2:=tQ (k:=2) g0
  rcases pR (es:=es) with⟨q,z⟩ | ⟨x,y,rfl⟩
  ·rw[q] at t2
   rw[z n,dI (d:=.bool false) (b:=false) (β':=0) (by rw[hW (fB (cu t1) t2)];rfl)];rfl
  ·rw[ah (env':=[.fz (.tuple [x,y]),.fz (.int n)]) (β':=0) (by rw[cW (fB (cu t1) t2)];rfl)]
   have hx:=(h.2 _ rfl).2 x (mem_cons_self ..)
   have hy':=(h.2 _ rfl).2 y (mem_cons_of_mem _ (mem_cons_self ..))
   have e1:aw gp (aa (f2 (gv 0) (cst (.int 0)) a8) (aa (gv 1) ag)) (vl [.fz (.tuple [x,y]),.fz (.int n)]) 0=.ok (.bool (lP x n)) 0:=aI (ds:=[x,.int n]) rfl (sZ hx)
   have e2:aw gp (aa (f2 (gv 0) (cst (.int 1)) a8) (aa (gv 1) ag)) (vl [.fz (.tuple [x,y]),.fz (.int n)]) 0=.ok (.bool (lP y n)) 0:=aI (ds:=[y,.int n]) rfl (sZ hy')
   rw[bP,uF e1 e2];rfl
def FA:List D->FR:=bg 1 1 nK
theorem Iu {d:D}(h:eZ d=false):FA [d]=.ok (.bool (mL d)) false:=by
 have:=yG [d] (by rw[ni h];exact fun z=>by cases z)
 rw[ni h] at this
 exact this
def Sp (p:Pr):Prop:=(0<=p.1/\p.1<=8)/\(0<=p.2/\p.2<=8)
theorem Fc {es:List D}(hl:es.length<=100)(h:∀x,x∈es->eZ x=false):Ge (.tuple es):=⟨rfl,fun es' e=>by cases e;exact⟨hl,h⟩⟩
theorem Bb {fa fb:VF D}{vs:List Nv}{β:Int}{ds:List D}{i:Nat}(ha:fa vs β=.ok (.list ds) β)(hb:fb vs β=.ok (.int ((i:Nat):Int)) β):FX fa (fun _ β=>.ok none β) (GL fb) vs β=.ok (.list (ds.take i)) β:=by
 unfold FX GL
 rw[ha];dsimp only[R.bnd]
 rw[hb];dsimp only[R.bnd]
 congr 2
 unfold cutD
 rw[HT.As,HT.Ef]
 by_cases h:i<=ds.length
 ·rw[Nat.min_eq_left h];rfl
 ·rw[Nat.min_eq_right (by omega),take_of_length_le (show ds.length<=i by omega)];simp
end RM
namespace RM
open PySem PySem.Spec L2 PyProof.Rows
theorem oC:∀{l m:List Int},l.Nodup->(∀x,x∈l->x∈m)->m.length<=l.length->l.Perm m
 | [],m,_,_,h=>by
  have:m= []:=List.length_eq_zero_iff.mp (by simpa using h)
  rw[this]
 |x :: l,m,nd,hs,h=>by
  obtain⟨h1,h2⟩:=nodup_cons.mp nd
  have hx:x∈m:=hs x (mem_cons_self ..)
  have pm:m.Perm (x :: m.erase x):=List.perm_cons_erase hx
  refine (List.Perm.cons x (oC (m:=m.erase x) h2 (fun y hy=>?_) ?_)).trans pm.symm
  ·have hy':=pm.mem_iff.mp (hs y (mem_cons_of_mem _ hy))
   rcases mem_cons.mp hy' with rfl |q
   ·exact absurd hy h1
   ·exact q
  ·have:=pm.length_eq
   rw[length_cons] at this h
   omega
theorem A2 {n:Nat}{r:List Int}(hl:r.length=n)(hb:∀x,x∈r->0<=x/\x < n)(nd:r.Nodup):r.Perm (dm n):=oC nd (fun x hx=>bF.mpr (hb x hx)) (by rw[dg];omega)
theorem jZ:∀r:List Int,lg (r.map int)=some r
 | []=>rfl
 |x :: r=>by
  have:=jZ r
  simp only[map_cons,lg,this]
  try rfl
end RM
namespace RM
open PySem L2
def BP (l:List Pr)(r:List Int):Bool:=l.all fun p=>decide (r.idxOf p.1 < r.idxOf p.2)
def Row (n:Nat)(l:List Pr)(r:List Int):Prop:=r.Perm (dm n)/\BP l r=true
def Gt (d:D):Prop:=eZ d=false/\∀ds,d=.list ds->ds.length<=100/\∀e,e∈ds->Ge e
theorem any_ints (a:Int):∀s:List Int,((s.map int).any fun e=>PyData.eqv e (.int a))=decide (a∈s)
 | []=>rfl
 |b :: s=>by
  rw[map_cons,any_cons,any_ints a s]
  show ((b == a) || _)=_
  rw[Bool.eq_iff_iff]
  simp only[Bool.or_eq_true,beq_iff_eq,decide_eq_true_eq,mem_cons]
  exact⟨fun h=>h.imp Eq.symm id,fun h=>h.imp Eq.symm id⟩
theorem rR (s:List Int):(s.map int).all SeqAt.shaped=true:=by
 rw[all_eq_true]
 intro d hd
 obtain⟨p,_,rfl⟩:=mem_map.mp hd
 rfl
theorem yg (neg:Bool)(a:Int)(s:List Int):lb neg (.int a) (tupI s)=some (.bool (if neg then !decide (a∈s) else decide (a∈s))):=by
 unfold lb tupI
 simp only[ji,rR,any_ints]
 rfl
theorem AF {a b:List D}(h:a.length + b.length<=1000):sd (.tuple a) (.tuple b)=some (.tuple (a ++ b)):=if_pos (by rw[sizeLine_eq];omega)
theorem JX {fa fb:VF D}{vs:List Nv}{β β1 β2:Int}{r q:List Int}(h1:fa vs β=.ok (tupI r) β1)(h2:fb vs β1=.ok (tupI q) β2)(hz:r.length + q.length<=1000):f2 fa fb sd vs β=.ok (tupI (r ++ q)) β2:=
 aA h1 h2 (by unfold tupI;rw[AF (by simpa using hz),<-map_append])
def qP (l:List Pr)(r:List Int)(x:Int):List Int:=(l.filter fun p=>decide (p.2=x) && !decide (p.1∈r)).map (·.1)
theorem kB {l:List Pr}{r:List Int}{x a:Int}:a∈qP l r x↔(a,x)∈l/\a∉r:=by
 unfold qP
 rw[mem_map]
 constructor
 ·rintro⟨p,hp,rfl⟩
  have:=mem_filter.mp hp
  simp only[Bool.and_eq_true,decide_eq_true_eq,Bool.not_eq_true',decide_eq_false_iff_not] at this
  obtain⟨pa,pb⟩:=p
  obtain⟨h1,h2,h3⟩:=this
  simp only at h2 h3
  subst h2
  exact⟨h1,h3⟩
 ·rintro⟨h1,h2⟩
  exact⟨(a,x),mem_filter.mpr ⟨h1,by simp[h2]⟩,rfl⟩
theorem zm {n:Nat}{l:List Pr}(O:OM.Ord n l)(r:List Int)(x:Int):(qP l r x).Nodup:=by
 unfold qP
 rw[nodup_iff_pairwise_ne,pairwise_map]
 refine List.Pairwise.imp_of_mem (fun {a b} ha hb h e=>h ?_) (nodup_iff_pairwise_ne.mp ((OM.eY O.ris).filter _))
 have h1:=(mem_filter.mp ha).2
 have h2:=(mem_filter.mp hb).2
 simp only[Bool.and_eq_true,decide_eq_true_eq] at h1 h2
 exact Prod.ext e (h1.1.trans h2.1.symm)
theorem least {n:Nat}{l:List Pr}(O:OM.Ord n l)(r:List Int):∀(k:Nat) (x:Int),(0<=x/\x < n)->x∉r->(qP l r x).length<=k->∃y:Int,(0<=y/\y < n)/\y∉r/\qP l r y= []
 | 0,x,hx,hr,hk=>⟨x,hx,hr,List.length_eq_zero_iff.mp (by omega)⟩
 |k + 1,x,hx,hr,hk=>by
  by_cases he:qP l r x= []
  ·exact⟨x,hx,hr,he⟩
  ·obtain⟨a,ha⟩:=List.exists_mem_of_ne_nil _ he
   obtain⟨h1,h2⟩:=kB.mp ha
   refine least O r k a (O.wn _ h1).1 h2 ?_
   have nd:(a :: qP l r a).Nodup:=nodup_cons.mpr ⟨fun q=>O.irr a (kB.mp q).1,zm O r a⟩
   have:=L2.ST.bW nd (m:=qP l r x) fun y hy=>by
    rcases mem_cons.mp hy with rfl |hy
    ·exact ha
    ·obtain⟨q1,q2⟩:=kB.mp hy
     exact kB.mpr ⟨O.tr _ _ _ q1 h1,q2⟩
   rw[length_cons] at this
   omega
structure A0 (n:Nat)(l:List Pr)(r:List Int):Prop where
 nd:r.Nodup
 inn:∀x,x∈r->0<=x/\x < (n:Int)
 fit:∀p,p∈l->p.2∈r->p.1∈r/\r.idxOf p.1 < r.idxOf p.2
theorem A0.len {n:Nat}{l:List Pr}{r:List Int}(B:A0 n l r):r.length<=n:=by
 have:=L2.ST.bW B.nd (m:=dm n) fun x hx=>bF.mpr (B.inn x hx)
 rwa [dg] at this
theorem A0.row {n:Nat}{l:List Pr}{r:List Int}(O:OM.Ord n l)(B:A0 n l r)(h:n<=r.length):Row n l r:=by
 have pm:=A2 (Nat.le_antisymm B.len h) B.inn B.nd
 refine⟨pm,all_eq_true.mpr fun p hp=>decide_eq_true ?_⟩
 exact (B.fit p hp (pm.mem_iff.mpr (bF.mpr (O.wn p hp).2))).2
def fR (l:List Pr)(r:List Int)(x:Int):Bool:= !decide (x∈r) && decide (qP l r x= [])
theorem A0.more {n:Nat}{l:List Pr}{r:List Int}{x:Int}(B:A0 n l r)(hx:0<=x/\x < (n:Int))(hf:fR l r x=true):A0 n l (r ++ [x]):=by
 unfold fR at hf
 rw[Bool.and_eq_true,Bool.not_eq_true',decide_eq_false_iff_not,decide_eq_true_eq] at hf
 obtain⟨h1,h2⟩:=hf
 refine⟨?_,fun y hy=>?_,fun p hp hm=>?_⟩
 ·rw[List.nodup_append]
  refine⟨B.nd,nodup_cons.mpr ⟨by simp,nodup_nil⟩,fun a ha b hb=>?_⟩
  rw[mem_singleton] at hb
  subst hb
  exact fun q=>h1 (q▸ha)
 ·rcases mem_append.mp hy with hy |hy
  ·exact B.inn y hy
  ·rw[mem_singleton] at hy;subst hy;exact hx
 ·rcases mem_append.mp hm with hm |hm
  ·obtain⟨q1,q2⟩:=B.fit p hp hm
   refine⟨mem_append_left _ q1,?_⟩
   rw[idxOf_append,idxOf_append,if_pos q1,if_pos hm]
   exact q2
  ·rw[mem_singleton] at hm
   have hp1:p.1∈r:=by
    by_cases z:p.1∈r
    ·exact z
    ·have:p.1∈qP l r x:=kB.mpr ⟨by rw[<-hm];exact hp,z⟩
     rw[h2] at this;cases this
   refine⟨mem_append_left _ hp1,?_⟩
   rw[idxOf_append,idxOf_append,if_pos hp1,if_neg (by rw[hm];exact h1)]
   have:=idxOf_lt_length_iff.mpr hp1
   omega
theorem A0.free {n:Nat}{l:List Pr}{r:List Int}(O:OM.Ord n l)(B:A0 n l r)(h:r.length < n):(dm n).filter (fR l r)≠ []:=by
 have:∃x,x∈dm n/\x∉r:=by
  apply Classical.byContradiction
  intro z
  have:=L2.ST.bW (mf n) (m:=r) fun x hx=>Classical.byContradiction fun q=>z ⟨x,hx,q⟩
  rw[dg] at this
  omega
 obtain⟨x,hx,hr⟩:=this
 obtain⟨y,hy,hyr,hp⟩:=least O r _ x (bF.mp hx) hr (Nat.le_refl _)
 intro q
 have:y∈(dm n).filter (fR l r):=mem_filter.mpr ⟨bF.mpr hy,by unfold fR;simp[hyr,hp]⟩
 rw[q] at this
 cases this
noncomputable def y6:List D->Int->FB:=nD 6 1 (kz bE)
def bt (l:List Pr)(r:List Int)(i:Nat):List Int:=(dm i).filter (fR l r)
theorem Ay (i:Nat):dm (i + 1)=dm i ++ [(i:Int)]:=by unfold dm;rw[List.range_succ,map_append];rfl
theorem oo (l:List Pr)(r:List Int)(i:Nat):bt l r (i + 1)=bt l r i ++ if fR l r (i:Int)=true then [(i:Int)] else []:=by
 unfold bt
 rw[Ay,List.filter_append]
 congr 1
 by_cases h:fR l r (i:Int)=true
 ·rw[if_pos h];simp[h]
 ·rw[if_neg h];simp[h]
theorem j4 (l:List Pr)(r:List Int)(i:Nat):(bt l r i).length<=i:=by
 have:(bt l r i).length<=(dm i).length:=length_filter_le _ _
 rwa [dg] at this
abbrev yz:SF:=aG (ba 5 (([] ++ []) ++ []) (aK 2 [4,2] (.two 0 1) (bw (f2 (gv 1) (cst (.int 1)) a8)) (sH (bD (f2 (gv 1) (gv 2) (bL false))) (bD (f2 (gv 0) (gv 3) (lb true)))) (gv 0)))
 (jS (([] ++ []) ++ ([] ++ [])) (sH (bD (f2 (gv 4) (gv 2) (lb true))) (bD (f2 (gv 5) (bo ag) (bL false))))
 (ij 3 [4] (gv 4))
 lh)
theorem Dj {n:Nat}{l:List Pr}{r:List Int}{i:Nat}(O:OM.Ord n l)(hi:i < n)(s5:Sl)(β:Int):∃s5',yz [.bx,.fz (au n l),.fz (tupI r),.ow (.list ((bt l r i).map int)),.fz (.int i),s5] β=.nx [.bx,.fz (au n l),.fz (tupI r),.ow (.list ((bt l r (i + 1)).map int)),.fz (.int i),s5'] β:=by
 have h8:=O.hi
 have hl:=sY O
 have ec:aK 2 [4,2] (.two 0 1) (bw (f2 (gv 1) (cst (.int 1)) a8)) (sH (bD (f2 (gv 1) (gv 2) (bL false))) (bD (f2 (gv 0) (gv 3) (lb true)))) (gv 0) (vl [.bx,.fz (au n l),.fz (tupI r),.ow (.list ((bt l r i).map int)),.fz (.int i),s5]) β=.ok (.list ((qP l r i).map int)) β:=by
  unfold qP
  rw[map_map]
  refine bZ (l:=l) (e:=aq) (fun p=>decide (p.2=(i:Int)) && !decide (p.1∈r)) (fun p=>int p.1) rfl (by omega) fun p hp=>⟨_,rfl,?_,fun _=>rfl⟩
  refine qE (dv (neg:=false) (i:=p.2) (j:=i) rfl rfl) ?_
  exact bS _ _ _ _ (aA (x:=.int p.1) (y:=tupI r) rfl rfl (yg true p.1 r))
 unfold yz
 rw[ah (env':=[.bx,.fz (au n l),.fz (tupI r),.ow (.list ((bt l r i).map int)),.fz (.int i),.fz (.list ((qP l r i).map int))]) (β':=β) (by rw[bA,ec];rfl)]
 have et:sH (bD (f2 (gv 4) (gv 2) (lb true))) (bD (f2 (gv 5) (bo ag) (bL false))) (vl [.bx,.fz (au n l),.fz (tupI r),.ow (.list ((bt l r i).map int)),.fz (.int i),.fz (.list ((qP l r i).map int))]) β=.ok (fR l r i) β:=
  qE (bS _ _ _ _ (aA (x:=.int i) (y:=tupI r) rfl rfl (yg true i r))) (bS _ _ _ _ (aA (x:=.list ((qP l r i).map int)) (y:=.list (([]:List Int).map int)) rfl (lp (ds:=[]) an) (lC false _ _)))
 rw[oo]
 cases c:fR l r (i:Int) with
 |true=>
  rw[c] at et
  rw[hW et]
  refine⟨.fz (.list ((qP l r i).map int)),?_⟩
  have hz:=j4 l r i
  rw[show bp (([] ++ []) ++ ([] ++ [])) [Sl.bx,.fz (au n l),.fz (tupI r),.ow (.list ((bt l r i).map int)),.fz (.int i),.fz (.list ((qP l r i).map int))]= [Sl.bx,.fz (au n l),.fz (tupI r),.ow (.list ((bt l r i).map int)),.fz (.int i),.fz (.list ((qP l r i).map int))] from rfl]
  rw[jm (i:=3) (ds:=(bt l r i).map int) (d:=.int i) (β':=β) (by rfl) rfl (by rfl) (by rw[length_map];omega),if_pos rfl,map_append]
  rfl
 |false=>
  rw[c] at et
  rw[cW et]
  exact⟨.fz (.list ((qP l r i).map int)),by rw[show bt l r i ++ (if false=true then [(i:Int)] else [])=bt l r i by simp];rfl⟩
theorem Gv {n:Nat}{l:List Pr}(O:OM.Ord n l)(β:Int):∃r β',y6 [au n l] β=.ok (tupI r) false β'/\Row n l r:=by
 have h8:=O.hi
 show ∃r β',tE (kz bE [.bx,.fz (au n l),.no,.no,.no,.no] β)=.ok (tupI r) false β'/\Row n l r
 unfold kz
 rw[ah (env':=[.bx,.fz (au n l),.fz (tupI []),.no,.no,.no]) (β':=β) (by rw[bA,tp (ds:=[]) an];rfl)]
 obtain⟨env',β',ew,r,s3,s4,s5,rfl,hr⟩:=fV (L:=[] ++ ([] ++ [])) (t:=bD (f2 (f1 (gv 2) bV) (f2 (gv 1) (cst (.int 0)) a8) vL))
  (m:=aG (gY 3 [] (bo ag))
   (aG (cH (.nm 4) ([] ++ []) (bX (f2 (gv 1) (cst (.int 0)) a8)) yz)
   (ba 2 ([] ++ (([] ++ ([] ++ [])) ++ [])) (f2 (gv 2) (bH (aa (f2 (gv 3) (fO 0 bE (aa (f1 (gv 3) bV) ag)) a8) ag)) sd))))
  (fun k env _=>∃r s3 s4 s5,env= [.bx,.fz (au n l),.fz (tupI r),s3,s4,s5]/\A0 n l r/\k=n - r.length)
  (fun env _=>∃r s3 s4 s5,env= [.bx,.fz (au n l),.fz (tupI r),s3,s4,s5]/\Row n l r)
  (n:=1000) (k:=n) (env:=[.bx,.fz (au n l),.fz (tupI []),.no,.no,.no]) (β:=β) (by omega) ⟨[],.no,.no,.no,rfl,⟨nodup_nil,(fun x hx=>by cases hx),(fun p _ h=>by cases h)⟩,by simp⟩ (by
   rintro k env β ⟨r,s3,s4,s5,rfl,B,rfl⟩
   have hrl:=B.len
   have et:bD (f2 (f1 (gv 2) bV) (f2 (gv 1) (cst (.int 0)) a8) vL) (vl [.bx,.fz (au n l),.fz (tupI r),s3,s4,s5]) β=.ok (decide ((r.length:Int) < n)) β:=by
    refine bS _ _ _ _ (aA (x:=.int r.length) (y:=.int n) ?_ (G9 (n:=n) (l:=l) rfl) rfl)
    rw[Ew (ds:=r.map int) rfl,length_map]
   refine⟨_,_,et,?_⟩
   by_cases hlt:r.length < n
   ·refine .inr ⟨decide_eq_true (by omega),?_⟩
    show ∃env2 β2 k',aG _ _ [.bx,.fz (au n l),.fz (tupI r),s3,s4,s5] β=.nx env2 β2/\k' < n - r.length/\_
    rw[ah (env':=[.bx,.fz (au n l),.fz (tupI r),.ow (.list ((bt l r 0).map int)),s4,s5]) (β':=β) (by rw[fG,lp (ds:=[]) an];rfl)]
    obtain⟨env',β',ef,u4,u5,rfl,rfl⟩:=cj (t:=.nm 4) (m:=yz) (ds:=cg 0 n) (k:=0)
     (fun i env b=>∃u4 u5,env= [.bx,.fz (au n l),.fz (tupI r),.ow (.list ((bt l r i).map int)),u4,u5]/\b=β)
     (env:=[.bx,.fz (au n l),.fz (tupI r),.ow (.list ((bt l r 0).map int)),s4,s5]) (β:=β) ⟨s4,s5,rfl,rfl⟩ (by
      rintro i d env b hi ⟨u4,u5,rfl,rfl⟩
      obtain⟨hin,rfl⟩:=fM hi
      obtain⟨v5,e⟩:=Dj (r:=r) O hin u5 b
      refine⟨[.bx,.fz (au n l),.fz (tupI r),.ow (.list ((bt l r (0 + i)).map int)),.fz (.int (0 + (i:Int))),u5],rfl,?_⟩
      rw[Nat.zero_add,Int.zero_add]
      exact⟨_,_,e,_,_,rfl,rfl⟩)
    rw[dN,Nat.zero_add] at ef
    rw[ah (env':=[.bx,.fz (au n l),.fz (tupI r),.ow (.list ((bt l r n).map int)),u4,u5]) (β':=β') (by
     rw[b8 (env:=[.bx,.fz (au n l),.fz (tupI r),.ow (.list ((bt l r 0).map int)),s4,s5]) (cU (n:=n) (G9 (n:=n) (l:=l) rfl) (by omega))]
     exact ef)]
    have hne:bt l r n≠ []:=B.free O hlt
    have hpos:1<=(bt l r n).length:=length_pos_iff.mpr hne
    have hz:=j4 l r n
    obtain⟨j,hj,ej⟩:=fJ (m:=(bt l r n).length) hpos (by omega) β'
    have hx:(bt l r n)[j]? =some (bt l r n)[j]:=getElem?_eq_getElem hj
    have hm:(bt l r n)[j]∈bt l r n:=getElem_mem hj
    generalize (bt l r n)[j]=x at hx hm
    obtain⟨hm1,hm2⟩:=mem_filter.mp hm
    have B':=B.more (bF.mp hm1) hm2
    have e1:bH (aa (f2 (gv 3) (fO 0 bE (aa (f1 (gv 3) bV) ag)) a8) ag) (vl [.bx,.fz (au n l),.fz (tupI r),.ow (.list ((bt l r n).map int)),u4,u5]) β'=.ok (tupI [x]) (β' / ((bt l r n).length:Int)):=by
     refine gA (ds:=[.int x]) ?_ (by simp)
     rw[bN,aA (x:=.list ((bt l r n).map int)) (y:=.int j) (d:=.int x) (β1:=β') (β2:=β' / ((bt l r n).length:Int)) rfl (di (ds:=[.int (bt l r n).length]) (β1:=β') (by rfl) (ac (by rw[mD (ds:=(bt l r n).map int) rfl,length_map]) an) ej) (show jT ((bt l r n).map int) (j:Int)=_ by rw[dU,nM hx];rfl)]
     rfl
    refine⟨[.bx,.fz (au n l),.fz (tupI (r ++ [x])),.ow (.list ((bt l r n).map int)),u4,u5],β' / ((bt l r n).length:Int),n - (r ++ [x]).length,?_,by rw[length_append,length_singleton];omega,_,_,_,_,rfl,B',rfl⟩
    rw[bA,JX (r:=r) (q:=[x]) (β1:=β') rfl e1 (by simp;omega)];rfl
   ·refine .inl ⟨decide_eq_false (by omega),r,s3,s4,s5,rfl,B.row O (by omega)⟩)
 rw[ah (env':=[.bx,.fz (au n l),.fz (tupI r),s3,s4,s5]) (β':=β') ew]
 exact⟨r,β',rfl,hr⟩
theorem DX (r:List Int):(tupI r).depth=1:=by unfold tupI;simp only[PyData.depth];rw[qw]
theorem DA (r q:List Int):PyData.eqv (tupI r) (tupI q)=decide (r=q):=by
 unfold tupI
 simp only[PyData.eqv,p9]
def iI:SF:=(bG (f2 (gv 0) (f2 (cst (.int 1)) (gv 1) Gp) IP))
def gz (aH:List D->FR):SF:=(aG (gY 1 (([] ++ []) ++ ([] ++ [])) (f2 (bo (aa (cst (.int 0)) ag)) (f2 (gv 0) (cst (.int 0)) a8) AX))
 (aG (cH (.two 2 3) ([] ++ []) (bw (f2 (gv 0) (cst (.int 1)) a8))
 (vZ 1 (([] ++ []) ++ ([2] ++ [])) [] (aw aH (aa (f2 (gv 1) (gv 3) a8) (aa (gv 2) ag))) (gv 3)))
 (pG 1)))
def gG (aH:List D->FR):SF:=(aG (gY 2 [] (bo ag))
 (aG (cH (.two 3 4) [0] (D9 (gv 0))
 (jS ((([1] ++ ([3] ++ [])) ++ []) ++ (([] ++ []) ++ [])) (sH (bD (f2 (aw aH (aa (gv 1) (aa (gv 3) ag))) (gv 1) (bL true))) (bD (f2 (f2 (gv 1) (gv 4) CC) (gv 4) (bL false))))
 (ij 2 [3] (gv 3))
 lh))
 (pG 2)))
def jw (cZ aH:List D->FR):SF:=(aG (gY 2 [] (bo ag))
 (aG (ba 3 [] (cst (.int 0)))
 (aG (ie ([] ++ []) (bD (f2 (f1 (gv 2) bV) (f1 (gv 0) bV) vL))
 (aG (ba 4 ([0] ++ ([3] ++ [])) (aw cZ (aa (gv 0) (aa (gv 3) ag))))
 (aG (ba 5 ([] ++ []) (aK 1 [1] (.nm 0) (bw (gv 4)) (bD (f2 (gv 0) (gv 1) (lb true))) (gv 0)))
 (aG (ij 2 (([] ++ []) ++ []) (f2 (f2 (gv 5) (gv 4) fU) (cst (.int 0)) a8))
 (ba 3 ([3] ++ (([] ++ []) ++ [])) (aw aH (aa (gv 3) (aa (f2 (gv 2) (f1 (cst (.int 1)) ox) a8) ag))))))) 1000)
 (bG (f1 (gv 2) i7)))))
end RM
namespace RM
open PySem L2 PyProof.Rows
def mk (f:Nat->Bool):Nat->Nat
 | 0=>0
 |n + 1=>mk f n ||| if f n=true then 2 ^ n else 0
theorem ig (f:Nat->Bool):∀(n i:Nat),(mk f n).testBit i=(decide (i < n) && f i)
 | 0,i=>by simp[mk]
 |n + 1,i=>by
  unfold mk
  rw[Nat.testBit_or,ig f n i]
  by_cases h:f n=true
  ·rw[if_pos h,Nat.testBit_two_pow]
   by_cases e:n=i
   ·subst e;simp[h]
   ·have e2:decide (i < n)=decide (i < n + 1):=by
     rw[decide_eq_decide];omega
    simp[e,e2]
  ·rw[if_neg h]
   by_cases e:i=n
   ·subst e;simp[h]
   ·have e2:decide (i < n)=decide (i < n + 1):=by
     rw[decide_eq_decide];omega
    simp[e2]
theorem mk_eq {f g:Nat->Bool}{n:Nat}:mk f n=mk g n↔∀i,i < n->f i=g i:=by
 constructor
 ·intro h i hi
  have:=congrArg (fun x=>x.testBit i) h
  simp only[ig,decide_eq_true hi,Bool.true_and] at this
  exact this
 ·intro h
  apply Nat.eq_of_testBit_eq
  intro i
  rw[ig,ig]
  by_cases hi:i < n
  ·rw[h i hi]
  ·rw[decide_eq_false hi];simp
def ik (f:Nat->Bool)(t:Nat):Nat->Bool:=fun i=>f i || decide (i=t)
theorem Ih {f:Nat->Bool}{n t:Nat}(h:t < n):mk f n ||| 2 ^ t=mk (ik f t) n:=by
 apply Nat.eq_of_testBit_eq
 intro i
 rw[Nat.testBit_or,ig,ig,Nat.testBit_two_pow]
 unfold ik
 by_cases e:t=i
 ·subst e;simp[h]
 ·have e':¬i=t:=fun q=>e q.symm
  simp[e,e']
theorem Fq {f g:Nat->Bool}{n:Nat}:(mk f n &&& mk g n=mk g n)↔∀i,i < n->g i=true->f i=true:=by
 have e:mk f n &&& mk g n=mk (fun i=>f i && g i) n:=by
  apply Nat.eq_of_testBit_eq
  intro i
  rw[Nat.testBit_and,ig,ig,ig]
  by_cases h:i < n
  ·simp[h]
  ·simp[h]
 rw[e,mk_eq]
 constructor
 ·intro h i hi hg
  have:=h i hi
  rw[hg,Bool.and_true] at this
  exact this
 ·intro h i hi
  cases hg:g i with
  |false=>simp
  |true=>rw[h i hi hg];rfl
theorem rS (a b:Nat):Builtin.bitOr (a:Int) (b:Int)=((a ||| b:Nat):Int):=by
 have h1:¬(0<=Builtin.bitNot (a:Int)):=by show ¬(0<= -(a:Int) - 1);omega
 have h2:¬(0<=Builtin.bitNot (b:Int)):=by show ¬(0<= -(b:Int) - 1);omega
 show Builtin.bitNot (Builtin.bitAnd (Builtin.bitNot a) (Builtin.bitNot b))=_
 rw[bitAnd_nn h1 h2]
 have e1:Builtin.bitNot (Builtin.bitNot (a:Int))=a:=by show -(-(a:Int) - 1) - 1=a;omega
 have e2:Builtin.bitNot (Builtin.bitNot (b:Int))=b:=by show -(-(b:Int) - 1) - 1=b;omega
 rw[e1,e2]
 show -(-((((a:Int).toNat ||| (b:Int).toNat:Nat):Int)) - 1) - 1=_
 rw[Int.toNat_natCast,Int.toNat_natCast];omega
theorem wJ (a b:Nat):Builtin.bitAnd (a:Int) (b:Int)=((a &&& b:Nat):Int):=by
 rw[bitAnd_pp (by omega) (by omega),Int.toNat_natCast,Int.toNat_natCast]
def mI (f:Nat->Bool)(n:Nat):D:=.int ((mk f n:Nat):Int)
theorem EY:∀t:Nat,t < 8->Gp (.int 1) (.int (t:Int))=some (.int ((2 ^ t:Nat):Int)):=by
 intro t ht
 have:t=0\/t=1\/t=2\/t=3\/t=4\/t=5\/t=6\/t=7:=by omega
 rcases this with rfl |rfl |rfl |rfl |rfl |rfl |rfl |rfl <;> rfl
def vd:List D->FR:=bg 2 2 iI
theorem AA {f:Nat->Bool}{n t:Nat}(h8:n<=8)(h:t < n):vd [mI f n,.int (t:Int)]=.ok (mI (ik f t) n) false:=by
 show fin (iI [.fz (mI f n),.fz (.int t)] 0)=_
 unfold iI
 rw[bP,aA (x:=mI f n) (y:=.int ((2 ^ t:Nat):Int)) (d:=mI (ik f t) n) (β1:=0) (β2:=0) rfl (aA (x:=.int 1) (y:=.int t) rfl rfl (EY t (by omega))) ?a]
 ·rfl
 case a=>
  show some (int (Builtin.bitOr _ _))=_
  rw[rS,Ih h];rfl
def cP (n:Nat)(M:Nat->Nat->Bool):D:=.list ((List.range n).map fun b=>mI (M b) n)
def bK (l:List Pr)(b a:Nat):Bool:=decide ((((a:Nat):Int),((b:Nat):Int))∈l)
theorem Ba {n b:Nat}{M:Nat->Nat->Bool}(h:b < n):jT ((List.range n).map fun b=>mI (M b) n) (b:Int)=some (mI (M b) n):=nM (by rw[getElem?_map,getElem?_range h];rfl)
def JA:List D->FR:=bg 4 1 (gz vd)
def orM (M:Nat->Nat->Bool)(p:Pr)(b a:Nat):Bool:=M b a || (decide ((b:Int)=p.2) && decide ((a:Int)=p.1))
theorem Gs {n:Nat}{M:Nat->Nat->Bool}{p:Pr}(h1:0<=p.1/\p.1 < n)(h2:0<=p.2/\p.2 < n):((List.range n).map fun b=>mI (M b) n).set p.2.toNat (mI (ik (M p.2.toNat) p.1.toNat) n)=(List.range n).map fun b=>mI (orM M p b) n:=by
 refine List.ext_getElem (by simp) fun i h3 h4=>?_
 rw[List.getElem_set]
 simp only[List.getElem_map,List.getElem_range]
 unfold mI
 by_cases e:p.2.toNat=i
 ·rw[if_pos e]
  congr 2
  rw[mk_eq]
  intro j hj
  unfold ik orM
  rw[e]
  have e1:((i:Nat):Int)=p.2:=by omega
  rw[decide_eq_true e1,Bool.true_and]
  congr 1
  rw[decide_eq_decide];omega
 ·rw[if_neg e]
  congr 2
  rw[mk_eq]
  intro j hj
  unfold orM
  rw[decide_eq_false (by omega:¬((i:Nat):Int)=p.2)];simp
theorem yx {n:Nat}{l:List Pr}(h8:n<=8):∀(ps:List Pr) (M:Nat->Nat->Bool) (s2 s3:Sl),OM.Wn n ps->∃M' s2' s3',lu (.two 2 3) (vZ 1 (([] ++ []) ++ ([2] ++ [])) [] (aw vd (aa (f2 (gv 1) (gv 3) a8) (aa (gv 2) ag))) (gv 3)) (ps.map aq) [.fz (au n l),.ow (cP n M),s2,s3] 0=.nx [.fz (au n l),.ow (cP n M'),s2',s3'] 0/\∀b a,b < n->a < n->M' b a=(M b a || bK ps b a)
 | [],M,s2,s3,_=>⟨M,s2,s3,rfl,fun b a _ _=>by unfold bK;simp⟩
 |p :: ps,M,s2,s3,wn=>by
  have hp:=wn p (mem_cons_self ..)
  obtain⟨M',s2',s3',e,hM⟩:=yx (l:=l) h8 ps (orM M p) (.fz (.int p.1)) (.fz (.int p.2)) fun q hq=>wn q (mem_cons_of_mem _ hq)
  refine⟨M',s2',s3',?_,fun b a hb ha=>?_⟩
  ·rw[map_cons]
   unfold lu
   rw[show iq (.two 2 3) (aq p) [.fz (au n l),.ow (cP n M),s2,s3]=some [.fz (au n l),.ow (cP n M),.fz (.int p.1),.fz (.int p.2)] from rfl]
   dsimp only
   have e1:(p.2.toNat:Int)=p.2:=by omega
   have e2:(p.1.toNat:Int)=p.1:=by omega
   have ew:aw vd (aa (f2 (gv 1) (gv 3) a8) (aa (gv 2) ag)) (vl [.fz (au n l),.ow (cP n M),.fz (.int p.1),.fz (.int p.2)]) 0=.ok (mI (ik (M p.2.toNat) p.1.toNat) n) 0:=by
    refine aI (b:=false) (ds:=[mI (M p.2.toNat) n,.int (p.1.toNat:Int)]) (ac (aA (x:=cP n M) (y:=.int p.2) rfl rfl ?_) (ac ?_ an)) (AA h8 (by omega))
    ·have:=Ba (n:=n) (M:=M) (b:=p.2.toNat) (by omega)
     rw[e1] at this
     exact this
    ·show R.ok (int p.1) 0=_
     rw[e2]
   rw[AS (ds:=(List.range n).map fun b=>mI (M b) n) (d:=mI (ik (M p.2.toNat) p.1.toNat) n) (k:=p.2) (n:=p.2.toNat) (β1:=0) (β2:=0) ew (by rfl) rfl (by rfl) (by
    unfold qN
    rw[if_pos hp.2.1,if_pos (by simp;omega)]),Gs hp.1 hp.2]
   dsimp only
   exact e
  ·rw[hM b a hb ha]
   unfold orM bK
   obtain⟨p1,p2⟩:=p
   rw[Bool.or_assoc]
   congr 1
   rw[Bool.eq_iff_iff]
   simp only[Bool.or_eq_true,Bool.and_eq_true,decide_eq_true_eq,mem_cons,Prod.mk.injEq]
   constructor
   ·rintro (⟨h1,h2⟩ |h)
    ·exact .inl ⟨h2,h1⟩
    ·exact .inr h
   ·rintro (⟨h1,h2⟩ |h)
    ·exact .inl ⟨h2,h1⟩
    ·exact .inr h
theorem zH {n:Nat}{M N:Nat->Nat->Bool}(h:∀b a,b < n->a < n->M b a=N b a):cP n M=cP n N:=by
 unfold cP
 congr 1
 refine map_congr_left fun b hb=>?_
 unfold mI
 congr 2
 rw[mk_eq]
 exact fun a ha=>h b a (mem_range.mp hb) ha
theorem JM {n:Nat}{l:List Pr}(O:OM.Ord n l):JA [au n l]=.ok (cP n (bK l)) true:=by
 have h8:=O.hi
 show fin (gz vd [.fz (au n l),.no,.no,.no] 0)=_
 unfold gz
 rw[ah (env':=[.fz (au n l),.ow (cP n fun _ _=>false),.no,.no]) (β':=0) ?a]
 case a=>
  have e:f2 (bo (aa (cst (.int 0)) ag)) (f2 (gv 0) (cst (.int 0)) a8) AX (vl [.fz (au n l),.no,.no,.no]) 0=.ok (cP n fun _ _=>false) 0:=by
   refine aA (lp (ac (ck _) an)) (G9 (n:=n) (l:=l) rfl) ?_
   simp only[AX]
   rw[if_pos ⟨by omega,by omega,by rw[sizeLine_eq];simp;omega⟩]
   unfold cP
   congr 2
   rw[Int.toNat_natCast]
   have hz:∀m,mk (fun _=>false) m=0:=fun m=>by
    induction m with
    |zero=>rfl
    |succ m ih=>unfold mk;rw[ih];simp
   unfold mI
   simp only[hz]
   have:∀m:Nat,(List.replicate m [int 0]).flatten=List.replicate m (int 0):=fun m=>by
    induction m with
    |zero=>rfl
    |succ m ih=>rw[replicate_succ,replicate_succ,flatten_cons,ih];rfl
   rw[this]
   refine List.ext_getElem (by simp) fun i h1 h2=>by simp
  rw[fG,e];rfl
 obtain⟨M',s2,s3,e,hM⟩:=yx (l:=l) h8 l (fun _ _=>false) .no .no O.wn
 have hm:cP n M'=cP n (bK l):=zH fun b a hb ha=>by rw[hM b a hb ha];rfl
 rw[hm] at e
 rw[ah (env':=[.fz (au n l),.ow (cP n (bK l)),s2,s3]) (β':=0) (by
  rw[b8 (env:=[.fz (au n l),.ow (cP n fun _ _=>false),.no,.no]) (ds:=l.map aq) (β1:=0) (by unfold bw;rw[Jc (n:=n) (l:=l) rfl];rfl)]
  exact e)]
 rfl
end RM
namespace RM
open PySem L2
def dH (r:List Int)(i:Nat):Bool:=decide ((i:Int)∈r)
def IE:List D->FR:=bg 5 2 (gG vd)
theorem AD {n:Nat}{l:List Pr}(O:OM.Ord n l){r:List Int}{t:Nat}(ht:t < n):(!decide (mk (ik (dH r) t) n=mk (dH r) n) && decide (mk (dH r) n &&& mk (bK l t) n=mk (bK l t) n))=fR l r t:=by
 unfold fR
 congr 1
 ·congr 1
  rw[decide_eq_decide,mk_eq]
  constructor
  ·intro h
   have:=h t ht
   unfold ik dH at this
   simp at this
   exact this
  ·intro h i hi
   unfold ik dH
   by_cases e:i=t
   ·subst e;simp[h]
   ·simp[e]
 ·rw[decide_eq_decide,Fq]
  constructor
  ·intro h
   rw[List.eq_nil_iff_forall_not_mem]
   intro a ha
   obtain⟨h1,h2⟩:=kB.mp ha
   have hw:=(O.wn _ h1).1
   simp only at hw
   have e:((a.toNat:Nat):Int)=a:=by omega
   have:=h a.toNat (by omega) (by unfold bK;rw[e];exact decide_eq_true h1)
   unfold dH at this
   rw[e] at this
   exact h2 (of_decide_eq_true this)
  ·intro h i hi hg
   unfold dH
   refine decide_eq_true (Classical.byContradiction fun q=>?_)
   have:(i:Int)∈qP l r t:=kB.mpr ⟨of_decide_eq_true hg,q⟩
   rw[h] at this;cases this
theorem Ds {n:Nat}{l:List Pr}(O:OM.Ord n l)(r:List Int):∃s3 s4,lu (.two 3 4) (jS ((([1] ++ ([3] ++ [])) ++ []) ++ (([] ++ []) ++ [])) (sH (bD (f2 (aw vd (aa (gv 1) (aa (gv 3) ag))) (gv 1) (bL true))) (bD (f2 (f2 (gv 1) (gv 4) CC) (gv 4) (bL false))))
  (ij 2 [3] (gv 3)) lh) (j3 ((List.range n).map fun b=>mI (bK l b) n)) [.fz (cP n (bK l)),.fz (mI (dH r) n),.ow (.list []),.no,.no] 0=.nx [.fz (cP n (bK l)),.fz (mI (dH r) n),.ow (.list ((bt l r n).map int)),s3,s4] 0:=by
 have h8:=O.hi
 obtain⟨env',β',ef,s3,s4,rfl,rfl⟩:=cj (t:=.two 3 4) (m:=jS ((([1] ++ ([3] ++ [])) ++ []) ++ (([] ++ []) ++ [])) (sH (bD (f2 (aw vd (aa (gv 1) (aa (gv 3) ag))) (gv 1) (bL true))) (bD (f2 (f2 (gv 1) (gv 4) CC) (gv 4) (bL false))))
  (ij 2 [3] (gv 3)) lh) (ds:=j3 ((List.range n).map fun b=>mI (bK l b) n)) (k:=0)
  (fun k env b=>∃s3 s4,env= [.fz (cP n (bK l)),.fz (mI (dH r) n),.ow (.list ((bt l r k).map int)),s3,s4]/\b=0)
  (env:=[.fz (cP n (bK l)),.fz (mI (dH r) n),.ow (.list []),.no,.no]) (β:=0) ⟨.no,.no,rfl,rfl⟩ (by
   rintro k d env b hk ⟨s3,s4,rfl,rfl⟩
   unfold j3 at hk
   rw[List.getElem?_mapIdx,getElem?_map] at hk
   have hkn:k < n:=by
    by_cases h:k < n
    ·exact h
    ·rw[getElem?_eq_none (by simp;omega)] at hk;cases hk
   rw[getElem?_range hkn] at hk
   cases hk
   refine⟨[.fz (cP n (bK l)),.fz (mI (dH r) n),.ow (.list ((bt l r (0 + k)).map int)),.fz (.int k),.fz (mI (bK l k) n)],rfl,?_⟩
   rw[Nat.zero_add]
   have et:sH (bD (f2 (aw vd (aa (gv 1) (aa (gv 3) ag))) (gv 1) (bL true))) (bD (f2 (f2 (gv 1) (gv 4) CC) (gv 4) (bL false))) (vl [.fz (cP n (bK l)),.fz (mI (dH r) n),.ow (.list ((bt l r k).map int)),.fz (.int k),.fz (mI (bK l k) n)]) 0=.ok (fR l r k) 0:=by
    rw[<-AD O hkn]
    refine qE (bS _ _ _ _ (aA (x:=mI (ik (dH r) k) n) (y:=mI (dH r) n) (aI (ds:=[mI (dH r) n,.int k]) rfl (AA h8 hkn)) rfl ?_)) (bS _ _ _ _ (aA (x:=.int ((mk (dH r) n &&& mk (bK l k) n:Nat):Int)) (y:=mI (bK l k) n) (aA (x:=mI (dH r) n) (y:=mI (bK l k) n) rfl rfl ?_) rfl ?_))
    ·unfold mI;rw[nC,if_pos rfl];congr 3;rw[decide_eq_decide];omega
    ·show some (int (Builtin.bitAnd _ _))=_
     rw[wJ]
    ·unfold mI;rw[nC,if_neg Bool.false_ne_true];congr 2;rw[decide_eq_decide];omega
   cases c:fR l r (k:Int) with
   |true=>
    rw[c] at et
    refine⟨[.fz (cP n (bK l)),.fz (mI (dH r) n),.ow (.list ((bt l r (k + 1)).map int)),.fz (.int k),.fz (mI (bK l k) n)],0,?_,_,_,rfl,rfl⟩
    rw[hW et]
    have hz:=j4 l r k
    rw[show bp ((([1] ++ ([3] ++ [])) ++ []) ++ (([] ++ []) ++ [])) [.fz (cP n (bK l)),.fz (mI (dH r) n),.ow (.list ((bt l r k).map int)),.fz (.int k),.fz (mI (bK l k) n)]= [.fz (cP n (bK l)),.fz (mI (dH r) n),.ow (.list ((bt l r k).map int)),.fz (.int k),.fz (mI (bK l k) n)] from rfl]
    rw[jm (i:=2) (ds:=(bt l r k).map int) (d:=.int k) (β':=0) (by rfl) rfl (by rfl) (by rw[length_map];omega),oo,if_pos c,map_append]
    rfl
   |false=>
    rw[c] at et
    refine⟨[.fz (cP n (bK l)),.fz (mI (dH r) n),.ow (.list ((bt l r (k + 1)).map int)),.fz (.int k),.fz (mI (bK l k) n)],0,?_,_,_,rfl,rfl⟩
    rw[cW et,oo,c,show bt l r k ++ (if false=true then [(k:Int)] else [])=bt l r k by simp]
    rfl)
 have hle:(j3 ((List.range n).map fun b=>mI (bK l b) n)).length=n:=by unfold j3;simp
 rw[Nat.zero_add,hle] at ef
 exact⟨s3,s4,ef⟩
theorem JY {n:Nat}{l:List Pr}(O:OM.Ord n l)(r:List Int):IE [cP n (bK l),mI (dH r) n]=.ok (.list ((bt l r n).map int)) true:=by
 show fin (gG vd [.fz (cP n (bK l)),.fz (mI (dH r) n),.no,.no,.no] 0)=_
 unfold gG
 rw[ah (env':=[.fz (cP n (bK l)),.fz (mI (dH r) n),.ow (.list []),.no,.no]) (β':=0) (by rw[fG,lp (ds:=[]) an];rfl)]
 obtain⟨s3,s4,e⟩:=Ds O r
 rw[ah (env':=[.fz (cP n (bK l)),.fz (mI (dH r) n),.ow (.list ((bt l r n).map int)),s3,s4]) (β':=0) (by
  rw[b8 (env:=[.fz (cP n (bK l)),.fz (mI (dH r) n),.ow (.list []),.no,.no]) (ds:=j3 ((List.range n).map fun b=>mI (bK l b) n)) (β1:=0) rfl]
  exact e)]
 rfl
noncomputable def IB:List D->FR:=bg 6 2 (jw IE vd)
structure Ff (n:Nat)(l:List Pr)(late r:List Int):Prop where
 beg:A0 n l r
 late:∀q x,(q ++ [x]) <+:r->x∈late->∀y:Int,(0<=y/\y < n)->fR l q y=true->y∈late
theorem wb (neg:Bool)(a:Int)(s:List Int):lb neg (.int a) (.list (s.map int))=some (.bool (if neg then !decide (a∈s) else decide (a∈s))):=by
 unfold lb
 simp only[ji,rR,any_ints]
 rfl
theorem Ff.more {n:Nat}{l:List Pr}{late r:List Int}{x:Int}(R:Ff n l late r)(hx:0<=x/\x < (n:Int))(hf:fR l r x=true)(hl:x∈late->∀y:Int,(0<=y/\y < n)->fR l r y=true->y∈late):Ff n l late (r ++ [x]):=by
 refine⟨R.beg.more hx hf,fun q z hp hz y hy hfy=>?_⟩
 rcases List.prefix_concat_iff.mp hp with e |hp
 ·have:=List.append_inj' e rfl
  obtain⟨rfl,e2⟩:=this
  cases e2
  exact hl hz y hy hfy
 ·exact R.late q z hp hz y hy hfy
theorem GX (n:Nat):mI (dH []) n=.int 0:=by
 unfold mI
 congr 1
 have:mk (dH []) n=0:=by
  induction n with
  |zero=>rfl
  |succ m ih=>unfold mk;rw[ih];simp[dH]
 rw[this];rfl
theorem FF {n:Nat}{r:List Int}{x:Int}(h:0<=x/\x < n):mI (ik (dH r) x.toNat) n=mI (dH (r ++ [x])) n:=by
 unfold mI
 congr 2
 rw[mk_eq]
 intro i hi
 unfold ik dH
 rw[Bool.eq_iff_iff]
 simp only[Bool.or_eq_true,decide_eq_true_eq,mem_append,mem_singleton]
 constructor
 ·rintro (h |h)
  ·exact .inl h
  ·exact .inr (by omega)
 ·rintro (h |h)
  ·exact .inl h
  ·exact .inr (by omega)
theorem Ka {n:Nat}{l:List Pr}{late:List Int}(O:OM.Ord n l)(hz:late.length<=100):∃r,IB [cP n (bK l),.list (late.map int)]=.ok (tupI r) false/\Row n l r/\Ff n l late r:=by
 have h8:=O.hi
 show ∃r,fin (jw IE vd [.fz (cP n (bK l)),.fz (.list (late.map int)),.no,.no,.no,.no] 0)=.ok (tupI r) false/\Row n l r/\Ff n l late r
 unfold jw
 rw[ah (env':=[.fz (cP n (bK l)),.fz (.list (late.map int)),.ow (.list (([]:List Int).map int)),.no,.no,.no]) (β':=0) (by rw[fG,lp (ds:=[]) an];rfl)]
 rw[ah (env':=[.fz (cP n (bK l)),.fz (.list (late.map int)),.ow (.list (([]:List Int).map int)),.fz (mI (dH []) n),.no,.no]) (β':=0) (by rw[bA,GX];rfl)]
 obtain⟨env',β',ew,r,s4,s5,rfl,rfl,hr,R⟩:=fV (L:=[] ++ []) (t:=bD (f2 (f1 (gv 2) bV) (f1 (gv 0) bV) vL))
  (m:=aG (ba 4 ([0] ++ ([3] ++ [])) (aw IE (aa (gv 0) (aa (gv 3) ag))))
   (aG (ba 5 ([] ++ []) (aK 1 [1] (.nm 0) (bw (gv 4)) (bD (f2 (gv 0) (gv 1) (lb true))) (gv 0)))
   (aG (ij 2 (([] ++ []) ++ []) (f2 (f2 (gv 5) (gv 4) fU) (cst (.int 0)) a8))
   (ba 3 ([3] ++ (([] ++ []) ++ [])) (aw vd (aa (gv 3) (aa (f2 (gv 2) (f1 (cst (.int 1)) ox) a8) ag)))))))
  (fun k env b=>∃r s4 s5,env= [.fz (cP n (bK l)),.fz (.list (late.map int)),.ow (.list (r.map int)),.fz (mI (dH r) n),s4,s5]/\b=0/\Ff n l late r/\k=n - r.length)
  (fun env b=>∃r s4 s5,env= [.fz (cP n (bK l)),.fz (.list (late.map int)),.ow (.list (r.map int)),.fz (mI (dH r) n),s4,s5]/\b=0/\Row n l r/\Ff n l late r)
  (n:=1000) (k:=n) (env:=[.fz (cP n (bK l)),.fz (.list (late.map int)),.ow (.list (([]:List Int).map int)),.fz (mI (dH []) n),.no,.no]) (β:=0) (by omega)
  ⟨[],.no,.no,rfl,rfl,⟨⟨nodup_nil,(fun x hx=>by cases hx),(fun p _ h=>by cases h)⟩,fun q x hp=>by simp at hp⟩,by simp⟩ (by
   rintro k env b ⟨r,s4,s5,rfl,rfl,R,rfl⟩
   have hrl:=R.beg.len
   have et:bD (f2 (f1 (gv 2) bV) (f1 (gv 0) bV) vL) (vl [.fz (cP n (bK l)),.fz (.list (late.map int)),.ow (.list (r.map int)),.fz (mI (dH r) n),s4,s5]) 0=.ok (decide ((r.length:Int) < n)) 0:=by
    refine bS _ _ _ _ (aA (x:=.int r.length) (y:=.int n) (β1:=0) ?_ ?_ rfl)
    ·rw[mD (ds:=r.map int) rfl,length_map]
    ·rw[mD (ds:=(List.range n).map fun b=>mI (bK l b) n) rfl,length_map,length_range]
   refine⟨_,_,et,?_⟩
   by_cases hlt:r.length < n
   ·refine .inr ⟨decide_eq_true (by omega),?_⟩
    show ∃env2 β2 k',aG _ _ [.fz (cP n (bK l)),.fz (.list (late.map int)),.ow (.list (r.map int)),.fz (mI (dH r) n),s4,s5] 0=.nx env2 β2/\k' < n - r.length/\_
    rw[ah (env':=[.fz (cP n (bK l)),.fz (.list (late.map int)),.ow (.list (r.map int)),.fz (mI (dH r) n),.fz (.list ((bt l r n).map int)),s5]) (β':=0) (by rw[bA,aI (ds:=[cP n (bK l),mI (dH r) n]) (β1:=0) rfl (JY O r)];rfl)]
    have ec:aK 1 [1] (.nm 0) (bw (gv 4)) (bD (f2 (gv 0) (gv 1) (lb true))) (gv 0) (vl [.fz (cP n (bK l)),.fz (.list (late.map int)),.ow (.list (r.map int)),.fz (mI (dH r) n),.fz (.list ((bt l r n).map int)),s5]) 0=.ok (.list (((bt l r n).filter fun x=> !decide (x∈late)).map int)) 0:=by
     refine bZ (l:=bt l r n) (e:=int) (fun x=> !decide (x∈late)) int rfl (by have:=j4 l r n;omega) fun x hx=>⟨_,rfl,?_,fun _=>rfl⟩
     exact bS _ _ _ _ (aA (x:=.int x) (y:=.list (late.map int)) rfl rfl (wb true x late))
    generalize hEE:((bt l r n).filter fun x=> !decide (x∈late))=EE at ec
    rw[ah (env':=[.fz (cP n (bK l)),.fz (.list (late.map int)),.ow (.list (r.map int)),.fz (mI (dH r) n),.fz (.list ((bt l r n).map int)),.fz (.list (EE.map int))]) (β':=0) (by rw[bA,ec];rfl)]
    have hne:bt l r n≠ []:=R.beg.free O hlt
    have hEl:EE.length<=n:=by rw[<-hEE];exact Nat.le_trans (length_filter_le _ _) (j4 l r n)
    have hfl:=j4 l r n
    obtain⟨x,L,hx⟩:∃x L,EE ++ bt l r n=x :: L:=List.exists_cons_of_ne_nil (by simp[hne])
    have hxm:x∈bt l r n:=by
     have:x∈EE ++ bt l r n:=by rw[hx];exact mem_cons_self ..
     rcases mem_append.mp this with h |h
     ·rw[<-hEE] at h;exact (mem_filter.mp h).1
     ·exact h
    obtain⟨hm1,hm2⟩:=mem_filter.mp hxm
    have hxr:=bF.mp hm1
    have hlate:x∈late->∀y:Int,(0<=y/\y < n)->fR l r y=true->y∈late:=fun hxl y hy hfy=>by
     apply Classical.byContradiction
     intro hn
     have hyE:y∈EE:=by rw[<-hEE];exact mem_filter.mpr ⟨mem_filter.mpr ⟨bF.mpr hy,hfy⟩,by simp[hn]⟩
     cases hE:EE with
     |nil=>rw[hE] at hyE;cases hyE
     |cons z Z=>
      rw[hE,List.cons_append] at hx
      have e1:=(List.cons.inj hx).1
      have:z∈EE:=by rw[hE];exact mem_cons_self ..
      rw[<-hEE] at this
      have:=(mem_filter.mp this).2
      rw[e1] at this
      simp[hxl] at this
    have R':=R.more hxr hm2 hlate
    rw[ah (env':=[.fz (cP n (bK l)),.fz (.list (late.map int)),.ow (.list ((r ++ [x]).map int)),.fz (mI (dH r) n),.fz (.list ((bt l r n).map int)),.fz (.list (EE.map int))]) (β':=0) ?bb]
    case bb=>
     have ei:f2 (f2 (gv 5) (gv 4) fU) (cst (.int 0)) a8 (vl [.fz (cP n (bK l)),.fz (.list (late.map int)),.ow (.list (r.map int)),.fz (mI (dH r) n),.fz (.list ((bt l r n).map int)),.fz (.list (EE.map int))]) 0=.ok (.int x) 0:=by
      refine aA (x:=.list ((EE ++ bt l r n).map int)) (y:=.int 0) (aA (x:=.list (EE.map int)) (y:=.list ((bt l r n).map int)) rfl rfl ?_) rfl ?_
      ·rw[lY (by rw[length_map,length_map];omega),map_append]
      ·rw[hx];exact nM (xs:=.int x :: L.map int) (j:=0) rfl
     rw[jm (i:=2) (ds:=r.map int) (d:=.int x) (β':=0) (by rfl) ei (by rfl) (by rw[length_map];omega),map_append]
     rfl
    have e1:(x.toNat:Int)=x:=by omega
    have el:f2 (gv 2) (f1 (cst (.int 1)) ox) a8 (vl [.fz (cP n (bK l)),.fz (.list (late.map int)),.ow (.list ((r ++ [x]).map int)),.fz (mI (dH r) n),.fz (.list ((bt l r n).map int)),.fz (.list (EE.map int))]) 0=.ok (.int (x.toNat:Int)) 0:=by
     refine aA (x:=.list ((r ++ [x]).map int)) (y:=.int (-1)) rfl rfl ?_
     show jT ((r ++ [x]).map int) (-1)=_
     rw[e1]
     unfold jT qN
     rw[if_neg (by omega),if_pos (by simp;omega)]
     show ((r ++ [x]).map int)[((-1:Int) + ((((r ++ [x]).map int).length:Nat):Int)).toNat]? =_
     rw[show ((-1:Int) + ((((r ++ [x]).map int).length:Nat):Int)).toNat=r.length by simp;omega,map_append,getElem?_append_right (by simp)]
     simp
    refine⟨[.fz (cP n (bK l)),.fz (.list (late.map int)),.ow (.list ((r ++ [x]).map int)),.fz (mI (dH (r ++ [x])) n),.fz (.list ((bt l r n).map int)),.fz (.list (EE.map int))],0,n - (r ++ [x]).length,?_,by rw[length_append,length_singleton];omega,_,_,_,rfl,rfl,R',rfl⟩
    rw[bA,aI (ds:=[mI (dH r) n,.int (x.toNat:Int)]) (β1:=0) (ac rfl (ac el an)) (AA h8 (by omega)),FF hxr];rfl
   ·refine .inl ⟨decide_eq_false (by omega),r,s4,s5,rfl,rfl,R.beg.row O (by omega),R⟩)
 rw[ah (env':=[.fz (cP n (bK l)),.fz (.list (late.map int)),.ow (.list (r.map int)),.fz (mI (dH r) n),s4,s5]) (β':=0) ew]
 exact⟨r,rfl,hr,R⟩
def l9 (cw eV:List D->FR):SF:=(bG (eJ (aw cw (aa (gv 0) (aa (f2 (gv 1) (cst (.int 0)) a8) ag))) (aw eV (aa (gv 1) (aa (f2 (gv 0) (cst (.int 0)) a8) (aa (f2 (gv 0) (cst (.int 1)) a8) ag))))))
def jF (iP:List D->FR):SF:=(bG (eJ (f1 (gv 0) (gS "list")) (f1 (aK 1 [1] (.nm 0) (bw (gv 0)) ki (aw iP (aa (gv 0) (aa (gv 1) ag)))) (dk fun bs=>bs.all id))))
def kq:SF:=(bG (Gj (f2 (f2 (gv 1) (cst (.int 0)) a8) (f2 (gv 2) (cst (.int 1)) a8) (bL false)) (f2 (bH (aa (f2 (gv 1) (cst (.int 0)) a8) (aa (f2 (gv 2) (cst (.int 1)) a8) ag))) (f2 (gv 0) (cst (.int 1)) a8) (lb false))))
def ko (aH:List D->FR):SF:=(bG (f2 (aw aH (aa (f2 (gv 0) (gv 2) a8) (aa (gv 1) ag))) (f2 (gv 0) (gv 2) a8) (bL false)))
def jj (b9:List D->FR):SF:=(bG (aw b9 (aa (gv 0) (aa (f2 (gv 1) (cst (.int 0)) a8) (aa (f2 (gv 1) (cst (.int 1)) a8) ag)))))
def kZ (b9 aH:List D->FR):SF:=(aG (ba 2 ([] ++ [0]) (aK 1 [1,0] (.nm 0) (bX (f1 (gv 0) bV)) (hZ (bD (f2 (gv 0) (f2 (gv 1) (cst (.int 0)) a8) (bL false))) (iY (aw b9 (aa (gv 2) (aa (f2 (gv 1) (cst (.int 0)) a8) (aa (gv 0) ag)))))) (gv 0)))
 (aG (ba 3 (([] ++ ([] ++ [])) ++ (([] ++ []) ++ [])) (aw aH (aa (f2 (gv 0) (f2 (gv 1) (cst (.int 1)) a8) a8) (aa (f2 (gv 1) (cst (.int 1)) a8) ag))))
 (rL (aK 2 [2,3] (.two 0 1) (D9 (gv 0)) ki (IX (bD (f2 (gv 0) (gv 2) (lb false))) (f2 (gv 1) (gv 3) IP) (gv 1))))))
def jy (eR:List D->FR):SF:=(aG (gY 3 (([2] ++ []) ++ []) (bo (aa (bo (aa (gv 2) ag)) ag)))
 (aG (ba 4 [1] (gv 1))
 (aG (ba 5 [] (cst (.int 0)))
 (aG (ie ([0] ++ ((([] ++ []) ++ []) ++ ([2] ++ []))) (nP (iY (aw eR (aa (gv 0) (aa (f2 (f2 (gv 3) (gv 5) a8) (f1 (cst (.int 1)) ox) a8) (aa (gv 2) ag))))))
 (aG (ba 6 ([] ++ [0]) (aK 1 [0,3,5] (.nm 0) (bw (gv 4)) (iY (aw eR (aa (gv 1) (aa (f2 (f2 (gv 2) (gv 3) a8) (f1 (cst (.int 1)) ox) a8) (aa (gv 0) ag))))) (gv 0)))
 (aG (ba 4 ([] ++ []) (aK 1 [6] (.nm 0) (bw (gv 4)) (bD (f2 (gv 0) (gv 1) (lb true))) (gv 0)))
 (aG (zy 3 ([] ++ []) (aK 1 [3,5] (.nm 0) (bw (gv 6)) ki (f2 (f2 (gv 1) (gv 2) a8) (bo (aa (gv 0) ag)) fU)))
 (ba 5 ([] ++ []) (f2 (gv 5) (cst (.int 1)) cc))))) 1000)
 (bG (f2 (gv 3) (gv 5) a8))))))
def kN (dM fm c8 fq fw fW fg:List D->FR):SF:=(aG (BY ([0] ++ []) (aw dM (aa (gv 0) ag)))
 (aG (jS ([1] ++ ([0] ++ [])) (nP (iY (aw fm (aa (gv 1) (aa (gv 0) ag)))))
 (fun env β=>toS ((aa (cst (.str "this is no list of turns of the order")) ag) (vl env) β) fun ds _=>if ds.length<=sizeLine then .exc "NoTurns" else .bad)
 lh)
 (aG (ba 2 ([0] ++ []) (aw c8 (aa (gv 0) ag)))
 (aG (gY 3 [] (bo ag))
 (aG (cH (.nm 4) [1] (bw (gv 1))
 (aG (jS ([2] ++ ([4] ++ [])) (iY (aw fq (aa (gv 2) (aa (gv 4) ag))))
 (bG (bH (aa (cst (.str "ring")) (aa (aw fw (aa (gv 0) (aa (gv 3) (aa (gv 4) ag)))) ag))))
 lh)
 (aG (ba 2 ([2] ++ ([4] ++ [])) (aw fW (aa (gv 2) (aa (gv 4) ag))))
 (ij 3 [4] (gv 4)))))
 (bG (bH (aa (cst (.str "row")) (aa (aw fg (aa (gv 2) (aa (bo ag) ag))) ag)))))))))
def fI:SF:=(aG (gY 2 [] (bo ag))
 (aG (cH (.nm 3) [] (bX (gv 0))
 (cH (.nm 4) [] (bX (gv 0))
 (aG (ba 5 ([] ++ []) (aK 1 [3,4] (.nm 0) (bw (gv 1)) (bD (f2 (eN (gv 0) (gv 1)) (eN (gv 0) (gv 2)) Cs)) (cst (.int 1))))
 (jS (([] ++ []) ++ ([] ++ [])) (sH (bD (f2 (gv 3) (gv 4) (bL true))) (bD (f2 (gv 5) (bo ag) (bL false))))
 (ij 2 ([3] ++ ([4] ++ [])) (bH (aa (gv 3) (aa (gv 4) ag))))
 lh))))
 (bG (f1 (gv 2) i7))))
def fC (bI bJ:List D->FR):SF:=(aG (jS ([] ++ (([] ++ []) ++ ([] ++ []))) (hZ (nP (iY (f1 (gv 1) (gS "tuple")))) (hZ (bD (f2 (f1 (gv 1) bV) (cst (.int 2)) (bL true))) (nP (iY (f1 (aK 1 [] (.nm 0) (bw (gv 1)) ki (aw bI (aa (gv 0) ag))) (dk fun bs=>bs.all id))))))
 (bG (cst (.bool false)))
 lh)
 (bG (f2 (gv 1) (aw bJ (aa (gv 0) ag)) (lb false))))
def nk:SF:=(bG (Gj (f2 (f2 (gv 1) (cst (.int 0)) a8) (f2 (gv 2) (cst (.int 1)) a8) (bL false)) (f2 (bH (aa (f2 (gv 1) (cst (.int 0)) a8) (aa (f2 (gv 2) (cst (.int 1)) a8) ag))) (f2 (gv 0) (cst (.int 1)) a8) (lb false))))
def fy (cK dF:List D->FR):SF:=(aG (jS ([] ++ (([] ++ []) ++ ([] ++ [1]))) (hZ (nP (iY (f1 (gv 0) (gS "list")))) (hZ (bD (f2 (gv 0) (bo ag) (bL false))) (nP (iY (f1 (aK 1 [1] (.nm 0) (bw (gv 0)) ki (aw cK (aa (gv 1) (aa (gv 0) ag)))) (dk fun bs=>bs.all id))))))
 (bG (cst (.bool false)))
 lh)
 (bG (f1 (aK 1 [1,0] (.nm 0) (bX (f1 (gv 0) bV)) ki (aw dF (aa (gv 1) (aa (f2 (gv 2) (f2 (gv 0) (cst (.int 1)) vQ) a8) (aa (f2 (gv 2) (gv 0) a8) ag))))) (dk fun bs=>bs.all id))))
noncomputable def iM (aB aM:List D->Int->FB):SF:=(aG (ba 1 ([] ++ ([] ++ [])) (f2 (cst (.int 3)) (fO 0 aB (aa (cst (.int 2)) ag)) cc))
 (aG (ba 2 (([] ++ []) ++ []) (fO 0 aM (aa (f1 (f2 (cst (.int 2)) (gv 1) cJ) cf) ag)))
 (aG (ba 3 [] (bo ag))
 (aG (cH (.nm 4) [] (bX (gv 1))
 (aG (ba 5 ([] ++ []) (aK 1 [4,2,1] (.nm 0) (bX (gv 1)) (bD (f2 (gv 0) (gv 1) (bL true))) (f2 (gv 2) (f2 (gv 3) (gv 0) cc) a8)))
 (ba 3 ([] ++ ([] ++ [])) (f2 (gv 3) (aK 1 [2,4] (.nm 0) (bw (gv 5)) ki (bH (aa (f2 (gv 1) (gv 2) a8) (aa (gv 0) ag)))) fU))))
 (bG (bH (aa (f2 (cst (.int 2)) (gv 1) cJ) (aa (f1 (f1 (gv 3) mT) i7) ag))))))))
def dC (fj:List D->FR)(aB dG aM dD:List D->Int->FB):SF:=(aG (ba 2 ([] ++ []) (fO 0 aB (aa (cst (.int 5)) ag)))
 (aG (jS ([] ++ []) (bD (f2 (gv 2) (cst (.int 4)) (bL false)))
 (bG (fO 0 dG ag))
 lh)
 (aG (jS ([] ++ []) (bD (f2 (gv 2) (cst (.int 3)) (bL false)))
 (aG (ba 3 ([] ++ ([1] ++ [])) (f2 (cst (.int 1)) (fO 0 aB (aa (gv 1) ag)) cc))
 (aG (ba 4 ([] ++ []) (aK 1 [0,3] (.nm 0) (bX (cst (.int 2))) ki (f1 (fO 1 aM (aa (f1 (gv 2) cf) ag)) i7)))
 (bG (bH (aa (gv 3) (aa (aw fj (aa (gv 3) (aa (gv 4) ag))) ag))))))
 lh)
 (bG (fO 0 dD (aa (gv 1) ag))))))
noncomputable def iz (cI c7 fo:List D->FR):SF:=(aG (jS ([] ++ ([] ++ [])) (hZ (nP (iY (f1 (gv 0) (gS "tuple")))) (bD (f2 (f1 (gv 0) bV) (cst (.int 2)) (bL true))))
 (bG (cst (.bool false)))
 lh)
 (aG (jS (([] ++ []) ++ []) (bD (f2 (f2 (gv 0) (cst (.int 0)) a8) (cst (.str "ring")) (bL false)))
 (aG (ba 3 ([] ++ []) (f2 (gv 0) (cst (.int 1)) a8))
 (aG (jS (([3] ++ ([1] ++ [])) ++ ([] ++ [])) (hZ (nP (iY (aw cI (aa (gv 3) (aa (gv 1) ag))))) (bD (f2 (f1 (gv 3) i6) (f1 (gv 3) bV) (bL true))))
 (bG (cst (.bool false)))
 lh)
 (bG (f2 (aK 1 [2] (.nm 0) (bw (f2 (gv 0) (cst (.int 1)) a8)) (bD (f2 (gv 0) (gv 1) (lb true))) (gv 0)) (bo ag) (bL false)))))
 lh)
 (aG (jS ((([] ++ []) ++ []) ++ ((([] ++ []) ++ (([] ++ []) ++ [])) ++ ([1] ++ (([] ++ []) ++ [])))) (hZ (bD (f2 (f2 (gv 0) (cst (.int 0)) a8) (cst (.str "row")) (bL true))) (hZ (nP (iY (aw c7 (aa (f2 (gv 0) (cst (.int 1)) a8) (aa (f2 (gv 1) (cst (.int 0)) a8) ag))))) (nP (iY (aw fo (aa (gv 1) (aa (f2 (gv 0) (cst (.int 1)) a8) ag)))))))
 (bG (cst (.bool false)))
 lh)
 (bG (f2 (aK 2 [0] (.two 0 1) (bw (gv 2)) (bD (f2 (eN (f2 (gv 2) (cst (.int 1)) a8) (gv 1)) (eN (f2 (gv 2) (cst (.int 1)) a8) (gv 0)) Cs)) (cst (.int 1))) (bo ag) (bL false))))))
def yF (fZ bJ dZ dE:List D->FR)(b6 gj aB:List D->Int->FB):SF:=(aG (cH (.nm 1) ([] ++ ([] ++ [])) (bX (f2 (cst (.int 1)) (f2 (f1 (gv 0) bV) (cst (.int 3)) (vA fun i j=>.int (if j < i then j else i))) (vA fun i j=>.int (if j > i then j else i))))
 (aG (yK 2 ([0] ++ ([1] ++ [])) (sN fZ (aa (gv 0) (aa (gv 1) ag))))
 (aG (ba 3 ([] ++ []) (fO 2 b6 (aa (cst (.int 8)) ag)))
 (aG (ba 4 ([3] ++ []) (aw bJ (aa (gv 3) ag)))
 (aG (ba 5 ([3] ++ []) (fO 2 gj (aa (gv 3) ag)))
 (aG (gY 6 [] (bo ag))
 (aG (cH (.two 7 8) [4] (bw (gv 4))
 (jS (([] ++ []) ++ ([] ++ [])) (bD (f2 (eN (gv 5) (gv 8)) (eN (gv 5) (gv 7)) vL))
 (ij 6 ([7] ++ ([8] ++ [])) (bH (aa (gv 7) (aa (gv 8) ag))))
 lh))
 (aG (gY 9 [] (bo ag))
 (aG (cH (.nm 10) (([] ++ []) ++ ([] ++ [])) (bX (f2 (fO 2 aB (aa (cst (.int 13)) ag)) (f1 (f2 (gv 4) (bo ag) (bL true)) CK) cJ))
 (ij 9 ([] ++ ([] ++ [])) (f2 (gv 4) (fO 2 aB (aa (f1 (gv 4) bV) ag)) a8)))
 (cH (.nm 11) ([6] ++ ([9] ++ ([] ++ ([4] ++ ((([] ++ []) ++ []) ++ []))))) (bw (bo (aa (gv 6) (aa (gv 9) (aa (bo ag) (aa (gv 4) (aa (FX (gv 9) (fun _ β=>.ok none β) (GL (cst (.int 2)))) ag)))))))
 (aG (ba 12 [] (f1 (gv 11) yq))
 (aG (ba 13 ([3] ++ ([12] ++ [])) (aw dZ (aa (gv 3) (aa (gv 12) ag))))
 (aG (jS (([13] ++ ([3] ++ ([11] ++ []))) ++ ([] ++ [])) (hZ (nP (iY (aw dE (aa (gv 13) (aa (gv 3) (aa (gv 11) ag)))))) (bD (f2 (gv 12) (gv 11) (bL true))))
 (bG (cst (.bool false)))
 lh)
 (jS ((([3] ++ ([12] ++ [])) ++ []) ++ (([] ++ []) ++ (([] ++ []) ++ []))) (hZ (bD (f2 (aw dZ (aa (gv 3) (aa (gv 12) ag))) (gv 13) (bL true))) (sH (bD (f2 (gv 11) (gv 6) (bL false))) (bD (f2 (f2 (gv 13) (cst (.int 0)) a8) (cst (.str "row")) (bL true)))))
 (bG (cst (.bool false)))
 lh))))))))))))))
 (bG (cst (.bool true))))
def lq (l:List Pr)(x y:Int):Bool:=decide (x=y) || decide ((x,y)∈l)
theorem fF {l:List Pr}{x y:Int}:lq l x y=true↔x=y\/(x,y)∈l:=by unfold lq;simp
theorem tW {n:Nat}{l:List Pr}(O:OM.Ord n l){x y z:Int}(h:lq l x y=true)(k:lq l y z=true):lq l x z=true:=by
 rw[fF] at *
 rcases h with rfl |h
 ·exact k
 ·rcases k with rfl |k
  ·exact .inr h
  ·exact .inr (O.tr _ _ _ h k)
def putL (n:Nat)(l:List Pr)(t:Pr):List Pr:=(OM.cN n).filter fun p=>decide (p∈l) || (lq l p.1 t.2 && lq l t.1 p.2)
theorem lI {n:Nat}{l:List Pr}{t p:Pr}(h:(0<=p.1/\p.1 < n)/\(0<=p.2/\p.2 < n)):p∈putL n l t↔p∈l\/(lq l p.1 t.2=true/\lq l t.1 p.2=true):=by
 unfold putL
 rw[mem_filter,OM.bh,Bool.or_eq_true,Bool.and_eq_true,decide_eq_true_eq]
 exact⟨fun h=>h.2,fun k=>⟨h,k⟩⟩
theorem og {n:Nat}{l:List Pr}{t p:Pr}(h:p∈putL n l t):p∈l\/(lq l p.1 t.2=true/\lq l t.1 p.2=true):=by
 unfold putL at h
 have:=(mem_filter.mp h).2
 rw[Bool.or_eq_true,Bool.and_eq_true,decide_eq_true_eq] at this
 exact this
theorem DV {n:Nat}{l:List Pr}{t:Pr}(O:OM.Ord n l)(h:lq l t.1 t.2=false):OM.Ord n (putL n l t):=by
 have hn:¬lq l t.1 t.2=true:=by rw[h];exact Bool.false_ne_true
 refine⟨O.lo,O.hi,fun p hp=>OM.bh.mp (mem_filter.mp hp).1,OM.eQ _ (OM.g8 n),fun a ha=>?_,fun a b c hab hbc=>?_⟩
 ·rcases og ha with q | ⟨q1,q2⟩
  ·exact O.irr a q
  ·exact hn (tW O q2 q1)
 ·have g1:=OM.bh.mp (mem_filter.mp hab).1
  have g2:=OM.bh.mp (mem_filter.mp hbc).1
  refine (lI (p:=(a,c)) ⟨g1.1,g2.2⟩).mpr ?_
  rcases og hab with q | ⟨q1,q2⟩
  ·rcases og hbc with r | ⟨r1,r2⟩
   ·exact .inl (O.tr _ _ _ q r)
   ·exact .inr ⟨tW O (fF.mpr (.inr q)) r1,r2⟩
  ·rcases og hbc with r | ⟨r1,r2⟩
   ·exact .inr ⟨q1,tW O q2 (fF.mpr (.inr r))⟩
   ·exact .inr ⟨q1,r2⟩
theorem Dg {n:Nat}{l:List Pr}{t p:Pr}(O:OM.Ord n l)(h:p∈l):p∈putL n l t:=(lI (O.wn p h)).mpr (.inl h)
theorem xA {n:Nat}{l:List Pr}{t:Pr}(h:(0<=t.1/\t.1 < n)/\(0<=t.2/\t.2 < n)):(t.2,t.1)∈putL n l t:=(lI ⟨h.2,h.1⟩).mpr (.inr ⟨fF.mpr (.inl rfl),fF.mpr (.inl rfl)⟩)
def GJ:List D->FR:=bg 3 3 (ko vd)
theorem Hz {n:Nat}{l:List Pr}{a b:Int}(h8:n<=8)(ha:0<=a/\a < n)(hb:0<=b/\b < n):GJ [cP n (bK l),.int a,.int b]=.ok (.bool (decide ((a,b)∈l))) false:=by
 have ea:((a.toNat:Nat):Int)=a:=by omega
 have eb:((b.toNat:Nat):Int)=b:=by omega
 show fin (ko vd [.fz (cP n (bK l)),.fz (.int a),.fz (.int b)] 0)=_
 unfold ko
 have em:f2 (gv 0) (gv 2) a8 (vl [.fz (cP n (bK l)),.fz (.int a),.fz (.int b)]) 0=.ok (mI (bK l b.toNat) n) 0:=by
  refine aA (x:=cP n (bK l)) (y:=.int b) rfl rfl ?_
  have:=Ba (n:=n) (M:=bK l) (b:=b.toNat) (by omega)
  rw[eb] at this
  exact this
 rw[bP,aA (x:=mI (ik (bK l b.toNat) a.toNat) n) (y:=mI (bK l b.toNat) n) (d:=.bool (decide ((a,b)∈l))) (β1:=0) (β2:=0) (aI (b:=false) (ds:=[mI (bK l b.toNat) n,.int (a.toNat:Int)]) (ac em (ac (by rw[ea];rfl) an)) (AA h8 (by omega))) em ?z]
 ·rfl
 case z=>
  unfold mI
  rw[nC,if_neg Bool.false_ne_true]
  congr 2
  rw[decide_eq_decide]
  constructor
  ·intro h
   have h:mk (ik (bK l b.toNat) a.toNat) n=mk (bK l b.toNat) n:=by omega
   have:=mk_eq.mp h a.toNat (by omega)
   unfold ik bK at this
   rw[ea,eb] at this
   simpa using this
  ·intro h
   have:mk (ik (bK l b.toNat) a.toNat) n=mk (bK l b.toNat) n:=mk_eq.mpr fun i hi=>by
    unfold ik bK
    by_cases e:i=a.toNat
    ·rw[e,ea,eb];simp[h]
    ·simp[e]
   rw[this]
def Hb:List D->FR:=bg 2 2 (jj GJ)
theorem Kg {n:Nat}{l:List Pr}{t:Pr}(h8:n<=8)(h:(0<=t.1/\t.1 < n)/\(0<=t.2/\t.2 < n)):Hb [cP n (bK l),aq t]=.ok (.bool (decide (t∈l))) false:=by
 show fin (jj GJ [.fz (cP n (bK l)),.fz (aq t)] 0)=_
 unfold jj
 rw[bP,aI (ds:=[cP n (bK l),.int t.1,.int t.2]) (β1:=0) rfl (Hz h8 h.1 h.2)];rfl
theorem FK {f g:Nat->Bool}{n:Nat}:mk f n ||| mk g n=mk (fun i=>f i || g i) n:=by
 apply Nat.eq_of_testBit_eq
 intro i
 rw[Nat.testBit_or,ig,ig,ig]
 by_cases h:i < n <;> simp[h]
noncomputable def I0:List D->FR:=bg 4 2 (kZ GJ vd)
theorem Jt {n:Nat}{l:List Pr}{t:Pr}(h8:n<=8)(h:(0<=t.1/\t.1 < n)/\(0<=t.2/\t.2 < n)):I0 [cP n (bK l),aq t]=.ok (cP n (bK (putL n l t))) true:=by
 have e2:((t.2.toNat:Nat):Int)=t.2:=by omega
 show fin (kZ GJ vd [.fz (cP n (bK l)),.fz (aq t),.no,.no] 0)=_
 unfold kZ
 have el:f1 (gv 0) bV (vl [.fz (cP n (bK l)),.fz (aq t),.no,.no]) 0=.ok (.int n) 0:=by
  rw[mD (ds:=(List.range n).map fun b=>mI (bK l b) n) rfl,length_map,length_range]
 have ec:aK 1 [1,0] (.nm 0) (bX (f1 (gv 0) bV)) (hZ (bD (f2 (gv 0) (f2 (gv 1) (cst (.int 0)) a8) (bL false))) (iY (aw GJ (aa (gv 2) (aa (f2 (gv 1) (cst (.int 0)) a8) (aa (gv 0) ag)))))) (gv 0) (vl [.fz (cP n (bK l)),.fz (aq t),.no,.no]) 0=.ok (.list (((dm n).filter fun x=>lq l t.1 x).map int)) 0:=by
  refine bZ (l:=dm n) (e:=int) (fun x=>lq l t.1 x) int ?_ (by rw[dg];omega) fun x hx=>⟨[.da (.int x),.da (aq t),.da (cP n (bK l))],rfl,?_,fun _=>rfl⟩
  ·rw[<-oB];exact cU (n:=n) el (by omega)
  ·have hx:=bF.mp hx
   have:=D4 (dv (neg:=false) (fa:=gv 0) (fb:=f2 (gv 1) (cst (.int 0)) a8) (vs:=[.da (.int x),.da (aq t),.da (cP n (bK l))]) (β:=0) (i:=x) (j:=t.1) rfl rfl) (hU (aI (F:=GJ) (fr:=aa (gv 2) (aa (f2 (gv 1) (cst (.int 0)) a8) (aa (gv 0) ag))) (vs:=[.da (.int x),.da (aq t),.da (cP n (bK l))]) (β:=0) (ds:=[cP n (bK l),.int t.1,.int x]) rfl (Hz h8 h.1 hx)))
   rw[this]
   congr 1
   unfold lq
   rw[if_neg Bool.false_ne_true]
   congr 1
   rw[decide_eq_decide];exact⟨Eq.symm,Eq.symm⟩
 rw[ah (env':=[.fz (cP n (bK l)),.fz (aq t),.fz (.list (((dm n).filter fun x=>lq l t.1 x).map int)),.no]) (β':=0) (by rw[bA,ec];rfl)]
 have em:f2 (gv 0) (f2 (gv 1) (cst (.int 1)) a8) a8 (vl [.fz (cP n (bK l)),.fz (aq t),.fz (.list (((dm n).filter fun x=>lq l t.1 x).map int)),.no]) 0=.ok (mI (bK l t.2.toNat) n) 0:=by
  refine aA (x:=cP n (bK l)) (y:=.int t.2) rfl (aA rfl rfl rfl) ?_
  have:=Ba (n:=n) (M:=bK l) (b:=t.2.toNat) (by omega)
  rw[e2] at this
  exact this
 rw[ah (env':=[.fz (cP n (bK l)),.fz (aq t),.fz (.list (((dm n).filter fun x=>lq l t.1 x).map int)),.fz (mI (ik (bK l t.2.toNat) t.2.toNat) n)]) (β':=0) (by
  rw[bA,aI (b:=false) (ds:=[mI (bK l t.2.toNat) n,.int (t.2.toNat:Int)]) (β1:=0) (ac em (ac (by rw[e2];rfl) an)) (AA h8 (by omega))];rfl)]
 have ed:aK 2 [2,3] (.two 0 1) (D9 (gv 0)) ki (IX (bD (f2 (gv 0) (gv 2) (lb false))) (f2 (gv 1) (gv 3) IP) (gv 1)) (vl [.fz (cP n (bK l)),.fz (aq t),.fz (.list (((dm n).filter fun x=>lq l t.1 x).map int)),.fz (mI (ik (bK l t.2.toNat) t.2.toNat) n)]) 0=.ok (cP n (bK (putL n l t))) 0:=by
  unfold cP
  refine fY (l:=List.range n) (e:=fun b=>.tuple [.int b,mI (bK l b) n]) (fun b=>mI (bK (putL n l t) b) n) ?_ (by rw[length_range];omega) fun b hb=>⟨[.da (.int b),.da (mI (bK l b) n),.da (.list (((dm n).filter fun x=>lq l t.1 x).map int)),.da (mI (ik (bK l t.2.toNat) t.2.toNat) n)],rfl,?_⟩
  ·show R.ok (j3 ((List.range n).map fun b=>mI (bK l b) n)) 0=_
   congr 1
   unfold j3
   refine List.ext_getElem (by simp) fun i h1 h2=>by simp
  ·have hbn:=mem_range.mp hb
   have hmem:decide ((b:Int)∈(dm n).filter fun x=>lq l t.1 x)=lq l t.1 b:=by
    rw[Bool.eq_iff_iff,decide_eq_true_eq,mem_filter]
    exact⟨fun h=>h.2,fun h=>⟨bF.mpr ⟨by omega,by omega⟩,h⟩⟩
   have et:bD (f2 (gv 0) (gv 2) (lb false)) [.da (.int b),.da (mI (bK l b) n),.da (.list (((dm n).filter fun x=>lq l t.1 x).map int)),.da (mI (ik (bK l t.2.toNat) t.2.toNat) n)] 0=.ok (lq l t.1 b) 0:=by
    rw[<-hmem]
    exact bS _ _ _ _ (aA (x:=.int b) (y:=.list (((dm n).filter fun x=>lq l t.1 x).map int)) rfl rfl (wb false b _))
   rw[Gd,et]
   show (if lq l t.1 b=true then _ else _)=_
   have key:∀a,a < n->bK (putL n l t) b a=(bK l b a || (lq l a t.2 && lq l t.1 b)):=fun a ha=>by
    unfold bK
    rw[Bool.eq_iff_iff,decide_eq_true_eq,lI ⟨⟨by simp only;omega,by simp only;omega⟩,⟨by simp only;omega,by simp only;omega⟩⟩,Bool.or_eq_true,Bool.and_eq_true,decide_eq_true_eq]
   by_cases c:lq l t.1 b=true
   ·rw[if_pos c]
    refine aA (x:=mI (bK l b) n) (y:=mI (ik (bK l t.2.toNat) t.2.toNat) n) rfl rfl ?_
    show some (int (Builtin.bitOr _ _))=_
    rw[rS,FK]
    unfold mI
    congr 3
    rw[mk_eq]
    intro a ha
    rw[key a ha,c,Bool.and_true]
    unfold ik lq bK
    rw[e2]
    congr 1
    rw[Bool.or_comm]
    congr 1
    rw[decide_eq_decide];omega
   ·rw[if_neg c]
    show R.ok (mI (bK l b) n) 0=_
    unfold mI
    congr 3
    rw[mk_eq]
    intro a ha
    rw[key a ha]
    have c:lq l t.1 b=false:=by simpa using c
    rw[c,Bool.and_false,Bool.or_false]
 rw[Bu,ed];rfl
def mh (rows:List (List Int))(p:Pr):Bool:= !decide (p.1=p.2) && (rows.filter fun r=>decide (r.idxOf p.1 > r.idxOf p.2)).isEmpty
def vf:List D->FR:=bg 6 2 fI
theorem E6 {n:Nat}{rows:List (List Int)}(h8:n<=8)(hr:rows.length<=100)(hp:∀r,r∈rows->r.Perm (dm n)):vf [.int n,.list (rows.map tupI)]=.ok (.tuple (((OM.cN n).filter (mh rows)).map aq)) false:=by
 show fin (fI [.fz (.int n),.fz (.list (rows.map tupI)),.no,.no,.no,.no] 0)=_
 unfold fI
 rw[ah (env':=[.fz (.int n),.fz (.list (rows.map tupI)),.ow (.list []),.no,.no,.no]) (β':=0) ?g1]
 case g1=>rw[fG,dQ (ds:=[]) rfl (by simp)];rfl
 obtain⟨env',β',ef,s,t,u,rfl,rfl⟩:=cj (t:=.nm 3) (m:=cH (.nm 4) [] (bX (gv 0))
   (aG (ba 5 ([] ++ []) (aK 1 [3,4] (.nm 0) (bw (gv 1)) (bD (f2 (eN (gv 0) (gv 1)) (eN (gv 0) (gv 2)) Cs)) (cst (.int 1))))
   (jS (([] ++ []) ++ ([] ++ [])) (sH (bD (f2 (gv 3) (gv 4) (bL true))) (bD (f2 (gv 5) (bo ag) (bL false))))
   (ij 2 ([3] ++ ([4] ++ [])) (bH (aa (gv 3) (aa (gv 4) ag))))
   lh))) (ds:=cg 0 n) (k:=0)
  (fun i env β=>∃s t u:Sl,env= [.fz (.int n),.fz (.list (rows.map tupI)),.ow (.list ((upTo n (mh rows) i 0).map aq)),s,t,u]/\β=0)
  (env:=[.fz (.int n),.fz (.list (rows.map tupI)),.ow (.list []),.no,.no,.no]) (β:=0) ⟨.no,.no,.no,by rw[zh];rfl,rfl⟩ (by
   rintro i d env β hi ⟨s,t,u,rfl,rfl⟩
   obtain⟨hin,rfl⟩:=fM hi
   refine⟨[.fz (.int n),.fz (.list (rows.map tupI)),.ow (.list ((upTo n (mh rows) (0 + i) 0).map aq)),.fz (.int (0 + (i:Int))),t,u],rfl,?_⟩
   rw[Nat.zero_add,Int.zero_add]
   obtain⟨env',β',ef,t2,u2,rfl,rfl⟩:=cj (t:=.nm 4) (m:=aG (ba 5 ([] ++ []) (aK 1 [3,4] (.nm 0) (bw (gv 1)) (bD (f2 (eN (gv 0) (gv 1)) (eN (gv 0) (gv 2)) Cs)) (cst (.int 1))))
     (jS (([] ++ []) ++ ([] ++ [])) (sH (bD (f2 (gv 3) (gv 4) (bL true))) (bD (f2 (gv 5) (bo ag) (bL false))))
     (ij 2 ([3] ++ ([4] ++ [])) (bH (aa (gv 3) (aa (gv 4) ag))))
     lh)) (ds:=cg 0 n) (k:=0)
    (fun k env β=>∃t u:Sl,env= [.fz (.int n),.fz (.list (rows.map tupI)),.ow (.list ((upTo n (mh rows) i k).map aq)),.fz (.int i),t,u]/\β=0)
    (env:=[.fz (.int n),.fz (.list (rows.map tupI)),.ow (.list ((upTo n (mh rows) i 0).map aq)),.fz (.int i),t,u]) (β:=0) ⟨t,u,rfl,rfl⟩ (by
     rintro k d env β hk ⟨t,u,rfl,rfl⟩
     obtain⟨hkn,rfl⟩:=fM hk
     refine⟨[.fz (.int n),.fz (.list (rows.map tupI)),.ow (.list ((upTo n (mh rows) i (0 + k)).map aq)),.fz (.int i),.fz (.int (0 + (k:Int))),u],rfl,?_⟩
     rw[Nat.zero_add,Int.zero_add]
     have ec:aK 1 [3,4] (.nm 0) (bw (gv 1)) (bD (f2 (eN (gv 0) (gv 1)) (eN (gv 0) (gv 2)) Cs)) (cst (.int 1)) [.da (.int n),.da (.list (rows.map tupI)),.da (.list ((upTo n (mh rows) i k).map aq)),.da (.int i),.da (.int k),u.val] 0=.ok (.list ((rows.filter fun r=>decide (r.idxOf (i:Int) > r.idxOf (k:Int))).map fun _=>int 1)) 0:=by
      refine bZ (l:=rows) (e:=tupI) (fun r=>decide (r.idxOf (i:Int) > r.idxOf (k:Int))) (fun _=>int 1) rfl (by omega) fun r hr=>⟨_,rfl,?_,fun _=>rfl⟩
      have hp:=hp r hr
      refine bS _ _ _ _ (aA (lZ (r:=r) (k:=i) rfl rfl (hp.mem_iff.mpr (bF.mpr ⟨by omega,by omega⟩))) (lZ (r:=r) (k:=k) rfl rfl (hp.mem_iff.mpr (bF.mpr ⟨by omega,by omega⟩))) ?_)
      show some (PyData.bool (decide (((r.idxOf (i:Int):Nat):Int) > ((r.idxOf (k:Int):Nat):Int))))=_
      congr 2
      rw[Bool.eq_iff_iff,decide_eq_true_eq,decide_eq_true_eq]
      omega
     rw[ah (env':=[.fz (.int n),.fz (.list (rows.map tupI)),.ow (.list ((upTo n (mh rows) i k).map aq)),.fz (.int i),.fz (.int k),.fz (.list ((rows.filter fun r=>decide (r.idxOf (i:Int) > r.idxOf (k:Int))).map fun _=>int 1))]) (β':=0) ?g]
     case g=>
      rw[bA]
      show toS (aK 1 [3,4] (.nm 0) (bw (gv 1)) (bD (f2 (eN (gv 0) (gv 1)) (eN (gv 0) (gv 2)) Cs)) (cst (.int 1)) [.da (.int n),.da (.list (rows.map tupI)),.da (.list ((upTo n (mh rows) i k).map aq)),.da (.int i),.da (.int k),u.val] 0) _=_
      rw[ec];rfl
     generalize hL:(rows.filter fun r=>decide (r.idxOf (i:Int) > r.idxOf (k:Int)))=L
     have et:sH (bD (f2 (gv 3) (gv 4) (bL true))) (bD (f2 (gv 5) (bo ag) (bL false))) (vl [.fz (.int n),.fz (.list (rows.map tupI)),.ow (.list ((upTo n (mh rows) i k).map aq)),.fz (.int i),.fz (.int k),.fz (.list (L.map fun _=>int 1))]) 0=.ok (mh rows ((i:Int),(k:Int))) 0:=by
      have h1:bD (f2 (gv 5) (bo ag) (bL false)) (vl [.fz (.int n),.fz (.list (rows.map tupI)),.ow (.list ((upTo n (mh rows) i k).map aq)),.fz (.int i),.fz (.int k),.fz (.list (L.map fun _=>int 1))]) 0=.ok L.isEmpty 0:=by
       refine bS _ _ _ _ (aA (x:=.list (L.map fun _=>int 1)) (y:=.list []) rfl (dQ (ds:=[]) rfl (by simp)) ?_)
       have e9:(L.map fun _=>int 1)=(L.map fun _=>(1:Int)).map int:=by rw[map_map];rfl
       rw[e9,show ([]:List D)=([]:List Int).map int from rfl,lC]
       congr 2
       cases L <;> simp
      have:=qE (dv (neg:=true) (fa:=gv 3) (fb:=gv 4) (vs:=vl [.fz (.int n),.fz (.list (rows.map tupI)),.ow (.list ((upTo n (mh rows) i k).map aq)),.fz (.int i),.fz (.int k),.fz (.list (L.map fun _=>int 1))]) (β:=0) (i:=i) (j:=k) rfl rfl) h1
      rw[this]
      unfold mh
      rw[hL];rfl
     cases c:mh rows ((i:Int),(k:Int)) with
     |true=>
      rw[c] at et
      refine⟨[.fz (.int n),.fz (.list (rows.map tupI)),.ow (.list ((upTo n (mh rows) i (k + 1)).map aq)),.fz (.int i),.fz (.int k),.fz (.list (L.map fun _=>int 1))],0,?_,_,_,rfl,rfl⟩
      rw[hW et]
      have:=jm (i:=2) (L:=[3] ++ ([4] ++ [])) (env:=[.fz (.int n),.fz (.list (rows.map tupI)),.ow (.list ((upTo n (mh rows) i k).map aq)),.fz (.int i),.fz (.int k),.fz (.list (L.map fun _=>int 1))]) (ds:=(upTo n (mh rows) i k).map aq) (β:=0) (by rfl) (jf (fa:=gv 3) (fb:=gv 4) (a:=i) (b:=k) rfl rfl) (by rfl) (by rw[length_map];have:=AH (mh rows) i k h8;omega)
      rw[sk _ hin hkn,if_pos c,map_append]
      exact this
     |false=>
      rw[c] at et
      refine⟨[.fz (.int n),.fz (.list (rows.map tupI)),.ow (.list ((upTo n (mh rows) i (k + 1)).map aq)),.fz (.int i),.fz (.int k),.fz (.list (L.map fun _=>int 1))],0,?_,_,_,rfl,rfl⟩
      have e8:=sk (mh rows) hin hkn
      rw[if_neg (by rw[c];exact Bool.false_ne_true),append_nil] at e8
      rw[cW et,e8];rfl)
   rw[dN,Nat.zero_add,Bg] at ef
   refine⟨[.fz (.int n),.fz (.list (rows.map tupI)),.ow (.list ((upTo n (mh rows) (i + 1) 0).map aq)),.fz (.int i),t2,u2],0,?_,_,_,_,rfl,rfl⟩
   rw[b8 (env:=[.fz (.int n),.fz (.list (rows.map tupI)),.ow (.list ((upTo n (mh rows) i 0).map aq)),.fz (.int i),t,u]) (cU (n:=n) rfl (by omega))]
   exact ef)
 rw[dN,Nat.zero_add,AW] at ef
 rw[ah (env':=[.fz (.int n),.fz (.list (rows.map tupI)),.ow (.list (((OM.cN n).filter (mh rows)).map aq)),s,t,u]) (β':=0) ?g2]
 case g2=>
  rw[b8 (env:=[.fz (.int n),.fz (.list (rows.map tupI)),.ow (.list []),.no,.no,.no]) (cU (n:=n) rfl (by omega))]
  exact ef
 rw[bP,dh (x:=.list (((OM.cN n).filter (mh rows)).map aq)) (d:=.tuple (((OM.cN n).filter (mh rows)).map aq)) (β1:=0) rfl ?g3]
 case g3=>rfl
 rfl
theorem pd {rows:List (List Int)}{p:Pr}:mh rows p=true↔p.1≠p.2/\∀r,r∈rows->r.idxOf p.1<=r.idxOf p.2:=by
 unfold mh
 rw[Bool.and_eq_true,Bool.not_eq_true',decide_eq_false_iff_not,List.isEmpty_iff,filter_eq_nil_iff]
 simp only[decide_eq_true_eq,Nat.not_lt,gt_iff_lt]
theorem Au {n:Nat}{rows:List (List Int)}(h1:1<=n)(h8:n<=8)(hne:rows≠ [])(hp:∀r,r∈rows->r.Perm (dm n)):OM.Ord n ((OM.cN n).filter (mh rows)):=by
 refine⟨h1,h8,fun p hm=>OM.bh.mp (mem_filter.mp hm).1,OM.eQ _ (OM.g8 n),fun a h=>?_,fun a b c hab hbc=>?_⟩
 ·exact (pd.mp (mem_filter.mp h).2).1 rfl
 ·obtain⟨g1,t1⟩:=mem_filter.mp hab
  obtain⟨g2,t2⟩:=mem_filter.mp hbc
  have g1:=OM.bh.mp g1
  have g2:=OM.bh.mp g2
  obtain⟨n1,q1⟩:=pd.mp t1
  obtain⟨n2,q2⟩:=pd.mp t2
  refine mem_filter.mpr ⟨OM.bh.mpr ⟨g1.1,g2.2⟩,pd.mpr ⟨fun e=>?_,fun r hr=>Nat.le_trans (q1 r hr) (q2 r hr)⟩⟩
  simp only at e n1 q1 q2
  subst e
  cases rows with
  |nil=>exact hne rfl
  |cons r rest=>
   have hr:r∈r :: rest:=mem_cons_self ..
   have pm:=hp r hr
   exact n1 (D7 (pm.mem_iff.mpr (bF.mpr g1.1)) (pm.mem_iff.mpr (bF.mpr g1.2)) (Nat.le_antisymm (q1 r hr) (q2 r hr)))
noncomputable def tX:List D->Int->FB:=nD 6 0 (iM bE eG)
def Ks (ms:List Int)(m i:Nat)(ps:List Pr):Prop:=ps.Nodup/\ps.length<=4 * i/\∀p,p∈ps->∃i' j:Nat,i' < i/\j < m/\ms[i']? =some p.1/\ms[m + j]? =some p.2
theorem Ej {ms:List Int}{m i:Nat}{ps:List Pr}(h3:3<=m)(h4:m<=4)(hi:i<=m)(hp:ms.Perm (dm (2 * m)))(h:Ks ms m i ps):OM.Ord (2 * m) (OM.bR 8 (OM.Mem ps))/\ps.all CD=true/\ps.length < 64:=by
 obtain⟨nd,hl,hc⟩:=h
 have ndm:ms.Nodup:=hp.nodup_iff.mpr (mf _)
 have wn:OM.Wn (2 * m) ps:=fun p hm=>by
  obtain⟨i',j,_,_,e1,e2⟩:=hc p hm
  exact⟨bF.mp (hp.mem_iff.mp (mem_of_getElem? e1)),bF.mp (hp.mem_iff.mp (mem_of_getElem? e2))⟩
 rw[EA (by omega) wn]
 refine⟨⟨by omega,by omega,OM.pC _ _,OM.cA _ _,fun a h=>?_,fun a b c h k=>?_⟩,AM (by omega) wn,by omega⟩
 ·obtain⟨i',j,hi',_,e1,e2⟩:=hc _ (OM.aY.mp h).2
  have:=iV ndm e1 e2
  omega
 ·obtain⟨i',j,hi',_,e1,e2⟩:=hc _ (OM.aY.mp h).2
  obtain⟨i2,j2,hi2,_,e3,e4⟩:=hc _ (OM.aY.mp k).2
  have:=iV ndm e2 e3
  omega
theorem D5 (β:Int):∃(n:Nat) (l:List Pr) (β':Int),tX [] β=.ok (au n l) false β'/\OM.Ord n l:=by
 obtain⟨j,hj,ej⟩:=fJ (m:=2) (by omega) (by omega) β
 show ∃(n:Nat) (l:List Pr) (β':Int),tE (iM bE eG [.bx,.no,.no,.no,.no,.no] β)=.ok (au n l) false β'/\OM.Ord n l
 unfold iM
 generalize hβ1:β / ((2:Nat):Int)=β1 at ej
 have e1:f2 (cst (.int 3)) (fO 0 bE (aa (cst (.int 2)) ag)) cc [Nv.bx,.no,.no,.no,.no,.no] β=.ok (.int ((3 + j:Nat):Int)) β1:=by
  refine aA (x:=.int 3) rfl (di (by rfl) rfl ej) ?_
  show some (int (3 + (j:Int)))=_
  rw[show ((3 + j:Nat):Int)=3 + (j:Int) by omega]
 rw[ah (env':=[.bx,.fz (.int ((3 + j:Nat):Int)),.no,.no,.no,.no]) (β':=β1) ?g1]
 case g1=>
  show toS (f2 (cst (.int 3)) (fO 0 bE (aa (cst (.int 2)) ag)) cc [Nv.bx,.no,.no,.no,.no,.no] β) _=_
  rw[e1];rfl
 have h3:3<=3 + j:=by omega
 have h4:3 + j<=4:=by omega
 generalize hm:3 + j=m at h3 h4
 obtain⟨ms,β2,em,hp⟩:=pe (dm (2 * m)) (by rw[dg];omega) β1
 have hml:ms.length=2 * m:=by rw[hp.length_eq,dg]
 have g2:cJ (.int 2) (.int m)=some (.int ((2 * m:Nat):Int)):=by rw[nZ ⟨by omega,by omega⟩];congr 2
 have e2:fO 0 eG (aa (f1 (f2 (cst (.int 2)) (gv 1) cJ) cf) ag) [Nv.bx,.da (.int m),.no,.no,.no,.no] β1=.ok (.list (ms.map int)) β2:=by
  refine di (ds:=[.list ((dm (2 * m)).map int)]) (b:=true) (β1:=β1) (by rfl) ?_ em
  rw[bN,dh (x:=.int ((2 * m:Nat):Int)) (d:=.list ((dm (2 * m)).map int)) (β1:=β1) (aA rfl rfl g2) (jB (by omega))];rfl
 rw[ah (env':=[.bx,.fz (.int m),.fz (.list (ms.map int)),.no,.no,.no]) (β':=β2) ?g2]
 case g2=>
  show toS (fO 0 eG (aa (f1 (f2 (cst (.int 2)) (gv 1) cJ) cf) ag) [Nv.bx,.da (.int m),.no,.no,.no,.no] β1) _=_
  rw[e2];rfl
 rw[ah (env':=[.bx,.fz (.int m),.fz (.list (ms.map int)),.fz (.list []),.no,.no]) (β':=β2) ?g3]
 case g3=>rw[bA,dQ (ds:=[]) rfl (by simp)];rfl
 have ndm:ms.Nodup:=hp.nodup_iff.mpr (mf _)
 obtain⟨env',β',ef,ps,s,t,rfl,rfl,hC⟩:=cj (t:=.nm 4) (m:=aG (ba 5 ([] ++ []) (aK 1 [4,2,1] (.nm 0) (bX (gv 1)) (bD (f2 (gv 0) (gv 1) (bL true))) (f2 (gv 2) (f2 (gv 3) (gv 0) cc) a8)))
   (ba 3 ([] ++ ([] ++ [])) (f2 (gv 3) (aK 1 [2,4] (.nm 0) (bw (gv 5)) ki (bH (aa (f2 (gv 1) (gv 2) a8) (aa (gv 0) ag)))) fU))) (ds:=cg 0 m) (k:=0)
  (fun i env β=>∃(ps:List Pr) (s t:Sl),env= [.bx,.fz (.int m),.fz (.list (ms.map int)),.fz (.list (ps.map aq)),s,t]/\β=β2/\Ks ms m i ps)
  (env:=[.bx,.fz (.int m),.fz (.list (ms.map int)),.fz (.list []),.no,.no]) (β:=β2) ⟨[],.no,.no,rfl,rfl,nodup_nil,by simp,fun p hp=>by cases hp⟩ (by
   rintro i d env β hi ⟨ps,s,t,rfl,rfl,nd,hl,hc⟩
   obtain⟨hin,rfl⟩:=fM hi
   refine⟨[.bx,.fz (.int m),.fz (.list (ms.map int)),.fz (.list (ps.map aq)),.fz (.int (0 + (i:Int))),t],rfl,?_⟩
   rw[Nat.zero_add,Int.zero_add]
   rw[Nat.zero_add] at hl hc
   have him:i < ms.length:=by omega
   have ec:aK 1 [4,2,1] (.nm 0) (bX (gv 1)) (bD (f2 (gv 0) (gv 1) (bL true))) (f2 (gv 2) (f2 (gv 3) (gv 0) cc) a8) [.bx,.da (.int m),.da (.list (ms.map int)),.da (.list (ps.map aq)),.da (.int i),t.val] β=.ok (.list ((((List.range m).filter fun (j:Nat)=> !decide ((j:Int)=(i:Int))).map fun (j:Nat)=>ms.getD (m + j) 0).map int)) β:=by
    rw[map_map]
    refine bZ (l:=List.range m) (e:=fun (k:Nat)=>int (0 + (k:Int))) (fun (j:Nat)=> !decide ((j:Int)=(i:Int))) (fun j=>int (ms.getD (m + j) 0)) (cU (n:=m) rfl (by omega)) (by rw[length_range];omega) fun j hj=>⟨_,rfl,?_,fun _=>?_⟩
    ·rw[Int.zero_add];exact dv (neg:=true) (i:=j) (j:=i) rfl rfl
    ·have hj:=mem_range.mp hj
     have hjm:m + j < ms.length:=by omega
     refine aA (x:=.list (ms.map int)) (y:=.int ((m + j:Nat):Int)) rfl (aA (x:=.int m) (y:=.int (0 + (j:Int))) rfl rfl ?_) ?_
     ·show some (int ((m:Int) + (0 + (j:Int))))=_
      congr 2;omega
     ·show jT (ms.map int) ((m + j:Nat):Int)=_
      rw[dU,jQ hjm,getD_eq_getElem?_getD,getElem?_eq_getElem hjm];rfl
   rw[ah (env':=[.bx,.fz (.int m),.fz (.list (ms.map int)),.fz (.list (ps.map aq)),.fz (.int i),.fz (.list ((((List.range m).filter fun (j:Nat)=> !decide ((j:Int)=(i:Int))).map fun (j:Nat)=>ms.getD (m + j) 0).map int))]) (β':=β) ?g]
   case g=>
    rw[bA]
    show toS (aK 1 [4,2,1] (.nm 0) (bX (gv 1)) (bD (f2 (gv 0) (gv 1) (bL true))) (f2 (gv 2) (f2 (gv 3) (gv 0) cc) a8) [.bx,.da (.int m),.da (.list (ms.map int)),.da (.list (ps.map aq)),.da (.int i),t.val] β) _=_
    rw[ec];rfl
   generalize hO:((List.range m).filter fun (j:Nat)=> !decide ((j:Int)=(i:Int)))=js
   have hjs:∀j,j∈js->j < m:=fun j hj=>by rw[<-hO] at hj;exact mem_range.mp (mem_filter.mp hj).1
   have hjn:js.Nodup:=by rw[<-hO];exact nodup_range.filter _
   have hjl:js.length<=m:=by rw[<-hO];have:=length_filter_le (fun (j:Nat)=> !decide ((j:Int)=(i:Int))) (List.range m);rw[length_range] at this;exact this
   have ed:aK 1 [2,4] (.nm 0) (bw (gv 5)) ki (bH (aa (f2 (gv 1) (gv 2) a8) (aa (gv 0) ag))) [.bx,.da (.int m),.da (.list (ms.map int)),.da (.list (ps.map aq)),.da (.int i),.da (.list ((js.map fun (j:Nat)=>ms.getD (m + j) 0).map int))] β=.ok (.list ((js.map fun (j:Nat)=>((ms.getD i 0,ms.getD (m + j) 0):Pr)).map aq)) β:=by
    rw[map_map,map_map]
    refine fY (l:=js) (e:=fun j=>int (ms.getD (m + j) 0)) (fun j=>aq (ms.getD i 0,ms.getD (m + j) 0)) rfl (by omega) fun j hj=>⟨_,rfl,?_⟩
    refine jf (aA (x:=.list (ms.map int)) (y:=.int i) rfl rfl ?_) rfl
    show jT (ms.map int) (i:Int)=_
    rw[dU,jQ him,getD_eq_getElem?_getD,getElem?_eq_getElem him];rfl
   refine⟨[.bx,.fz (.int m),.fz (.list (ms.map int)),.fz (.list ((ps ++ js.map fun (j:Nat)=>((ms.getD i 0,ms.getD (m + j) 0):Pr)).map aq)),.fz (.int i),.fz (.list ((js.map fun (j:Nat)=>ms.getD (m + j) 0).map int))],β,?_,_,_,_,rfl,rfl,?_,?_,?_⟩
   ·rw[bA]
    show toS (f2 (gv 3) (aK 1 [2,4] (.nm 0) (bw (gv 5)) ki (bH (aa (f2 (gv 1) (gv 2) a8) (aa (gv 0) ag)))) fU [.bx,.da (.int m),.da (.list (ms.map int)),.da (.list (ps.map aq)),.da (.int i),.da (.list ((js.map fun (j:Nat)=>ms.getD (m + j) 0).map int))] β) _=_
    rw[aA (x:=.list (ps.map aq)) rfl ed (lY (by rw[length_map,length_map,length_map];omega)),<-map_append];rfl
   ·have hd:∀j,j < m->ms[m + j]? =some (ms.getD (m + j) 0):=fun j hj=>by rw[getD_eq_getElem?_getD,getElem?_eq_getElem (by omega)];rfl
    have hdi:ms[i]? =some (ms.getD i 0):=by rw[getD_eq_getElem?_getD,getElem?_eq_getElem him];rfl
    refine List.nodup_append.mpr ⟨nd,?_,fun p hp q hq e=>?_⟩
    ·rw[nodup_iff_pairwise_ne,pairwise_map]
     refine List.Pairwise.imp_of_mem (fun {a b} ha hb h e=>?_) (nodup_iff_pairwise_ne.mp hjn)
     have e2:=(Prod.mk.inj e).2
     have:=iV ndm (hd a (hjs a ha)) (by rw[e2];exact hd b (hjs b hb))
     omega
    ·subst e
     obtain⟨j,hj,rfl⟩:=mem_map.mp hq
     obtain⟨i',j',h1,h2,h3,h4⟩:=hc _ hp
     have:=iV ndm h3 hdi
     omega
   ·rw[length_append,length_map];omega
   ·intro p hp
    rcases mem_append.mp hp with hp |hp
    ·obtain⟨i',j',h1,h2,h3,h4⟩:=hc _ hp
     exact⟨i',j',by omega,h2,h3,h4⟩
    ·obtain⟨j,hj,rfl⟩:=mem_map.mp hp
     refine⟨i,j,by omega,hjs j hj,?_,?_⟩
     ·show ms[i]? =some (ms.getD i 0)
      rw[getD_eq_getElem?_getD,getElem?_eq_getElem him];rfl
     ·have:=hjs j hj
      show ms[m + j]? =some (ms.getD (m + j) 0)
      rw[getD_eq_getElem?_getD,getElem?_eq_getElem (by omega)];rfl)
 rw[dN,Nat.zero_add] at hC
 rw[ah (env':=[.bx,.fz (.int m),.fz (.list (ms.map int)),.fz (.list (ps.map aq)),s,t]) (β':=β') ?g5]
 case g5=>
  rw[b8 (env:=[.bx,.fz (.int m),.fz (.list (ms.map int)),.fz (.list []),.no,.no]) (cU (n:=m) rfl (by omega))]
  exact ef
 obtain⟨O,hsm,hl⟩:=Ej h3 h4 (Nat.le_refl m) hp hC
 refine⟨2 * m,OM.bR 8 (OM.Mem ps),β',?_,O⟩
 have g9:mT (.list (ps.map aq))=some (.list ((OM.bR 8 (OM.Mem ps)).map aq)):=by
  unfold mT
  dsimp only
  rw[eO]
  dsimp only
  rw[if_pos ⟨hsm,hC.1,hl⟩]
 have e9:bH (aa (f2 (cst (.int 2)) (gv 1) cJ) (aa (f1 (f1 (gv 3) mT) i7) ag)) [Nv.bx,.da (.int m),.da (.list (ms.map int)),.da (.list (ps.map aq)),s.val,t.val] β'=.ok (au (2 * m) (OM.bR 8 (OM.Mem ps))) β':=by
  refine gA (ds:=[.int ((2 * m:Nat):Int),.tuple ((OM.bR 8 (OM.Mem ps)).map aq)]) ?_ (by simp)
  rw[bN,aA (x:=.int 2) (y:=.int m) rfl rfl g2]
  dsimp only[R.bnd]
  rw[bN,dh (dh (x:=.list (ps.map aq)) rfl g9) (by rfl)];rfl
 rw[bP]
 show tE (toS (bH (aa (f2 (cst (.int 2)) (gv 1) cJ) (aa (f1 (f1 (gv 3) mT) i7) ag)) [Nv.bx,.da (.int m),.da (.list (ms.map int)),.da (.list (ps.map aq)),s.val,t.val] β') _)=_
 rw[e9];rfl
noncomputable def anyF:List D->Int->FB:=nD 5 1 (dC vf bE tX eG pw)
theorem zf {t:Tg}{fe:VF D}{vs vs0 vs1:List Nv}{d0 d1 x0 x1:D}{β β1 β2:Int}(h0:mq t d0 vs=some vs0)(e0:fe vs0 β=.ok x0 β1)(h1:mq t d1 vs=some vs1)(e1:fe vs1 β1=.ok x1 β2):fL t ki fe vs [d0,d1] β=.ok [x0,x1] β2:=by
 have q1:fL t ki fe vs [d1] β1=.ok [x1] β2:=by
  unfold fL
  rw[h1]
  dsimp only[ki,R.okb]
  rw[if_pos rfl,e1];rfl
 unfold fL
 rw[h0]
 dsimp only[ki,R.okb]
 rw[if_pos rfl,e0]
 dsimp only
 rw[q1]
theorem Hn (β:Int):∃(n:Nat) (l:List Pr) (β':Int),anyF [.int 8] β=.ok (au n l) false β'/\OM.Ord n l:=by
 obtain⟨j,hj,ej⟩:=fJ (m:=5) (by omega) (by omega) β
 show ∃(n:Nat) (l:List Pr) (β':Int),tE (dC vf bE tX eG pw [.bx,.fz (.int 8),.no,.no,.no] β)=.ok (au n l) false β'/\OM.Ord n l
 unfold dC
 generalize hβ1:β / ((5:Nat):Int)=β1 at ej
 have e1:fO 0 bE (aa (cst (.int 5)) ag) [Nv.bx,.da (.int 8),.no,.no,.no] β=.ok (.int j) β1:=di (by rfl) rfl ej
 rw[ah (env':=[.bx,.fz (.int 8),.fz (.int j),.no,.no]) (β':=β1) ?g1]
 case g1=>
  show toS (fO 0 bE (aa (cst (.int 5)) ag) [Nv.bx,.da (.int 8),.no,.no,.no] β) _=_
  rw[e1];rfl
 have t4:bD (f2 (gv 2) (cst (.int 4)) (bL false)) (vl [.bx,.fz (.int 8),.fz (.int j),.no,.no]) β1=.ok (decide ((j:Int)=4)) β1:=dv (neg:=false) (i:=j) (j:=4) rfl rfl
 have t3:bD (f2 (gv 2) (cst (.int 3)) (bL false)) (vl [.bx,.fz (.int 8),.fz (.int j),.no,.no]) β1=.ok (decide ((j:Int)=3)) β1:=dv (neg:=false) (i:=j) (j:=3) rfl rfl
 by_cases c4:(j:Int)=4
 ·rw[decide_eq_true c4] at t4
  obtain⟨n,l,β',ec,O⟩:=D5 β1
  refine⟨n,l,β',?_,O⟩
  rw[dI (d:=au n l) (b:=false) (β':=β') ?g]
  case g=>
   rw[hW t4,bP]
   show toS (fO 0 tX ag [Nv.bx,.da (.int 8),.da (.int j),.no,.no] β1) _=_
   rw[di (by rfl) rfl ec];rfl
  rfl
 rw[decide_eq_false c4] at t4
 rw[ah (env':=[.bx,.fz (.int 8),.fz (.int j),.no,.no]) (β':=β1) ?g2]
 case g2=>rw[cW t4];rfl
 by_cases c3:(j:Int)=3
 ·rw[decide_eq_true c3] at t3
  obtain⟨q,hq,eq⟩:=fJ (m:=8) (by omega) (by omega) β1
  generalize hβ2:β1 / ((8:Nat):Int)=β2 at eq
  have e2:f2 (cst (.int 1)) (fO 0 bE (aa (gv 1) ag)) cc [Nv.bx,.da (.int 8),.da (.int j),.no,.no] β1=.ok (.int ((1 + q:Nat):Int)) β2:=by
   refine aA (x:=.int 1) rfl (di (by rfl) rfl eq) ?_
   show some (int (1 + (q:Int)))=_
   rw[show ((1 + q:Nat):Int)=1 + (q:Int) by omega]
  have n1:1<=1 + q:=by omega
  have n8:1 + q<=8:=by omega
  generalize hn:1 + q=n at n1 n8 e2
  obtain⟨r0,β3,em0,hp0⟩:=pe (dm n) (by rw[dg];omega) β2
  obtain⟨r1,β4,em1,hp1⟩:=pe (dm n) (by rw[dg];omega) β3
  have hrow:∀(i:Int) (b b':Int) (r:List Int),eG [.list ((dm n).map int)] b=.ok (.list (r.map int)) true b'->f1 (fO 1 eG (aa (f1 (gv 2) cf) ag)) i7 [Nv.da (.int i),.bx,.da (.int n)] b=.ok (tupI r) b':=by
   intro i b b' r em
   refine dh (x:=.list (r.map int)) (di (ds:=[.list ((dm n).map int)]) (b:=true) (β1:=b) (by rfl) ?_ em) (by rfl)
   rw[bN,dh (x:=.int n) (d:=.list ((dm n).map int)) (β1:=b) rfl (jB (by omega))];rfl
  have ec:aK 1 [0,3] (.nm 0) (bX (cst (.int 2))) ki (f1 (fO 1 eG (aa (f1 (gv 2) cf) ag)) i7) [Nv.bx,.da (.int 8),.da (.int j),.da (.int n),.no] β2=.ok (.list ([r0,r1].map tupI)) β4:=by
   unfold aK
   rw[cU (n:=2) (β1:=β2) rfl (by omega)]
   dsimp only[R.bnd]
   rw[if_pos (sz _ (by rw[dN];omega))]
   have q2:cg 0 2= [.int 0,.int 1]:=rfl
   rw[q2,zf (vs0:=[.da (.int 0),.bx,.da (.int n)]) (vs1:=[.da (.int 1),.bx,.da (.int n)]) rfl (hrow 0 _ _ _ em0) rfl (hrow 1 _ _ _ em1)];rfl
  have hP:∀r,r∈ [r0,r1]->r.Perm (dm n):=fun r hr=>by
   rcases mem_cons.mp hr with z |z
   ·rw[z];exact hp0
   ·rw[mem_singleton.mp z];exact hp1
  refine⟨n,(OM.cN n).filter (mh [r0,r1]),β4,?_,Au n1 n8 (by simp) hP⟩
  rw[dI (d:=au n ((OM.cN n).filter (mh [r0,r1]))) (b:=false) (β':=β4) ?g]
  case g=>
   rw[hW t3]
   rw[ah (env':=[.bx,.fz (.int 8),.fz (.int j),.fz (.int n),.no]) (β':=β2) ?k1]
   case k1=>
    rw[bA]
    show toS (f2 (cst (.int 1)) (fO 0 bE (aa (gv 1) ag)) cc [Nv.bx,.da (.int 8),.da (.int j),.no,.no] β1) _=_
    rw[e2];rfl
   rw[ah (env':=[.bx,.fz (.int 8),.fz (.int j),.fz (.int n),.fz (.list ([r0,r1].map tupI))]) (β':=β4) ?k2]
   case k2=>
    rw[bA]
    show toS (aK 1 [0,3] (.nm 0) (bX (cst (.int 2))) ki (f1 (fO 1 eG (aa (f1 (gv 2) cf) ag)) i7) [Nv.bx,.da (.int 8),.da (.int j),.da (.int n),.no] β2) _=_
    rw[ec];rfl
   rw[bP]
   show toS (bH (aa (gv 3) (aa (aw vf (aa (gv 3) (aa (gv 4) ag))) ag)) [Nv.bx,.da (.int 8),.da (.int j),.da (.int n),.da (.list ([r0,r1].map tupI))] β4) _=_
   have a1:aw vf (aa (gv 3) (aa (gv 4) ag)) [Nv.bx,.da (.int 8),.da (.int j),.da (.int n),.da (.list ([r0,r1].map tupI))] β4=.ok (.tuple (((OM.cN n).filter (mh [r0,r1])).map aq)) β4:=aI rfl (E6 n8 (by simp) hP)
   rw[gA (ds:=[.int n,.tuple (((OM.cN n).filter (mh [r0,r1])).map aq)]) (β1:=β4) ?k3 (by simp)]
   case k3=>
    rw[bN]
    show (R.ok (int n) β4).bnd _=_
    dsimp only[R.bnd]
    rw[bN,a1];rfl
   rfl
  rfl
 rw[decide_eq_false c3] at t3
 rw[ah (env':=[.bx,.fz (.int 8),.fz (.int j),.no,.no]) (β':=β1) ?g3]
 case g3=>rw[cW t3];rfl
 obtain⟨n,l,β',eo,O,_⟩:=Bh (most:=8) (by omega) (by omega) β1
 refine⟨n,l,β',?_,O⟩
 rw[bP]
 show tE (toS (fO 0 pw (aa (gv 1) ag) [Nv.bx,.da (.int 8),.da (.int j),.no,.no] β1) _)=_
 rw[di (by rfl) rfl eo];rfl
theorem Cv {ps:List Pr}(hl:ps.length<=100):Gt (.list (ps.map aq)):=⟨rfl,fun ds e=>by
 cases e
 refine⟨by rw[length_map];exact hl,fun e he=>?_⟩
 obtain⟨p,_,rfl⟩:=mem_map.mp he
 exact Fc (es:=[.int p.1,.int p.2]) (by simp) (CS rfl rfl)⟩
def xp (n:Int)(l:List Pr)(d:D):Bool:=EK n d && match d with
 | .tuple [.int a,.int b]=>xr l (a,b)
 |_=>false
theorem Es {n:Int}{l:List Pr}{p:Pr}(h:(0<=p.1/\p.1 < n)/\(0<=p.2/\p.2 < n)):xp n l (aq p)=xr l p:=by
 show ((decide (0<=p.1/\p.1 < n) && decide (0<=p.2/\p.2 < n)) && xr l (p.1,p.2))=xr l p
 rw[decide_eq_true h.1,decide_eq_true h.2];rfl
noncomputable def IM:List D->FR:=bg 2 2 (l9 Ja JT)
theorem Jl {n:Nat}{l:List Pr}{d:D}(h:Ge d):IM [d,au n l]=.ok (.bool (xp n l d)) false:=by
 show fin (l9 Ja JT [.fz d,.fz (au n l)] 0)=_
 unfold l9
 have e1:aw Ja (aa (gv 0) (aa (f2 (gv 1) (cst (.int 0)) a8) ag)) (vl [.fz d,.fz (au n l)]) 0=.ok (.bool (EK n d)) 0:=aI (ds:=[d,.int n]) rfl (Kf h)
 rw[bP]
 cases q:EK n d with
 |false=>rw[q] at e1;rw[EG e1];unfold xp;rw[q];rfl
 |true=>
  rw[q] at e1
  obtain⟨p,rfl,hp⟩:=HC q
  rw[Es hp,EW e1 (aI (ds:=[au n l,.int p.1,.int p.2]) rfl (HA n l p.1 p.2))];rfl
def Ji (n:Int)(l:List Pr):D->Bool
 | .list ds=>ds.all (xp n l)
 |_=>false
noncomputable def IQ:List D->FR:=bg 2 2 (jF IM)
theorem J3 {n:Nat}{l:List Pr}{d:D}(h:Gt d):IQ [d,au n l]=.ok (.bool (Ji n l d)) false:=by
 show fin (jF IM [.fz d,.fz (au n l)] 0)=_
 unfold jF
 have e1:=EC (fa:=gv 0) (vs:=vl [.fz d,.fz (au n l)]) (β:=0) rfl h.1
 rw[bP]
 cases q:Gk d with
 |false=>rw[q] at e1;rw[EG e1];cases d <;> first |rfl |cases q
 |true=>
  rw[q] at e1
  obtain⟨ds,rfl⟩:=DQ q
  have hd:=h.2 ds rfl
  have ec:aK 1 [1] (.nm 0) (bw (gv 0)) ki (aw IM (aa (gv 0) (aa (gv 1) ag))) (vl [.fz (.list ds),.fz (au n l)]) 0=.ok (.list (ds.map fun e=>PyData.bool (xp n l e))) 0:=
   l4 (fun e=>PyData.bool (xp n l e)) rfl (by omega) fun e he=>⟨_,rfl,aI (ds:=[e,au n l]) rfl (Jl (hd.2 e he))⟩
  rw[EW e1 (o9 ec)];rfl
def nS (l:List Pr)(p q:Pr):Bool:=decide (p.1=q.2) || decide ((p.1,q.2)∈l)
def Dx:List D->FR:=bg 3 3 kq
theorem GW (n:Nat)(l:List Pr)(p q:Pr):Dx [au n l,aq p,aq q]=.ok (.bool (nS l p q)) false:=by
 show fin (kq [.fz (au n l),.fz (aq p),.fz (aq q)] 0)=_
 unfold kq
 have i0:f2 (gv 1) (cst (.int 0)) a8 (vl [.fz (au n l),.fz (aq p),.fz (aq q)]) 0=.ok (.int p.1) 0:=aA (x:=aq p) (y:=.int 0) rfl rfl rfl
 have i1:f2 (gv 2) (cst (.int 1)) a8 (vl [.fz (au n l),.fz (aq p),.fz (aq q)]) 0=.ok (.int q.2) 0:=aA (x:=aq q) (y:=.int 1) rfl rfl rfl
 have e1:f2 (f2 (gv 1) (cst (.int 0)) a8) (f2 (gv 2) (cst (.int 1)) a8) (bL false) (vl [.fz (au n l),.fz (aq p),.fz (aq q)]) 0=.ok (.bool (decide (p.1=q.2))) 0:=aA i0 i1 (nC false p.1 q.2)
 have e2:f2 (bH (aa (f2 (gv 1) (cst (.int 0)) a8) (aa (f2 (gv 2) (cst (.int 1)) a8) ag))) (f2 (gv 0) (cst (.int 1)) a8) (lb false) (vl [.fz (au n l),.fz (aq p),.fz (aq q)]) 0=.ok (.bool (decide ((p.1,q.2)∈l))) 0:=aA (x:=aq (p.1,q.2)) (jf i0 i1) (Jc (n:=n) (l:=l) rfl) (tJ false (p.1,q.2) l)
 rw[bP]
 unfold nS
 cases c:decide (p.1=q.2) with
 |true=>rw[c] at e1;rw[Jo e1];rfl
 |false=>rw[c] at e1;rw[J2 e1 e2];rfl
theorem Fj {n:Int}{l:List Pr}{x y:D}(h:(mL x && mL y)=false):xp n l (.tuple [x,y])=false:=by
 unfold xp EK
 cases x with
 |int a=>
  cases y with
  |int b=>cases h
  |_=>simp[lP]
 |_=>simp[lP]
def GD (l:List Pr)(ps:List Pr):Bool:=(List.range ps.length).all fun i=>nS l (ps.getD (if i=0 then ps.length - 1 else i - 1) (0,0)) (ps.getD i (0,0))
theorem DZ {ps:List Pr}{i:Nat}(hi:i < ps.length):jT (ps.map aq) ((i:Int) - 1)=some (aq (ps.getD (if i=0 then ps.length - 1 else i - 1) (0,0))):=by
 have key:∀k:Nat,k < ps.length->jT (ps.map aq) (k:Int)=some (aq (ps.getD k (0,0))):=fun k hk=>by
  rw[dU,jQ hk,getD_eq_getElem?_getD,getElem?_eq_getElem hk];rfl
 by_cases h:i=0
 ·subst h
  rw[if_pos rfl,<-key _ (by omega)]
  have e1:qN ps.length (((0:Nat):Int) - 1)=some (ps.length - 1):=by
   unfold qN
   rw[if_neg (by omega),if_pos (by omega)]
   congr 1;omega
  have e2:qN ps.length ((ps.length - 1:Nat):Int)=some (ps.length - 1):=by
   unfold qN
   rw[if_pos (by omega),if_pos (by omega)]
   congr 1
  unfold jT
  rw[length_map,e1,e2]
 ·rw[if_neg h,<-key _ (by omega),show ((i - 1:Nat):Int)=(i:Int) - 1 by omega]
theorem Ap {F:List D->FR}{n:Nat}{l:List Pr}(hF:∀p q,F [au n l,aq p,aq q]=.ok (.bool (nS l p q)) false){ps:List Pr}(hz:ps.length<=100){vs:List Nv}(h0:vs[0]? =some (.da (.list (ps.map aq))))(h1:vs[1]? =some (.da (au n l))) :
  f1 (aK 1 [1,0] (.nm 0) (bX (f1 (gv 0) bV)) ki (aw F (aa (gv 1) (aa (f2 (gv 2) (f2 (gv 0) (cst (.int 1)) vQ) a8) (aa (f2 (gv 2) (gv 0) a8) ag))))) (dk fun bs=>bs.all id) vs 0=.ok (.bool (GD l ps)) 0:=by
 have g0:gv 0 vs 0=.ok (.list (ps.map aq)) 0:=by rw[BR,h0];rfl
 have hb:fQ 1 [1,0] vs= [.no,.da (au n l),.da (.list (ps.map aq))]:=by simp[fQ,h0,h1]
 have ec:aK 1 [1,0] (.nm 0) (bX (f1 (gv 0) bV)) ki (aw F (aa (gv 1) (aa (f2 (gv 2) (f2 (gv 0) (cst (.int 1)) vQ) a8) (aa (f2 (gv 2) (gv 0) a8) ag)))) vs 0=.ok (.list ((List.range ps.length).map fun i=>PyData.bool (nS l (ps.getD (if i=0 then ps.length - 1 else i - 1) (0,0)) (ps.getD i (0,0))))) 0:=by
  refine fY (l:=List.range ps.length) (e:=fun (k:Nat)=>int (0 + (k:Int))) (fun i=>PyData.bool (nS l (ps.getD (if i=0 then ps.length - 1 else i - 1) (0,0)) (ps.getD i (0,0)))) ?_ (by rw[length_range];omega) fun i hi=>⟨[.da (.int (0 + (i:Int))),.da (au n l),.da (.list (ps.map aq))],by rw[hb];rfl,?_⟩
  ·have:=cU (fa:=f1 (gv 0) bV) (vs:=vs) (β:=0) (β1:=0) (n:=ps.length) (by rw[mD (ds:=ps.map aq) g0,length_map]) (by omega)
   rw[this];rfl
  ·have hi:=mem_range.mp hi
   rw[Int.zero_add]
   refine aI (b:=false) (ds:=[au n l,aq (ps.getD (if i=0 then ps.length - 1 else i - 1) (0,0)),aq (ps.getD i (0,0))]) ?_ (hF _ _)
   have a1:f2 (gv 2) (f2 (gv 0) (cst (.int 1)) vQ) a8 [.da (.int i),.da (au n l),.da (.list (ps.map aq))] 0=.ok (aq (ps.getD (if i=0 then ps.length - 1 else i - 1) (0,0))) 0:=aA (x:=.list (ps.map aq)) (y:=.int ((i:Int) - 1)) rfl (aA (x:=.int i) (y:=.int 1) rfl rfl rfl) (DZ hi)
   have a2:f2 (gv 2) (gv 0) a8 [.da (.int i),.da (au n l),.da (.list (ps.map aq))] 0=.ok (aq (ps.getD i (0,0))) 0:=by
    refine aA (x:=.list (ps.map aq)) (y:=.int i) rfl rfl ?_
    show jT (ps.map aq) (i:Int)=_
    rw[dU,jQ hi,getD_eq_getElem?_getD,getElem?_eq_getElem hi];rfl
   exact ac rfl (ac a1 (ac a2 an))
 exact dh ec (by simp only[dk];rw[kh];simp[List.all_map,GD])
noncomputable def IK:List D->FR:=bg 2 2 (fC FA kY)
theorem JE {n:Nat}{l:List Pr}{d:D}(O:OM.Ord n l)(h:Ge d):IK [au n l,d]=.ok (.bool (xp n l d)) false:=by
 show fin (fC FA kY [.fz (au n l),.fz d] 0)=_
 unfold fC
 have g1:gv 1 (vl [.fz (au n l),.fz d]) 0=.ok d 0:=rfl
 have t1:=vn g1 h.1
 cases hy:Aq d with
 |false=>
  rw[hy] at t1
  rw[dI (d:=.bool false) (b:=false) (β':=0) ?a]
  ·cases d <;> first |rfl |cases hy
  case a=>rw[hW (yu (cu t1))];rfl
 |true=>
  obtain⟨es,rfl⟩:=yB hy
  rw[hy] at t1
  have t2:=tQ (k:=2) g1
  rcases pR (es:=es) with⟨q,z⟩ | ⟨x,y,rfl⟩
  ·rw[q] at t2
   rw[show xp n l (.tuple es)=false by unfold xp;rw[z];rfl,dI (d:=.bool false) (b:=false) (β':=0) (by rw[hW (fB (cu t1) (yu t2))];rfl)];rfl
  ·have hs:=(h.2 _ rfl).2
   have ec:aK 1 [] (.nm 0) (bw (gv 1)) ki (aw FA (aa (gv 0) ag)) (vl [.fz (au n l),.fz (.tuple [x,y])]) 0=.ok (.list ([x,y].map fun e=>PyData.bool (mL e))) 0:=
    l4 (fun e=>PyData.bool (mL e)) rfl (by simp) fun e he=>⟨_,rfl,aI (ds:=[e]) rfl (Iu (hs e he))⟩
   have ea:=o9 ec
   have e2: [x,y].all mL=(mL x && mL y):=by simp
   rw[e2] at ea
   cases hw:(mL x && mL y) with
   |false=>
    rw[hw] at ea
    rw[Fj hw,dI (d:=.bool false) (b:=false) (β':=0) (by rw[hW (fB (cu t1) (fB t2 (cu (hU ea))))];rfl)];rfl
   |true=>
    rw[hw] at ea
    rw[Bool.and_eq_true] at hw
    cases x with
    |int a=>
     cases y with
     |int b=>
      rw[ah (env':=[.fz (au n l),.fz (.tuple [.int a,.int b])]) (β':=0) (by rw[cW (fB (cu t1) (fB t2 (cu (hU ea))))];rfl)]
      have eg:f2 (gv 1) (aw kY (aa (gv 0) ag)) (lb false) (vl [.fz (au n l),.fz (.tuple [.int a,.int b])]) 0=.ok (.bool (decide (((a,b):Pr)∈iR n l))) 0:=aA (x:=aq (a,b)) (y:=.list ((iR n l).map aq)) rfl (aI (ds:=[au n l]) rfl (v9 O)) (uf false (a,b) (iR n l))
      rw[bP,eg]
      show FR.ok (.bool (decide (((a,b):Pr)∈iR n l))) false=.ok (.bool ((decide (0<=a/\a < (n:Int)) && decide (0<=b/\b < (n:Int))) && xr l (a,b))) false
      congr 2
      rw[Bool.eq_iff_iff,decide_eq_true_eq,kG,Bool.and_eq_true,Bool.and_eq_true,decide_eq_true_eq,decide_eq_true_eq]
     |_=>cases hw.2
    |_=>cases hw.1
def IJ:List D->FR:=bg 3 3 nk
theorem Jh (n:Nat)(l:List Pr)(p q:Pr):IJ [au n l,aq p,aq q]=.ok (.bool (nS l p q)) false:=GW n l p q
noncomputable def HL:List D->FR:=bg 2 2 (fy IK IJ)
theorem Ht {ps:List Pr}{vs:List Nv}(h:gv 0 vs 0=.ok (.list (ps.map aq)) 0):bD (f2 (gv 0) (bo ag) (bL false)) vs 0=.ok ps.isEmpty 0:=by
 refine bS _ _ _ _ (aA h (lp (ds:=[]) an) ?_)
 have:=lN false ps []
 rw[if_neg Bool.false_ne_true] at this
 rw[show ([]:List D)=([]:List Pr).map aq from rfl,this]
 cases ps <;> simp
theorem HI {n:Nat}{l:List Pr}{ps:List Pr}(O:OM.Ord n l)(h:Gt (.list (ps.map aq)))(hts:Ji n l (.list (ps.map aq))=true):HL [.list (ps.map aq),au n l]=.ok (.bool (!ps.isEmpty && GD l ps)) false:=by
 show fin (fy IK IJ [.fz (.list (ps.map aq)),.fz (au n l)] 0)=_
 unfold fy
 have e1:=EC (fa:=gv 0) (vs:=vl [.fz (.list (ps.map aq)),.fz (au n l)]) (β:=0) rfl h.1
 have hd:=h.2 _ rfl
 have hz:ps.length<=100:=by have:=hd.1;rw[length_map] at this;exact this
 have t2:=Ht (ps:=ps) (vs:=vl [.fz (.list (ps.map aq)),.fz (au n l)]) rfl
 have ec:aK 1 [1] (.nm 0) (bw (gv 0)) ki (aw IK (aa (gv 1) (aa (gv 0) ag))) (vl [.fz (.list (ps.map aq)),.fz (au n l)]) 0=.ok (.list ((ps.map aq).map fun e=>PyData.bool (xp n l e))) 0:=
  l4 (fun e=>PyData.bool (xp n l e)) rfl (by omega) fun e he=>⟨_,rfl,aI (ds:=[au n l,e]) rfl (JE O (hd.2 e he))⟩
 have ea:=o9 ec
 have hts:(ps.map aq).all (xp n l)=true:=hts
 rw[hts] at ea
 cases ps with
 |nil=>rw[dI (d:=.bool false) (b:=false) (β':=0) (by rw[hW (fB (cu (hU e1)) (yu t2))];rfl)];rfl
 |cons p ps=>
  rw[ah (env':=[.fz (.list ((p :: ps).map aq)),.fz (au n l)]) (β':=0) (by rw[cW (fB (cu (hU e1)) (fB t2 (cu (hU ea))))];rfl)]
  rw[bP,Ap (F:=IJ) (n:=n) (l:=l) (Jh n l) hz rfl rfl];rfl
theorem CY {i:Nat}{L:List Nat}{f:VF D}{env:En}{β β':Int}{ds es:List D}(hi:env[i]? =some (.ow (.list ds)))(hf:f (vl env) β=.ok (.list es) β')(hL:(bp L env)[i]? =some (.ow (.list ds)))(hz:ds.length + es.length<=10000) :
  zy i L f env β=.nx ((bp L env).set i (.ow (.list (ds ++ es)))) β':=by
 unfold zy
 rw[if_pos (by rw[hi];rfl),hf]
 exact tH hL (if_pos (by rw[sizeLine_eq];omega))
def putAll (n:Nat)(l:List Pr)(put:List Pr):List Pr:=put.foldl (putL n) l
theorem qC {n:Nat}{U:Int->Prop}:∀{put l:List Pr},(∀u v,(u,v)∈l->U u->U v)->(∀t,t∈put->U t.2->U t.1)->∀u v,(u,v)∈putAll n l put->U u->U v
 | [],l,h0,_=>h0
 |t :: put,l,h0,h1=>by
  have q:∀u v,lq l u v=true->U u->U v:=fun u v h hu=>by
   rcases fF.mp h with rfl |h
   ·exact hu
   ·exact h0 _ _ h hu
  refine qC (put:=put) (l:=putL n l t) (fun u v h hu=>?_) (fun x hx=>h1 x (mem_cons_of_mem _ hx))
  rcases og h with h | ⟨a,b⟩
  ·exact h0 _ _ h hu
  ·exact q _ _ b (h1 t (mem_cons_self ..) (q _ _ a hu))
def Jd (l:List Pr)(p:List Pr):Prop:=∀i a b,p[i]? =some a->p[i + 1]? =some b->nS l a b=true
structure RI (l put:List Pr)(t:Pr)(ph:List (List Pr))(left:List Pr)(at':Nat):Prop where
 pth:∀p,p∈ph->∃q,p=t :: q/\(∀x,x∈q->x∈put/\¬x∈left)/\p.Nodup/\Jd l p
 lft:∀x,x∈left->x∈put
 rch:∀x,x∈put->x∈left\/∃p,p∈ph/\p.getLast? =some x
 fst:∃p,p∈ph/\p.getLast? =some t
 old:∀i p s,i < at'->ph[i]? =some p->p.getLast? =some s->nS l s t=false/\∀x,x∈left->nS l s x=false
 cnt:ph.length + left.length=put.length + 1
 le:at'<=ph.length
theorem RI.lt {n:Nat}{l put:List Pr}{t:Pr}{ph:List (List Pr)}{left:List Pr}{k:Nat}(R:RI l put t ph left k)(O:OM.Ord n l)(hb:t∈putAll n l put):k < ph.length:=by
 apply Classical.byContradiction
 intro hn
 have hk:k=ph.length:=by have:=R.le;omega
 have idx:∀p,p∈ph->∃i:Nat,i < k/\ph[i]? =some p:=fun p hp=>by
  obtain⟨i,hi⟩:=mem_iff_getElem?.mp hp
  exact⟨i,by rw[hk];exact (List.getElem?_eq_some_iff.mp hi).1,hi⟩
 have key:=qC (n:=n) (U:=fun x=>∃s:Pr,(∃p,p∈ph/\p.getLast? =some s)/\lq l s.1 x=true) (put:=put) (l:=l) (by
  rintro u v h ⟨s,hs,hl⟩
  exact⟨s,hs,tW O hl (fF.mpr (.inr h))⟩) (by
  rintro x hx ⟨s,⟨p,hp,hs⟩,hl⟩
  rcases R.rch x hx with h |h
  ·obtain⟨i,hi,hpi⟩:=idx p hp
   have h2:nS l s x=false:=(R.old i p s hi hpi hs).2 x h
   have hl:nS l s x=true:=hl
   rw[h2] at hl;cases hl
  ·exact⟨x,h,fF.mpr (.inl rfl)⟩) t.1 t.2 hb ⟨t,R.fst,fF.mpr (.inl rfl)⟩
 obtain⟨s,⟨p,hp,hs⟩,hl⟩:=key
 obtain⟨i,hi,hpi⟩:=idx p hp
 have h2:nS l s t=false:=(R.old i p s hi hpi hs).1
 have hl:nS l s t=true:=hl
 rw[h2] at hl;cases hl
theorem yp {α:Type}(f:α->Bool):∀L:List α,(L.filter f).length + (L.filter fun x=> !f x).length=L.length
 | []=>rfl
 |x :: L=>by
  have:=yp f L
  cases h:f x <;> simp[List.filter_cons,h] <;> omega
theorem DL {l p:List Pr}{s x:Pr}(h:Jd l p)(hs:p.getLast? =some s)(hx:nS l s x=true):Jd l (p ++ [x]):=by
 intro i a b ha hb
 have hl:p≠ []:=fun e=>by rw[e] at hs;cases hs
 have hpos:=length_pos_iff.mpr hl
 by_cases c:i + 1 < p.length
 ·rw[getElem?_append_left (by omega)] at ha
  rw[getElem?_append_left c] at hb
  exact h i a b ha hb
 ·by_cases d:i + 1=p.length
  ·rw[getElem?_append_left (by omega)] at ha
   rw[getElem?_append_right (by omega),d,Nat.sub_self] at hb
   cases hb
   rw[List.getLast?_eq_getElem?,show p.length - 1=i by omega,ha] at hs
   cases hs
   exact hx
  ·rw[getElem?_eq_none (by rw[length_append,length_singleton];omega)] at hb
   cases hb
theorem RI.step {l put:List Pr}{t s:Pr}{ph:List (List Pr)}{left p fr:List Pr}{k:Nat}(R:RI l put t ph left k)(htp:¬t∈put)(hp:ph[k]? =some p)(hs:p.getLast? =some s)(hst:nS l s t=false)(hfr:left.filter (fun x=>nS l s x)=fr):RI l put t (ph ++ fr.map fun x=>p ++ [x]) (left.filter fun x=> !decide (x∈fr)) (k + 1):=by
 have hpm:p∈ph:=mem_iff_getElem?.mpr ⟨k,hp⟩
 have hk:k < ph.length:=(List.getElem?_eq_some_iff.mp hp).1
 have mfr:∀x,x∈fr↔x∈left/\nS l s x=true:=fun x=>by rw[<-hfr];exact mem_filter
 have mlf:∀x,x∈(left.filter fun x=> !decide (x∈fr))↔x∈left/\¬x∈fr:=fun x=>by rw[mem_filter];simp
 refine⟨fun r hr=>?_,fun x hx=>R.lft x ((mlf x).mp hx).1,fun x hx=>?_,?_,fun i r s' hi hr hs'=>?_,?_,?_⟩
 ·rcases mem_append.mp hr with hr |hr
  ·obtain⟨q,e,h1,h2,h3⟩:=R.pth r hr
   exact⟨q,e,fun x hx=>⟨(h1 x hx).1,fun hm=>(h1 x hx).2 ((mlf x).mp hm).1⟩,h2,h3⟩
  ·obtain⟨x,hx,rfl⟩:=mem_map.mp hr
   obtain⟨q,e,h1,h2,h3⟩:=R.pth p hpm
   have hxf:=(mfr x).mp hx
   refine⟨q ++ [x],by rw[e];rfl,fun y hy=>?_,?_,DL h3 hs hxf.2⟩
   ·rcases mem_append.mp hy with hy |hy
    ·exact⟨(h1 y hy).1,fun hm=>(h1 y hy).2 ((mlf y).mp hm).1⟩
    ·rw[mem_singleton] at hy;subst hy
     exact⟨R.lft _ hxf.1,fun hm=>((mlf _).mp hm).2 hx⟩
   ·refine List.nodup_append.mpr ⟨h2,by simp,fun a ha b hb eab=>?_⟩
    rw[mem_singleton] at hb;subst hb;subst eab
    rw[e] at ha
    rcases mem_cons.mp ha with rfl |ha
    ·exact htp (R.lft _ hxf.1)
    ·exact (h1 _ ha).2 hxf.1
 ·rcases R.rch x hx with h | ⟨r,h1,h2⟩
  ·by_cases c:x∈fr
   ·exact .inr ⟨p ++ [x],mem_append.mpr (.inr (mem_map.mpr ⟨x,c,rfl⟩)),by simp⟩
   ·exact .inl ((mlf x).mpr ⟨h,c⟩)
  ·exact .inr ⟨r,mem_append.mpr (.inl h1),h2⟩
 ·obtain⟨r,h1,h2⟩:=R.fst
  exact⟨r,mem_append.mpr (.inl h1),h2⟩
 ·rw[getElem?_append_left (by omega)] at hr
  by_cases c:i=k
  ·subst c
   rw[hp] at hr;cases hr
   rw[hs] at hs';cases hs'
   refine⟨hst,fun x hx=>?_⟩
   obtain⟨a,b⟩:=(mlf x).mp hx
   cases z:nS l s x with
   |false=>rfl
   |true=>exact absurd ((mfr x).mpr ⟨a,z⟩) b
  ·obtain⟨a,b⟩:=R.old i r s' (by omega) hr hs'
   exact⟨a,fun x hx=>b x ((mlf x).mp hx).1⟩
 ·have h1:=yp (fun x=>nS l s x) left
  have h2:(left.filter fun x=> !decide (x∈fr))=left.filter fun x=> !nS l s x:=filter_congr fun x hx=>by
   congr 1
   rw[Bool.eq_iff_iff,decide_eq_true_eq,mfr x]
   exact⟨fun h=>h.2,fun h=>⟨hx,h⟩⟩
  rw[h2,length_append,length_map,<-hfr]
  have:=R.cnt
  omega
 ·rw[length_append];omega
theorem xj:∀{q put:List Pr},q.Nodup->(∀x,x∈q->x∈put)->q.length<=put.length
 | [],_,_,_=>Nat.zero_le _
 |x :: q,put,nd,h=>by
  have nd:=nodup_cons.mp nd
  have hx:=h x (mem_cons_self ..)
  have:=xj (q:=q) (put:=put.erase x) nd.2 fun y hy=>(List.mem_erase_of_ne (fun e=>nd.1 (by rw[<-e];exact hy))).mpr (h y (mem_cons_of_mem _ hy))
  rw[length_erase_of_mem hx] at this
  have:=List.length_pos_of_mem hx
  rw[length_cons];omega
abbrev pD (p:List Pr):D:=.list (p.map aq)
theorem A1 {fs:List Pr}{s:Pr}(h:fs.getLast? =some s):jT (fs.map aq) (-1)=some (aq s):=by
 have hl:fs≠ []:=fun e=>by rw[e] at h;cases h
 have hpos:=length_pos_iff.mpr hl
 unfold jT qN
 rw[if_neg (by omega),if_pos (by simp;omega)]
 show (fs.map aq)[((-1:Int) + (((fs.map aq).length:Nat):Int)).toNat]? =_
 rw[show ((-1:Int) + (((fs.map aq).length:Nat):Int)).toNat=fs.length - 1 by simp;omega,getElem?_map,<-List.getLast?_eq_getElem?,h];rfl
theorem ye {ph:List (List Pr)}{p:List Pr}{k:Nat}(h:ph[k]? =some p):jT (ph.map pD) (k:Int)=some (pD p):=by
 have hk:k < ph.length:=(List.getElem?_eq_some_iff.mp h).1
 rw[dU,jQ hk]
 have:ph[k]=p:=by rw[getElem?_eq_getElem hk] at h;exact Option.some.inj h
 rw[this];rfl
noncomputable def G7:List D->FR:=bg 7 3 (jy Dx)
theorem Fs {l p:List Pr}{s:Pr}(h:Jd l p)(hs:p.getLast? =some s){t:Pr}{q:List Pr}(e:p=t :: q)(hst:nS l s t=true):GD l p=true:=by
 unfold GD
 rw[all_eq_true]
 intro i hi
 have hi:=mem_range.mp hi
 by_cases c:i=0
 ·subst c
  rw[if_pos rfl,getD_eq_getElem?_getD,<-List.getLast?_eq_getElem?,hs,e]
  exact hst
 ·rw[if_neg c]
  refine h (i - 1) _ _ ?_ ?_
  ·rw[getD_eq_getElem?_getD,getElem?_eq_getElem (by omega)];rfl
  ·rw[show i - 1 + 1=i by omega,getD_eq_getElem?_getD,getElem?_eq_getElem hi];rfl
theorem JI {n:Nat}{l put:List Pr}{t:Pr}(O:OM.Ord n l)(hz:put.length<=100)(htp:¬t∈put)(hb:t∈putAll n l put):∃r,G7 [au n l,.list (put.map aq),aq t]=.ok (.list (r.map aq)) false/\(∀x,x∈r->x=t\/x∈put)/\r.Nodup/\r≠ []/\GD l r=true:=by
 show ∃r,fin (jy Dx [.fz (au n l),.fz (.list (put.map aq)),.fz (aq t),.no,.no,.no,.no] 0)=_/\_
 unfold jy
 rw[ah (env':=[.fz (au n l),.fz (.list (put.map aq)),.fz (aq t),.ow (.list ([[t]].map pD)),.no,.no,.no]) (β':=0) (by
  rw[fG,lp (ds:=[pD [t]]) (ac (lp (ds:=[aq t]) (ac rfl an)) an)];rfl)]
 rw[ah (env':=[.fz (au n l),.fz (.list (put.map aq)),.fz (aq t),.ow (.list ([[t]].map pD)),.fz (.list (put.map aq)),.no,.no]) (β':=0) (by rfl)]
 rw[ah (env':=[.fz (au n l),.fz (.list (put.map aq)),.fz (aq t),.ow (.list ([[t]].map pD)),.fz (.list (put.map aq)),.fz (.int ((0:Nat):Int)),.no]) (β':=0) (by rfl)]
 obtain⟨env',β',ew,ph,left,k,p,s,s6,rfl,rfl,R,hp,hs,hst⟩:=fV (L:=[0] ++ ((([] ++ []) ++ []) ++ ([2] ++ []))) (t:=nP (iY (aw Dx (aa (gv 0) (aa (f2 (f2 (gv 3) (gv 5) a8) (f1 (cst (.int 1)) ox) a8) (aa (gv 2) ag))))))
  (m:=aG (ba 6 ([] ++ [0]) (aK 1 [0,3,5] (.nm 0) (bw (gv 4)) (iY (aw Dx (aa (gv 1) (aa (f2 (f2 (gv 2) (gv 3) a8) (f1 (cst (.int 1)) ox) a8) (aa (gv 0) ag))))) (gv 0)))
   (aG (ba 4 ([] ++ []) (aK 1 [6] (.nm 0) (bw (gv 4)) (bD (f2 (gv 0) (gv 1) (lb true))) (gv 0)))
   (aG (zy 3 ([] ++ []) (aK 1 [3,5] (.nm 0) (bw (gv 6)) ki (f2 (f2 (gv 1) (gv 2) a8) (bo (aa (gv 0) ag)) fU)))
   (ba 5 ([] ++ []) (f2 (gv 5) (cst (.int 1)) cc)))))
  (fun m env b=>∃ph left k s6,env= [.fz (au n l),.fz (.list (put.map aq)),.fz (aq t),.ow (.list (ph.map pD)),.fz (.list (left.map aq)),.fz (.int ((k:Nat):Int)),s6]/\b=0/\RI l put t ph left k/\m=put.length + 1 - k)
  (fun env b=>∃ph left k p s s6,env= [.fz (au n l),.fz (.list (put.map aq)),.fz (aq t),.ow (.list (ph.map pD)),.fz (.list (left.map aq)),.fz (.int ((k:Nat):Int)),s6]/\b=0/\RI l put t ph left k/\ph[k]? =some p/\p.getLast? =some s/\nS l s t=true)
  (n:=1000) (k:=put.length + 1) (env:=[.fz (au n l),.fz (.list (put.map aq)),.fz (aq t),.ow (.list ([[t]].map pD)),.fz (.list (put.map aq)),.fz (.int ((0:Nat):Int)),.no]) (β:=0) (by omega)
  ⟨[[t]],put,0,.no,rfl,rfl,⟨fun p hp=>by
    rw[mem_singleton] at hp;subst hp
    exact⟨[],rfl,(fun x hx=>by cases hx),by simp,(fun i a b _ hb=>by simp at hb)⟩,fun x hx=>hx,fun x hx=>.inl hx,⟨[t],by simp,rfl⟩,fun i p s hi=>by omega,by simp;omega,by omega⟩,by omega⟩ (by
   rintro m env b ⟨ph,left,k,s6,rfl,rfl,R,rfl⟩
   have hk:=R.lt O hb
   obtain⟨p,hp⟩:∃p,ph[k]? =some p:=⟨_,getElem?_eq_getElem hk⟩
   have hpm:p∈ph:=mem_iff_getElem?.mpr ⟨k,hp⟩
   obtain⟨q,eq,hq,hnd,hch⟩:=R.pth p hpm
   obtain⟨s,hs⟩:∃s,p.getLast? =some s:=⟨_,List.getLast?_eq_some_getLast (by rw[eq];exact List.cons_ne_nil _ _)⟩
   have hcnt:=R.cnt
   have hpl:p.length<=put.length + 1:=by
    have h1:q.length<=put.length:=by
     rw[eq] at hnd
     exact xj (nodup_cons.mp hnd).2 fun x hx=>(hq x hx).1
    rw[eq,length_cons];omega
   have el:∀s6:Sl,f2 (f2 (gv 3) (gv 5) a8) (f1 (cst (.int 1)) ox) a8 (vl [.fz (au n l),.fz (.list (put.map aq)),.fz (aq t),.ow (.list (ph.map pD)),.fz (.list (left.map aq)),.fz (.int ((k:Nat):Int)),s6]) 0=.ok (aq s) 0:=fun s6=>aA (x:=pD p) (y:=.int (-1)) (aA (x:=.list (ph.map pD)) (y:=.int k) rfl rfl (ye hp)) rfl (A1 hs)
   have et:nP (iY (aw Dx (aa (gv 0) (aa (f2 (f2 (gv 3) (gv 5) a8) (f1 (cst (.int 1)) ox) a8) (aa (gv 2) ag))))) (vl [.fz (au n l),.fz (.list (put.map aq)),.fz (aq t),.ow (.list (ph.map pD)),.fz (.list (left.map aq)),.fz (.int ((k:Nat):Int)),s6]) 0=.ok (!nS l s t) 0:=cu (hU (aI (F:=Dx) (ds:=[au n l,aq s,aq t]) (b:=false) (ac rfl (ac (el s6) (ac rfl an))) (GW n l s t)))
   refine⟨_,_,et,?_⟩
   cases hst:nS l s t with
   |true=>exact .inl ⟨rfl,ph,left,k,p,s,s6,rfl,rfl,R,hp,hs,hst⟩
   |false=>
    refine .inr ⟨rfl,?_⟩
    show ∃env2 β2 k',aG _ _ [.fz (au n l),.fz (.list (put.map aq)),.fz (aq t),.ow (.list (ph.map pD)),.fz (.list (left.map aq)),.fz (.int ((k:Nat):Int)),s6] 0=.nx env2 β2/\k' < put.length + 1 - k/\_
    generalize hfr:left.filter (fun x=>nS l s x)=fr
    have hfl:fr.length<=left.length:=by rw[<-hfr];exact length_filter_le _ _
    have e6:aK 1 [0,3,5] (.nm 0) (bw (gv 4)) (iY (aw Dx (aa (gv 1) (aa (f2 (f2 (gv 2) (gv 3) a8) (f1 (cst (.int 1)) ox) a8) (aa (gv 0) ag))))) (gv 0) (vl [.fz (au n l),.fz (.list (put.map aq)),.fz (aq t),.ow (.list (ph.map pD)),.fz (.list (left.map aq)),.fz (.int ((k:Nat):Int)),s6]) 0=.ok (.list (fr.map aq)) 0:=by
     rw[<-hfr]
     refine bZ (l:=left) (e:=aq) (fun x=>nS l s x) aq rfl (by omega) fun x hx=>⟨[.da (aq x),.da (au n l),.da (.list (ph.map pD)),.da (.int ((k:Nat):Int))],rfl,?_,fun _=>rfl⟩
     have e2:f2 (f2 (gv 2) (gv 3) a8) (f1 (cst (.int 1)) ox) a8 [.da (aq x),.da (au n l),.da (.list (ph.map pD)),.da (.int ((k:Nat):Int))] 0=.ok (aq s) 0:=aA (x:=pD p) (y:=.int (-1)) (aA (x:=.list (ph.map pD)) (y:=.int k) rfl rfl (ye hp)) rfl (A1 hs)
     exact hU (aI (F:=Dx) (ds:=[au n l,aq s,aq x]) (b:=false) (ac rfl (ac e2 (ac rfl an))) (GW n l s x))
    rw[ah (env':=[.fz (au n l),.fz (.list (put.map aq)),.fz (aq t),.ow (.list (ph.map pD)),.fz (.list (left.map aq)),.fz (.int ((k:Nat):Int)),.fz (.list (fr.map aq))]) (β':=0) (by rw[bA,e6];rfl)]
    have e4:aK 1 [6] (.nm 0) (bw (gv 4)) (bD (f2 (gv 0) (gv 1) (lb true))) (gv 0) (vl [.fz (au n l),.fz (.list (put.map aq)),.fz (aq t),.ow (.list (ph.map pD)),.fz (.list (left.map aq)),.fz (.int ((k:Nat):Int)),.fz (.list (fr.map aq))]) 0=.ok (.list ((left.filter fun x=> !decide (x∈fr)).map aq)) 0:=by
     refine bZ (l:=left) (e:=aq) (fun x=> !decide (x∈fr)) aq rfl (by omega) fun x hx=>⟨_,rfl,?_,fun _=>rfl⟩
     exact bS _ _ _ _ (aA (x:=aq x) (y:=.list (fr.map aq)) rfl rfl (uf true x fr))
    have R':=R.step htp hp hs hst hfr
    generalize hlf:(left.filter fun x=> !decide (x∈fr))=left' at e4 R'
    rw[ah (env':=[.fz (au n l),.fz (.list (put.map aq)),.fz (aq t),.ow (.list (ph.map pD)),.fz (.list (left'.map aq)),.fz (.int ((k:Nat):Int)),.fz (.list (fr.map aq))]) (β':=0) (by rw[bA,e4];rfl)]
    have e3:aK 1 [3,5] (.nm 0) (bw (gv 6)) ki (f2 (f2 (gv 1) (gv 2) a8) (bo (aa (gv 0) ag)) fU) (vl [.fz (au n l),.fz (.list (put.map aq)),.fz (aq t),.ow (.list (ph.map pD)),.fz (.list (left'.map aq)),.fz (.int ((k:Nat):Int)),.fz (.list (fr.map aq))]) 0=.ok (.list ((fr.map fun x=>p ++ [x]).map pD)) 0:=by
     rw[map_map]
     refine fY (l:=fr) (e:=aq) (fun x=>pD (p ++ [x])) rfl (by omega) fun x hx=>⟨[.da (aq x),.da (.list (ph.map pD)),.da (.int ((k:Nat):Int))],rfl,?_⟩
     refine aA (x:=pD p) (y:=.list [aq x]) (aA (x:=.list (ph.map pD)) (y:=.int k) rfl rfl (ye hp)) (lp (ds:=[aq x]) (ac rfl an)) ?_
     rw[lY (by rw[length_map,length_singleton];omega)]
     show some (PyData.list (p.map aq ++ [x].map aq))=_
     rw[<-map_append]
    rw[ah (env':=[.fz (au n l),.fz (.list (put.map aq)),.fz (aq t),.ow (.list ((ph ++ fr.map fun x=>p ++ [x]).map pD)),.fz (.list (left'.map aq)),.fz (.int ((k:Nat):Int)),.fz (.list (fr.map aq))]) (β':=0) ?g3]
    case g3=>
     rw[CY (i:=3) (ds:=ph.map pD) (by rfl) e3 (by rfl) (by rw[length_map,length_map,length_map];omega),<-map_append];rfl
    refine⟨[.fz (au n l),.fz (.list (put.map aq)),.fz (aq t),.ow (.list ((ph ++ fr.map fun x=>p ++ [x]).map pD)),.fz (.list (left'.map aq)),.fz (.int ((k + 1:Nat):Int)),.fz (.list (fr.map aq))],0,put.length + 1 - (k + 1),?_,by omega,_,_,_,_,rfl,rfl,R',rfl⟩
    rw[show ((k + 1:Nat):Int)=(k:Int) + 1 by omega];rfl)
 obtain⟨q,eq,hq,hnd,hch⟩:=R.pth p (mem_iff_getElem?.mpr ⟨k,hp⟩)
 refine⟨p,?_,fun x hx=>?_,hnd,by rw[eq];exact List.cons_ne_nil _ _,Fs hch hs eq hst⟩
 ·rw[ah ew,bP,aA (x:=.list (ph.map pD)) (y:=.int k) (d:=pD p) (β1:=0) (β2:=0) rfl rfl (ye hp)];rfl
 ·rw[eq] at hx
  rcases mem_cons.mp hx with h |h
  ·exact .inl h
  ·exact .inr (hq x h).1
noncomputable abbrev oD:SF:=aG (jS ([2] ++ ([4] ++ [])) (iY (aw Hb (aa (gv 2) (aa (gv 4) ag))))
 (bG (bH (aa (cst (.str "ring")) (aa (aw G7 (aa (gv 0) (aa (gv 3) (aa (gv 4) ag)))) ag))))
 lh)
 (aG (ba 2 ([2] ++ ([4] ++ [])) (aw I0 (aa (gv 2) (aa (gv 4) ag))))
 (ij 3 [4] (gv 4)))
abbrev gE (n:Nat)(l ps put:List Pr)(s4:Sl):En:=[.fz (au n l),.fz (pD ps),.fz (cP n (bK (putAll n l put))),.ow (pD put),s4]
def JU (n:Nat)(l ps:List Pr):Prop:=∃put t,(∀x,x∈put->x∈ps)/\t∈ps/\t∈putAll n l put
def Kk (l ps r:List Pr):Prop:=(∀x,x∈r->x∈ps)/\r.Nodup/\r≠ []/\GD l r=true
theorem qJ (n:Nat)(l put:List Pr)(t:Pr):putAll n l (put ++ [t])=putL n (putAll n l put) t:=by unfold putAll;rw[List.foldl_append];rfl
theorem Ic {n:Nat}{l ps:List Pr}(O:OM.Ord n l)(hz:ps.length<=100)(ht:∀p,p∈ps->p∈iR n l):∀(rest put:List Pr) (s4:Sl),ps=put ++ rest->OM.Ord n (putAll n l put)->(∀p,p∈put->(p.2,p.1)∈putAll n l put)->
  (∃r,lu (.nm 4) oD (rest.map aq) (gE n l ps put s4) 0=.rt (.tuple [.str "ring",pD r]) false 0/\Kk l ps r/\JU n l ps)\/(∃s4',lu (.nm 4) oD (rest.map aq) (gE n l ps put s4) 0=.nx (gE n l ps ps s4') 0/\OM.Ord n (putAll n l ps)/\∀p,p∈ps->(p.2,p.1)∈putAll n l ps)
 | [],put,s4,e,Op,hp=>by
  rw[append_nil] at e
  subst e
  exact .inr ⟨s4,rfl,Op,hp⟩
 |t :: rest,put,s4,e,Op,hp=>by
  have htm:t∈ps:=by rw[e];simp
  have hpm:∀x,x∈put->x∈ps:=fun x hx=>by rw[e];simp[hx]
  have hpl:put.length + rest.length + 1=ps.length:=by rw[e,length_append,length_cons];omega
  obtain⟨hr,ha⟩:=kG.mp (ht t htm)
  have h8:=O.hi
  have eb:iY (aw Hb (aa (gv 2) (aa (gv 4) ag))) (vl (gE n l ps put (.fz (aq t)))) 0=.ok (decide (t∈putAll n l put)) 0:=hU (aI (ds:=[cP n (bK (putAll n l put)),aq t]) rfl (Kg h8 hr))
  have hbd:iq (.nm 4) (aq t) (gE n l ps put s4)=some (gE n l ps put (.fz (aq t))):=rfl
  by_cases c:t∈putAll n l put
  ·rw[decide_eq_true c] at eb
   have htp:¬t∈put:=fun h=>Op.irr _ (Op.tr _ _ _ c (hp t h))
   obtain⟨r,er,h1,h2,h3,h4⟩:=JI O (by omega) htp c
   refine .inl ⟨r,?_,⟨fun x hx=>?_,h2,h3,h4⟩,put,t,hpm,htm,c⟩
   ·have ef:bH (aa (cst (.str "ring")) (aa (aw G7 (aa (gv 0) (aa (gv 3) (aa (gv 4) ag)))) ag)) (vl (gE n l ps put (.fz (aq t)))) 0=.ok (.tuple [.str "ring",pD r]) 0:=gA (ds:=[.str "ring",pD r]) (ac rfl (ac (aI (ds:=[au n l,pD put,aq t]) rfl er) an)) (by simp)
    have e1:oD (gE n l ps put (.fz (aq t))) 0=.rt (.tuple [.str "ring",pD r]) false 0:=by
     unfold oD
     rw[dI (d:=.tuple [.str "ring",pD r]) (b:=false) (β':=0)]
     rw[hW eb,bP]
     show toS (bH (aa (cst (.str "ring")) (aa (aw G7 (aa (gv 0) (aa (gv 3) (aa (gv 4) ag)))) ag)) (vl (gE n l ps put (.fz (aq t)))) 0) _=_
     rw[ef];rfl
    rw[map_cons]
    unfold lu
    rw[hbd]
    dsimp only
    rw[e1]
   ·rcases h1 x hx with rfl |h
    ·exact htm
    ·exact hpm x h
  ·rw[decide_eq_false c] at eb
   have hn:lq (putAll n l put) t.1 t.2=false:=by
    cases z:lq (putAll n l put) t.1 t.2 with
    |false=>rfl
    |true=>
     rcases fF.mp z with h |h
     ·unfold xr at ha
      rw[h] at ha
      simp at ha
     ·exact absurd h c
   have Op':=DV Op hn
   rw[<-qJ] at Op'
   have hp':∀p,p∈put ++ [t]->(p.2,p.1)∈putAll n l (put ++ [t]):=fun p hpp=>by
    rw[qJ]
    rcases mem_append.mp hpp with h |h
    ·exact Dg Op (hp p h)
    ·rw[mem_singleton] at h;subst h
     exact xA hr
   have e1:oD (gE n l ps put (.fz (aq t))) 0=.nx (gE n l ps (put ++ [t]) (.fz (aq t))) 0:=by
    unfold oD
    rw[ah (env':=gE n l ps put (.fz (aq t))) (β':=0) (by rw[cW eb];rfl)]
    rw[ah (env':=[.fz (au n l),.fz (pD ps),.fz (cP n (bK (putAll n l (put ++ [t])))),.ow (pD put),.fz (aq t)]) (β':=0) (by rw[bA,aI (ds:=[cP n (bK (putAll n l put)),aq t]) (β1:=0) rfl (Jt h8 hr),<-qJ];rfl)]
    rw[jm (i:=3) (ds:=put.map aq) (d:=aq t) (β':=0) (by rfl) rfl (by rfl) (by rw[length_map];omega)]
    show SO.nx [.fz (au n l),.fz (pD ps),.fz (cP n (bK (putAll n l (put ++ [t])))),.ow (.list (put.map aq ++ [t].map aq)),.fz (aq t)] 0=_
    rw[<-map_append]
   have:=Ic O hz ht rest (put ++ [t]) (.fz (aq t)) (by rw[e];simp) Op' hp'
   have e2:lu (.nm 4) oD ((t :: rest).map aq) (gE n l ps put s4) 0=lu (.nm 4) oD (rest.map aq) (gE n l ps (put ++ [t]) (.fz (aq t))) 0:=by
    rw[map_cons]
    conv=>lhs;unfold lu
    rw[hbd]
    dsimp only
    rw[e1]
   rw[e2]
   exact this
noncomputable def G8:List D->FR:=bg 5 2 (kN qK IQ JA Hb G7 I0 IB)
def Tg (n:Nat)(l ps:List Pr)(d:D):Prop:=(∃r,d=.tuple [.str "ring",pD r]/\Kk l ps r/\JU n l ps)\/∃r,d=.tuple [.str "row",tupI r]/\Row n l r/\∀p,p∈ps->r.idxOf p.2 < r.idxOf p.1
theorem yj {n:Nat}:∀{put l:List Pr} {p:Pr},((0<=p.1/\p.1 < n)/\(0<=p.2/\p.2 < n))->p∈l->p∈putAll n l put
 | [],l,p,_,h=>h
 |t :: put,l,p,hr,h=>yj (put:=put) (l:=putL n l t) hr ((lI hr).mpr (.inl h))
theorem BA {n:Nat}{l ps:List Pr}(ht:∀p,p∈ps->p∈iR n l):Ji n l (pD ps)=true:=by
 show (ps.map aq).all (xp n l)=true
 rw[all_eq_true]
 intro d hd
 obtain⟨p,hp,rfl⟩:=mem_map.mp hd
 obtain⟨hr,ha⟩:=kG.mp (ht p hp)
 rw[Es hr];exact ha
theorem JD {n:Nat}{l ps:List Pr}(O:OM.Ord n l)(hz:ps.length<=100)(ht:∀p,p∈ps->p∈iR n l):∃d,G8 [au n l,pD ps]=.ok d false/\Tg n l ps d:=by
 show ∃d,fin (kN qK IQ JA Hb G7 I0 IB [.fz (au n l),.fz (pD ps),.no,.no,.no] 0)=.ok d false/\_
 unfold kN
 rw[ah (env':=[.fz (au n l),.fz (pD ps),.no,.no,.no]) (β':=0) (by rw[Cj,aI (ds:=[au n l]) (β1:=0) rfl (AI O)];rfl)]
 have et:iY (aw IQ (aa (gv 1) (aa (gv 0) ag))) (vl [.fz (au n l),.fz (pD ps),.no,.no,.no]) 0=.ok true 0:=by
  rw[<-BA ht]
  exact hU (aI (ds:=[pD ps,au n l]) rfl (J3 (Cv hz)))
 rw[ah (env':=[.fz (au n l),.fz (pD ps),.no,.no,.no]) (β':=0) (by rw[cW (cu et)];rfl)]
 rw[ah (env':=[.fz (au n l),.fz (pD ps),.fz (cP n (bK l)),.no,.no]) (β':=0) (by rw[bA,aI (ds:=[au n l]) (β1:=0) rfl (JM O)];rfl)]
 rw[ah (env':=gE n l ps [] .no) (β':=0) (by rw[fG,lp (ds:=[]) an];rfl)]
 rcases Ic O hz ht ps [] .no rfl O (fun p hp=>by cases hp) with⟨r,e,h⟩ | ⟨s4,e,Op,hp⟩
 ·refine⟨_,?_,.inl ⟨r,rfl,h⟩⟩
  rw[dI (d:=.tuple [.str "ring",pD r]) (b:=false) (β':=0)]
  ·rfl
  rw[b8 (env:=gE n l ps [] .no) (ds:=ps.map aq) (β1:=0) rfl]
  exact e
 ·obtain⟨r,er,hR,_⟩:=Ka (late:=[]) Op (by simp)
  refine⟨.tuple [.str "row",tupI r],?_,.inr ⟨r,rfl,⟨hR.1,?_⟩,fun p hpp=>?_⟩⟩
  ·rw[ah (env':=gE n l ps ps s4) (β':=0) (by
    rw[b8 (env:=gE n l ps [] .no) (ds:=ps.map aq) (β1:=0) rfl]
    exact e)]
   rw[bP]
   have ef:bH (aa (cst (.str "row")) (aa (aw IB (aa (gv 2) (aa (bo ag) ag))) ag)) (vl (gE n l ps ps s4)) 0=.ok (.tuple [.str "row",tupI r]) 0:=gA (ds:=[.str "row",tupI r]) (ac rfl (ac (aI (ds:=[cP n (bK (putAll n l ps)),.list (([]:List Int).map int)]) (ac rfl (ac (lp (ds:=[]) an) an)) er) an)) (by simp)
   show fin (toS (bH (aa (cst (.str "row")) (aa (aw IB (aa (gv 2) (aa (bo ag) ag))) ag)) (vl (gE n l ps ps s4)) 0) _)=_
   rw[ef];rfl
  ·have:=hR.2
   unfold BP at this ⊢
   rw[all_eq_true] at this ⊢
   exact fun p hp=>this p (yj (O.wn p hp) hp)
  ·have:=hR.2
   unfold BP at this
   rw[all_eq_true] at this
   exact of_decide_eq_true (this _ (hp p hpp))
theorem yZ {n:Nat}{r:List Int}:∀{put l:List Pr},(∀p,p∈l->r.idxOf p.1 < r.idxOf p.2)->(∀p,p∈put->r.idxOf p.2 < r.idxOf p.1)->∀p,p∈putAll n l put->r.idxOf p.1 < r.idxOf p.2
 | [],l,h,_=>h
 |t :: put,l,h,h2=>by
  refine yZ (put:=put) (l:=putL n l t) (fun p hp=>?_) (fun p hp=>h2 p (mem_cons_of_mem _ hp))
  have q:∀x y:Int,lq l x y=true->r.idxOf x<=r.idxOf y:=fun x y hxy=>by
   rcases fF.mp hxy with e |hm
   ·rw[e];exact Nat.le_refl _
   ·exact Nat.le_of_lt (h _ hm)
  rcases og hp with hm | ⟨a,b⟩
  ·exact h p hm
  ·have:=q _ _ a
   have:=q _ _ b
   have:=h2 t (mem_cons_self ..)
   omega
theorem FU {n:Nat}{l ps:List Pr}{r:List Int}(hR:Row n l r)(h:∀p,p∈ps->r.idxOf p.2 < r.idxOf p.1):¬JU n l ps:=by
 rintro⟨put,t,h1,h2,h3⟩
 have hf:=hR.2
 unfold BP at hf
 rw[all_eq_true] at hf
 have:=yZ (n:=n) (r:=r) (put:=put) (l:=l) (fun p hp=>of_decide_eq_true (hf p hp)) (fun p hp=>h p (h1 p hp)) t h3
 have:=h t h2
 omega
theorem Cp {α:Type}{L:List α}{fc:VF D}{vs:List Nv}{β:Int}(h:fc vs β=.ok (.list (L.map fun _=>int 1)) β):f2 fc (bo ag) (bL false) vs β=.ok (.bool L.isEmpty) β:=by
 refine aA (x:=.list (L.map fun _=>int 1)) (y:=.list []) h (lp (ds:=[]) an) ?_
 have e9:(L.map fun _=>int 1)=(L.map fun _=>(1:Int)).map int:=by rw[map_map];rfl
 rw[e9,show ([]:List D)=([]:List Int).map int from rfl,lC]
 congr 2
 cases L <;> simp
theorem B5 {n:Nat}{r:List Int}(h:r.Perm (dm n)){a b:Int}(ha:0<=a/\a < n)(hb:0<=b/\b < n){fr fa fb:VF D}{vs:List Nv}{β:Int}(hp:fr vs β=.ok (tupI r) β)(h1:fa vs β=.ok (.int a) β)(h2:fb vs β=.ok (.int b) β) :
  bD (f2 (eN fr fa) (eN fr fb) Cs) vs β=.ok (decide (r.idxOf a > r.idxOf b)) β:=by
 refine bS _ _ _ _ (aA (lZ hp h1 (h.mem_iff.mpr (bF.mpr ha))) (lZ hp h2 (h.mem_iff.mpr (bF.mpr hb))) ?_)
 show some (PyData.bool (decide (((r.idxOf a:Nat):Int) > ((r.idxOf b:Nat):Int))))=_
 congr 2
 rw[Bool.eq_iff_iff,decide_eq_true_eq,decide_eq_true_eq]
 omega
theorem F0 {n:Nat}{r:List Int}(h:r.Perm (dm n)){a b:Int}(ha:0<=a/\a < n)(hb:0<=b/\b < n){fr fa fb:VF D}{vs:List Nv}{β:Int}(hp:fr vs β=.ok (tupI r) β)(h1:fa vs β=.ok (.int a) β)(h2:fb vs β=.ok (.int b) β) :
  bD (f2 (eN fr fa) (eN fr fb) vL) vs β=.ok (decide (r.idxOf a < r.idxOf b)) β:=by
 refine bS _ _ _ _ (aA (lZ hp h1 (h.mem_iff.mpr (bF.mpr ha))) (lZ hp h2 (h.mem_iff.mpr (bF.mpr hb))) ?_)
 show some (PyData.bool (decide (((r.idxOf a:Nat):Int) < ((r.idxOf b:Nat):Int))))=_
 congr 2
 rw[Bool.eq_iff_iff,decide_eq_true_eq,decide_eq_true_eq]
 omega
def II:List D->FR:=bg 2 2 jC
theorem JV {n:Nat}{l:List Pr}{r:List Int}(O:OM.Ord n l)(hR:Row n l r):II [au n l,tupI r]=.ok (.bool true) false:=by
 have hz:l.length<=1000:=by
  have:=OM.jM (OM.eY O.ris) (m:=OM.cN n) fun x hx=>OM.bh.mpr (O.wn x hx)
  rw[hG] at this
  have h3:n * n<=8 * 8:=Nat.mul_le_mul O.hi O.hi
  omega
 show fin (jC [.fz (au n l),.fz (tupI r)] 0)=_
 unfold jC
 have ec:aK 2 [1] (.two 0 1) (bw (f2 (gv 0) (cst (.int 1)) a8)) (bD (f2 (eN (gv 2) (gv 0)) (eN (gv 2) (gv 1)) Cs)) (cst (.int 1)) (vl [.fz (au n l),.fz (tupI r)]) 0=.ok (.list ((l.filter fun p=>decide (r.idxOf p.1 > r.idxOf p.2)).map fun _=>int 1)) 0:=
  bZ (l:=l) (e:=aq) (fun p=>decide (r.idxOf p.1 > r.idxOf p.2)) (fun _=>int 1) rfl hz fun p hp=>⟨[.da (.int p.1),.da (.int p.2),.da (tupI r)],rfl,B5 hR.1 (O.wn p hp).1 (O.wn p hp).2 rfl rfl rfl,fun _=>rfl⟩
 rw[bP,Cp ec]
 have:(l.filter fun p=>decide (r.idxOf p.1 > r.idxOf p.2))= []:=by
  rw[filter_eq_nil_iff]
  intro p hp
  have h:=hR.2
  unfold BP at h
  rw[all_eq_true] at h
  have:=of_decide_eq_true (h p hp)
  rw[decide_eq_true_eq];omega
 rw[this];rfl
noncomputable def IY:List D->FR:=bg 2 2 (gH FA)
theorem J6 {n:Nat}{r:List Int}(h8:n<=8)(hp:r.Perm (dm n)):IY [tupI r,.int n]=.ok (.bool true) false:=by
 show fin (gH FA [.fz (tupI r),.fz (.int n)] 0)=_
 unfold gH
 have hl:r.length=n:=by rw[hp.length_eq,dg]
 have g0:gv 0 (vl [.fz (tupI r),.fz (.int n)]) 0=.ok (tupI r) 0:=rfl
 have t1:=vn g0 rfl
 have t2:bD (f2 (f1 (gv 0) bV) (gv 1) (bL true)) (vl [.fz (tupI r),.fz (.int n)]) 0=.ok false 0:=by
  have:=dv (neg:=true) (fa:=f1 (gv 0) bV) (fb:=gv 1) (vs:=vl [.fz (tupI r),.fz (.int n)]) (β:=0) (β1:=0) (β2:=0) (i:=r.length) (j:=n) (dh (x:=tupI r) rfl (by show some (int ((r.map int).length:Nat))=_;rw[length_map])) rfl
  rw[this,if_pos rfl,hl,decide_eq_true rfl];rfl
 have ec:aK 1 [] (.nm 0) (bw (gv 0)) ki (aw FA (aa (gv 0) ag)) (vl [.fz (tupI r),.fz (.int n)]) 0=.ok (.list ((r.map int).map fun e=>PyData.bool (mL e))) 0:=
  l4 (fun e=>PyData.bool (mL e)) rfl (by rw[length_map];omega) fun e he=>⟨_,rfl,aI (ds:=[e]) rfl (Iu (by obtain⟨x,_,rfl⟩:=mem_map.mp he;rfl))⟩
 have ea:=o9 ec
 have e2:(r.map int).all mL=true:=by
  rw[all_eq_true]
  intro d hd
  obtain⟨x,_,rfl⟩:=mem_map.mp hd
  rfl
 rw[e2] at ea
 rw[ah (env':=[.fz (tupI r),.fz (.int n)]) (β':=0) (by rw[cW (fB (cu t1) (fB t2 (cu (hU ea))))];rfl)]
 have es:p5 (tupI r)=some (.list ((dm n).map int)):=by
  have e1:sortI r=dm n:=(mG hp.symm ((BQ n).imp fun h=>Int.le_of_lt h)).symm
  unfold p5 tupI
  dsimp only[ji]
  rw[jZ]
  dsimp only
  rw[if_pos (by omega),e1]
 rw[bP,aA (x:=.list ((dm n).map int)) (y:=.list ((dm n).map int)) (β1:=0) (β2:=0) (dh (x:=tupI r) rfl es) (dh (x:=.int n) rfl (jB (by omega))) (lC false _ _)]
 simp only[if_neg Bool.false_ne_true,decide_true];rfl
theorem Dm {r:List Pr}(nd:r.Nodup)(h:∀p,p∈r->(0<=p.1/\p.1 < 8)/\(0<=p.2/\p.2 < 8)):i6 (pD r)=some (.int (r.length:Nat)):=by
 have hs:r.all CD=true:=by
  rw[all_eq_true]
  intro p hp
  obtain⟨⟨a,b⟩,c,d⟩:=h p hp
  unfold CD
  rw[decide_eq_true a,decide_eq_true b,decide_eq_true c,decide_eq_true d];rfl
 have hl:(OM.bR 8 (OM.Mem r)).length=r.length:=by
  apply Nat.le_antisymm
  ·exact OM.jM (OM.eY (OM.cA _ _)) fun x hx=>(OM.aY.mp hx).2
  ·exact OM.jM nd fun x hx=>OM.aY.mpr ⟨h x hx,hx⟩
 unfold i6
 dsimp only[ji]
 rw[eO]
 dsimp only
 rw[if_pos hs,hl]
noncomputable def HZ:List D->FR:=bg 4 3 (iz HL IY II)
theorem JR {n:Nat}{l ps:List Pr}{d:D}(O:OM.Ord n l)(hz:ps.length<=100)(ht:∀p,p∈ps->p∈iR n l)(h:Tg n l ps d):HZ [d,au n l,pD ps]=.ok (.bool true) false:=by
 have h8:=O.hi
 show fin (iz HL IY II [.fz d,.fz (au n l),.fz (pD ps),.no] 0)=_
 unfold iz
 rcases h with⟨r,rfl,⟨h1,h2,h3,h4⟩,_⟩ | ⟨r,rfl,hR,hi⟩
 ·have hrt:∀p,p∈r->p∈iR n l:=fun p hp=>ht p (h1 p hp)
  have hrl:r.length<=100:=Nat.le_trans (xj h2 h1) hz
  have g0:gv 0 (vl [.fz (.tuple [.str "ring",pD r]),.fz (au n l),.fz (pD ps),.no]) 0=.ok (.tuple [.str "ring",pD r]) 0:=rfl
  have t1:=vn g0 rfl
  have t2:=tQ (k:=2) g0
  rw[ah (env':=[.fz (.tuple [.str "ring",pD r]),.fz (au n l),.fz (pD ps),.no]) (β':=0) (by rw[cW (fB (cu t1) t2)];rfl)]
  have t3:bD (f2 (f2 (gv 0) (cst (.int 0)) a8) (cst (.str "ring")) (bL false)) (vl [.fz (.tuple [.str "ring",pD r]),.fz (au n l),.fz (pD ps),.no]) 0=.ok true 0:=bS _ _ _ _ (aA (x:=.str "ring") (y:=.str "ring") (aA (x:=.tuple [.str "ring",pD r]) (y:=.int 0) rfl rfl rfl) rfl (by kernel_rfl))
  rw[dI (d:=.bool true) (b:=false) (β':=0)]
  ·rfl
  rw[hW t3]
  rw[ah (env':=[.fz (.tuple [.str "ring",pD r]),.fz (au n l),.fz (pD ps),.fz (pD r)]) (β':=0) (by rfl)]
  have t4:iY (aw HL (aa (gv 3) (aa (gv 1) ag))) (vl [.fz (.tuple [.str "ring",pD r]),.fz (au n l),.fz (pD ps),.fz (pD r)]) 0=.ok true 0:=by
   have:=hU (aI (F:=HL) (fr:=aa (gv 3) (aa (gv 1) ag)) (vs:=vl [.fz (.tuple [.str "ring",pD r]),.fz (au n l),.fz (pD ps),.fz (pD r)]) (β:=0) (ds:=[pD r,au n l]) (β1:=0) rfl (HI O (Cv hrl) (BA hrt)))
   rw[h4] at this
   cases r with
   |nil=>exact absurd rfl h3
   |cons x r=>exact this
  have t5:bD (f2 (f1 (gv 3) i6) (f1 (gv 3) bV) (bL true)) (vl [.fz (.tuple [.str "ring",pD r]),.fz (au n l),.fz (pD ps),.fz (pD r)]) 0=.ok false 0:=by
   have:=dv (neg:=true) (fa:=f1 (gv 3) i6) (fb:=f1 (gv 3) bV) (vs:=vl [.fz (.tuple [.str "ring",pD r]),.fz (au n l),.fz (pD ps),.fz (pD r)]) (β:=0) (β1:=0) (β2:=0) (i:=r.length) (j:=r.length) (dh (x:=pD r) rfl (Dm h2 fun p hp=>by
    have:=(kG.mp (hrt p hp)).1
    omega)) (by rw[mD (ds:=r.map aq) rfl,length_map])
   rw[this,if_pos rfl,decide_eq_true rfl];rfl
  rw[ah (env':=[.fz (.tuple [.str "ring",pD r]),.fz (au n l),.fz (pD ps),.fz (pD r)]) (β':=0) (by rw[cW (fB (cu t4) t5)];rfl)]
  have ec:aK 1 [2] (.nm 0) (bw (f2 (gv 0) (cst (.int 1)) a8)) (bD (f2 (gv 0) (gv 1) (lb true))) (gv 0) (vl [.fz (.tuple [.str "ring",pD r]),.fz (au n l),.fz (pD ps),.fz (pD r)]) 0=.ok (.list ((r.filter fun x=> !decide (x∈ps)).map aq)) 0:=
   bZ (l:=r) (e:=aq) (fun x=> !decide (x∈ps)) aq rfl (by omega) fun x hx=>⟨_,rfl,bS _ _ _ _ (aA (x:=aq x) (y:=pD ps) rfl rfl (uf true x ps)),fun _=>rfl⟩
  have e0:(r.filter fun x=> !decide (x∈ps))= []:=by
   rw[filter_eq_nil_iff]
   intro x hx
   simp[h1 x hx]
  rw[e0] at ec
  rw[bP,aA (x:=.list (([]:List Pr).map aq)) (y:=.list (([]:List Pr).map aq)) (β1:=0) (β2:=0) ec (lp (ds:=[]) an) (lN false [] [])];rfl
 ·have g0:gv 0 (vl [.fz (.tuple [.str "row",tupI r]),.fz (au n l),.fz (pD ps),.no]) 0=.ok (.tuple [.str "row",tupI r]) 0:=rfl
  have t1:=vn g0 rfl
  have t2:=tQ (k:=2) g0
  rw[ah (env':=[.fz (.tuple [.str "row",tupI r]),.fz (au n l),.fz (pD ps),.no]) (β':=0) (by rw[cW (fB (cu t1) t2)];rfl)]
  have t3:bD (f2 (f2 (gv 0) (cst (.int 0)) a8) (cst (.str "ring")) (bL false)) (vl [.fz (.tuple [.str "row",tupI r]),.fz (au n l),.fz (pD ps),.no]) 0=.ok false 0:=bS _ _ _ _ (aA (x:=.str "row") (y:=.str "ring") (aA (x:=.tuple [.str "row",tupI r]) (y:=.int 0) rfl rfl rfl) rfl (by kernel_rfl))
  rw[ah (env':=[.fz (.tuple [.str "row",tupI r]),.fz (au n l),.fz (pD ps),.no]) (β':=0) (by rw[cW t3];rfl)]
  have t4:bD (f2 (f2 (gv 0) (cst (.int 0)) a8) (cst (.str "row")) (bL true)) (vl [.fz (.tuple [.str "row",tupI r]),.fz (au n l),.fz (pD ps),.no]) 0=.ok false 0:=bS _ _ _ _ (aA (x:=.str "row") (y:=.str "row") (aA (x:=.tuple [.str "row",tupI r]) (y:=.int 0) rfl rfl rfl) rfl (by kernel_rfl))
  have i1:f2 (gv 0) (cst (.int 1)) a8 (vl [.fz (.tuple [.str "row",tupI r]),.fz (au n l),.fz (pD ps),.no]) 0=.ok (tupI r) 0:=aA (x:=.tuple [.str "row",tupI r]) (y:=.int 1) rfl rfl rfl
  have t5:iY (aw IY (aa (f2 (gv 0) (cst (.int 1)) a8) (aa (f2 (gv 1) (cst (.int 0)) a8) ag))) (vl [.fz (.tuple [.str "row",tupI r]),.fz (au n l),.fz (pD ps),.no]) 0=.ok true 0:=hU (aI (ds:=[tupI r,.int n]) (ac i1 (ac (G9 (n:=n) (l:=l) rfl) an)) (J6 h8 hR.1))
  have t6:iY (aw II (aa (gv 1) (aa (f2 (gv 0) (cst (.int 1)) a8) ag))) (vl [.fz (.tuple [.str "row",tupI r]),.fz (au n l),.fz (pD ps),.no]) 0=.ok true 0:=hU (aI (ds:=[au n l,tupI r]) (ac rfl (ac i1 an)) (JV O hR))
  rw[ah (env':=[.fz (.tuple [.str "row",tupI r]),.fz (au n l),.fz (pD ps),.no]) (β':=0) (by rw[cW (fB t4 (fB (cu t5) (cu t6)))];rfl)]
  have ec:aK 2 [0] (.two 0 1) (bw (gv 2)) (bD (f2 (eN (f2 (gv 2) (cst (.int 1)) a8) (gv 1)) (eN (f2 (gv 2) (cst (.int 1)) a8) (gv 0)) Cs)) (cst (.int 1)) (vl [.fz (.tuple [.str "row",tupI r]),.fz (au n l),.fz (pD ps),.no]) 0=.ok (.list ((ps.filter fun p=>decide (r.idxOf p.2 > r.idxOf p.1)).map fun _=>int 1)) 0:=
   bZ (l:=ps) (e:=aq) (fun p=>decide (r.idxOf p.2 > r.idxOf p.1)) (fun _=>int 1) rfl (by omega) fun p hp=>⟨[.da (.int p.1),.da (.int p.2),.da (.tuple [.str "row",tupI r])],rfl,B5 hR.1 (kG.mp (ht p hp)).1.2 (kG.mp (ht p hp)).1.1 (aA (x:=.tuple [.str "row",tupI r]) (y:=.int 1) rfl rfl rfl) rfl rfl,fun _=>rfl⟩
  have e0:(ps.filter fun p=>decide (r.idxOf p.2 > r.idxOf p.1))= []:=by
   rw[filter_eq_nil_iff]
   intro p hp
   have:=hi p hp
   rw[decide_eq_true_eq];omega
  rw[bP,Cp ec,e0];rfl
theorem Er {n:Nat}{l ps:List Pr}{d:D}(h:Tg n l ps d):bL true d d=some (.bool false):=by
 have hs:SeqAt.shaped d=true/\PyData.eqv d d=true:=by
  rcases h with⟨r,rfl,_⟩ | ⟨r,rfl,_⟩
  ·have h1:=mU r
   unfold SeqAt.shaped at h1 ⊢
   rw[Bool.and_eq_true] at h1
   refine⟨?_,?_⟩
   ·rw[Bool.and_eq_true]
    have hd:PyData.depthAll (r.map aq)<=1:=pA r
    refine⟨?_,decide_eq_true ?_⟩
    ·show (PyData.canLayAll0 [.str "ring",.list (r.map aq)])=true
     show ((PyData.str "ring").canLay0 && ((PyData.list (r.map aq)).canLay0 && true))=true
     rw[h1.1,show (PyData.str "ring").canLay0=true by kernel_rfl];rfl
    ·simp only[PyData.depth,PyData.depthAll]
     omega
   ·simp only[PyData.eqv,PyData.eqvAll,pE]
    simp
  ·have h1:=shaped_ints r
   unfold SeqAt.shaped at h1 ⊢
   rw[Bool.and_eq_true] at h1
   refine⟨?_,?_⟩
   ·rw[Bool.and_eq_true]
    refine⟨?_,decide_eq_true ?_⟩
    ·show ((PyData.str "row").canLay0 && ((tupI r).canLay0 && true))=true
     rw[show (tupI r).canLay0=true by unfold tupI;simp only[PyData.canLay0];exact lay_ints r,show (PyData.str "row").canLay0=true by kernel_rfl];rfl
    ·have:=DX r
     simp only[PyData.depth,PyData.depthAll,this]
     omega
   ·simp only[PyData.eqv,PyData.eqvAll,DA]
    simp
 unfold bL
 rw[hs.1,hs.2];rfl
noncomputable def Fg:List D->FR:=bg 14 1 (yF D3 kY G8 HZ anyF y6 bE)
noncomputable abbrev y9:SF:=jS (([] ++ []) ++ ([] ++ [])) (bD (f2 (eN (gv 5) (gv 8)) (eN (gv 5) (gv 7)) vL))
 (ij 6 ([7] ++ ([8] ++ [])) (bH (aa (gv 7) (aa (gv 8) ag))))
 lh
noncomputable abbrev Bv:SF:=ij 9 ([] ++ ([] ++ [])) (f2 (gv 4) (fO 2 bE (aa (f1 (gv 4) bV) ag)) a8)
noncomputable abbrev yQ:SF:=aG (ba 12 [] (f1 (gv 11) yq))
 (aG (ba 13 ([3] ++ ([12] ++ [])) (aw G8 (aa (gv 3) (aa (gv 12) ag))))
 (aG (jS (([13] ++ ([3] ++ ([11] ++ []))) ++ ([] ++ [])) (hZ (nP (iY (aw HZ (aa (gv 13) (aa (gv 3) (aa (gv 11) ag)))))) (bD (f2 (gv 12) (gv 11) (bL true))))
 (bG (cst (.bool false)))
 lh)
 (jS ((([3] ++ ([12] ++ [])) ++ []) ++ (([] ++ []) ++ (([] ++ []) ++ []))) (hZ (bD (f2 (aw G8 (aa (gv 3) (aa (gv 12) ag))) (gv 13) (bL true))) (sH (bD (f2 (gv 11) (gv 6) (bL false))) (bD (f2 (f2 (gv 13) (cst (.int 0)) a8) (cst (.str "row")) (bL true)))))
 (bG (cst (.bool false)))
 lh)))
abbrev fe (ns:List Int)(i n:Nat)(l:List Pr)(row:List Int)(s6 s7 s8 s9 s10 s11 s12 s13:Sl):En:=[.fz (cM ns),.fz (.int i),.bx,.fz (au n l),.fz (pD (iR n l)),.fz (tupI row),s6,s7,s8,s9,s10,s11,s12,s13]
theorem Kh {ns:List Int}{i n:Nat}{l ps cs:List Pr}{row:List Int}{s7 s8 s9 s10 s12 s13:Sl}(O:OM.Ord n l)(hR:Row n l row)(hc:∀p,p∈cs->row.idxOf p.2 < row.idxOf p.1)(hz:ps.length<=100)(ht:∀p,p∈ps->p∈iR n l)(β:Int):∃t12 t13,yQ (fe ns i n l row (.fz (pD cs)) s7 s8 s9 s10 (.fz (pD ps)) s12 s13) β=.nx (fe ns i n l row (.fz (pD cs)) s7 s8 s9 s10 (.fz (pD ps)) t12 t13) β:=by
 obtain⟨d,ed,hd⟩:=JD O hz ht
 unfold yQ
 rw[ah (env':=fe ns i n l row (.fz (pD cs)) s7 s8 s9 s10 (.fz (pD ps)) (.fz (pD ps)) s13) (β':=β) (by rfl)]
 rw[ah (env':=fe ns i n l row (.fz (pD cs)) s7 s8 s9 s10 (.fz (pD ps)) (.fz (pD ps)) (.fz d)) (β':=β) (by rw[bA,aI (ds:=[au n l,pD ps]) (β1:=β) rfl ed];rfl)]
 have t1:iY (aw HZ (aa (gv 13) (aa (gv 3) (aa (gv 11) ag)))) (vl (fe ns i n l row (.fz (pD cs)) s7 s8 s9 s10 (.fz (pD ps)) (.fz (pD ps)) (.fz d))) β=.ok true β:=hU (aI (ds:=[d,au n l,pD ps]) rfl (JR O hz ht hd))
 have t2:bD (f2 (gv 12) (gv 11) (bL true)) (vl (fe ns i n l row (.fz (pD cs)) s7 s8 s9 s10 (.fz (pD ps)) (.fz (pD ps)) (.fz d))) β=.ok false β:=by
  refine bS _ _ _ _ (aA (x:=pD ps) (y:=pD ps) rfl rfl ?_)
  rw[lN true ps ps,if_pos rfl,decide_eq_true rfl];rfl
 rw[ah (env':=fe ns i n l row (.fz (pD cs)) s7 s8 s9 s10 (.fz (pD ps)) (.fz (pD ps)) (.fz d)) (β':=β) (by rw[cW (fB (cu t1) t2)];rfl)]
 have t3:bD (f2 (aw G8 (aa (gv 3) (aa (gv 12) ag))) (gv 13) (bL true)) (vl (fe ns i n l row (.fz (pD cs)) s7 s8 s9 s10 (.fz (pD ps)) (.fz (pD ps)) (.fz d))) β=.ok false β:=bS _ _ _ _ (aA (x:=d) (y:=d) (aI (ds:=[au n l,pD ps]) rfl ed) rfl (Er hd))
 have t4:bD (f2 (gv 11) (gv 6) (bL false)) (vl (fe ns i n l row (.fz (pD cs)) s7 s8 s9 s10 (.fz (pD ps)) (.fz (pD ps)) (.fz d))) β=.ok (decide (ps=cs)) β:=by
  refine bS _ _ _ _ (aA (x:=pD ps) (y:=pD cs) rfl rfl ?_)
  rw[lN false ps cs,if_neg Bool.false_ne_true]
 have t5:sH (bD (f2 (gv 11) (gv 6) (bL false))) (bD (f2 (f2 (gv 13) (cst (.int 0)) a8) (cst (.str "row")) (bL true))) (vl (fe ns i n l row (.fz (pD cs)) s7 s8 s9 s10 (.fz (pD ps)) (.fz (pD ps)) (.fz d))) β=.ok false β:=by
  rcases hd with⟨r,rfl,_,hb⟩ | ⟨r,rfl,_⟩
  ·have hne:ps≠cs:=fun e=>FU hR (by rw[e];exact hc) hb
   rw[decide_eq_false hne] at t4
   rw[AG,t4];rfl
  ·have t6:bD (f2 (f2 (gv 13) (cst (.int 0)) a8) (cst (.str "row")) (bL true)) (vl (fe ns i n l row (.fz (pD cs)) s7 s8 s9 s10 (.fz (pD ps)) (.fz (pD ps)) (.fz (.tuple [.str "row",tupI r])))) β=.ok false β:=bS _ _ _ _ (aA (x:=.str "row") (y:=.str "row") (aA (x:=.tuple [.str "row",tupI r]) (y:=.int 0) rfl rfl rfl) rfl (by kernel_rfl))
   rw[qE t4 t6,Bool.and_false]
 rw[cW (fB t3 t5)]
 exact⟨_,_,rfl⟩
noncomputable abbrev AV:SF:=aG (yK 2 ([0] ++ ([1] ++ [])) (sN D3 (aa (gv 0) (aa (gv 1) ag))))
 (aG (ba 3 ([] ++ []) (fO 2 anyF (aa (cst (.int 8)) ag)))
 (aG (ba 4 ([3] ++ []) (aw kY (aa (gv 3) ag)))
 (aG (ba 5 ([3] ++ []) (fO 2 y6 (aa (gv 3) ag)))
 (aG (gY 6 [] (bo ag))
 (aG (cH (.two 7 8) [4] (bw (gv 4)) y9)
 (aG (gY 9 [] (bo ag))
 (aG (cH (.nm 10) (([] ++ []) ++ ([] ++ [])) (bX (f2 (fO 2 bE (aa (cst (.int 13)) ag)) (f1 (f2 (gv 4) (bo ag) (bL true)) CK) cJ)) Bv)
 (cH (.nm 11) ([6] ++ ([9] ++ ([] ++ ([4] ++ ((([] ++ []) ++ []) ++ []))))) (bw (bo (aa (gv 6) (aa (gv 9) (aa (bo ag) (aa (gv 4) (aa (FX (gv 9) (fun _ β=>.ok none β) (GL (cst (.int 2)))) ag))))))) yQ))))))))
theorem JF (ns:List Int)(i:Nat)(s2 s3 s4 s5 s6 s7 s8 s9 s10 s11 s12 s13:Sl)(β:Int):∃t2 t3 t4 t5 t6 t7 t8 t9 t10 t11 t12 t13 β',AV [.fz (cM ns),.fz (.int i),s2,s3,s4,s5,s6,s7,s8,s9,s10,s11,s12,s13] β=.nx [.fz (cM ns),.fz (.int i),t2,t3,t4,t5,t6,t7,t8,t9,t10,t11,t12,t13] β':=by
 obtain⟨z,ez⟩:=HW ns i
 obtain⟨t3,t4,t5,t6,t7,t8,t9,t10,t11,t12,t13,hcl⟩:∃t3 t4 t5 t6 t7 t8 t9 t10 t11 t12 t13:Sl,(ui (bp ([0] ++ ([1] ++ [])) [.fz (cM ns),.fz (.int i),s2,s3,s4,s5,s6,s7,s8,s9,s10,s11,s12,s13])).set 2 .bx= [.fz (cM ns),.fz (.int i),.bx,t3,t4,t5,t6,t7,t8,t9,t10,t11,t12,t13]:=⟨_,_,_,_,_,_,_,_,_,_,_,rfl⟩
 unfold AV
 rw[ah (env':=[.fz (cM ns),.fz (.int i),.bx,t3,t4,t5,t6,t7,t8,t9,t10,t11,t12,t13]) (β':=z) ?g1]
 case g1=>
  unfold yK
  rw[AR (ds:=[cM ns,.int i]) (β1:=β) rfl ez]
  show SO.nx _ z=_
  rw[<-hcl]
 obtain⟨n,l,β1,eo,O⟩:=Hn z
 have h8:=O.hi
 have htl:(iR n l).length<=64:=by rw[<-sx];exact su l n h8
 rw[ah (env':=[.fz (cM ns),.fz (.int i),.bx,.fz (au n l),t4,t5,t6,t7,t8,t9,t10,t11,t12,t13]) (β':=β1) ?g2]
 case g2=>rw[bA,di (ds:=[.int 8]) (β1:=z) (by rfl) rfl eo];rfl
 rw[ah (env':=[.fz (cM ns),.fz (.int i),.bx,.fz (au n l),.fz (pD (iR n l)),t5,t6,t7,t8,t9,t10,t11,t12,t13]) (β':=β1) ?g3]
 case g3=>rw[bA,aI (ds:=[au n l]) (β1:=β1) rfl (v9 O)];rfl
 obtain⟨row,β2,er,hR⟩:=Gv O β1
 rw[ah (env':=fe ns i n l row t6 t7 t8 t9 t10 t11 t12 t13) (β':=β2) ?g4]
 case g4=>rw[bA,di (ds:=[au n l]) (β1:=β1) (by rfl) rfl er];rfl
 rw[ah (env':=fe ns i n l row (.ow (pD [])) t7 t8 t9 t10 t11 t12 t13) (β':=β2) (by rw[fG,lp (ds:=[]) an];rfl)]
 obtain⟨env',β3,ef,cs,u7,u8,rfl,hcl',hct,hcr⟩:=cj (t:=.two 7 8) (m:=y9) (ds:=(iR n l).map aq) (k:=0)
  (fun k env _=>∃(cs:List Pr) (u7 u8:Sl),env=fe ns i n l row (.ow (pD cs)) u7 u8 t9 t10 t11 t12 t13/\cs.length<=k/\(∀p,p∈cs->p∈iR n l)/\∀p,p∈cs->row.idxOf p.2 < row.idxOf p.1)
  (env:=fe ns i n l row (.ow (pD [])) t7 t8 t9 t10 t11 t12 t13) (β:=β2) ⟨[],t7,t8,rfl,Nat.le_refl _,(fun p hp=>by cases hp),(fun p hp=>by cases hp)⟩ (by
   rintro k d env β hk ⟨cs,u7,u8,rfl,hcl,hct,hcr⟩
   have hkl:=(List.getElem?_eq_some_iff.mp hk).1
   rw[length_map] at hkl
   obtain⟨p,hp,rfl⟩:=mem_map.mp (mem_of_getElem? hk)
   have hpr:=(kG.mp hp).1
   refine⟨fe ns i n l row (.ow (pD cs)) (.fz (.int p.1)) (.fz (.int p.2)) t9 t10 t11 t12 t13,rfl,?_⟩
   have et:bD (f2 (eN (gv 5) (gv 8)) (eN (gv 5) (gv 7)) vL) (vl (fe ns i n l row (.ow (pD cs)) (.fz (.int p.1)) (.fz (.int p.2)) t9 t10 t11 t12 t13)) β=.ok (decide (row.idxOf p.2 < row.idxOf p.1)) β:=F0 hR.1 hpr.2 hpr.1 rfl rfl rfl
   by_cases c:row.idxOf p.2 < row.idxOf p.1
   ·rw[decide_eq_true c] at et
    refine⟨fe ns i n l row (.ow (pD (cs ++ [p]))) (.fz (.int p.1)) (.fz (.int p.2)) t9 t10 t11 t12 t13,β,?_,cs ++ [p],_,_,rfl,by rw[length_append,length_singleton];omega,fun q hq=>?_,fun q hq=>?_⟩
    ·unfold y9
     rw[hW et]
     have:=jm (i:=6) (L:=[7] ++ ([8] ++ [])) (env:=fe ns i n l row (.ow (pD cs)) (.fz (.int p.1)) (.fz (.int p.2)) t9 t10 t11 t12 t13) (ds:=cs.map aq) (β:=β) (by rfl) (jf (fa:=gv 7) (fb:=gv 8) (a:=p.1) (b:=p.2) rfl rfl) (by rfl) (by rw[length_map];omega)
     show ij 6 ([7] ++ ([8] ++ [])) (bH (aa (gv 7) (aa (gv 8) ag))) (fe ns i n l row (.ow (pD cs)) (.fz (.int p.1)) (.fz (.int p.2)) t9 t10 t11 t12 t13) β=.nx (fe ns i n l row (.ow (.list ((cs ++ [p]).map aq))) (.fz (.int p.1)) (.fz (.int p.2)) t9 t10 t11 t12 t13) β
     rw[map_append]
     exact this
    ·rcases mem_append.mp hq with hq |hq
     ·exact hct q hq
     ·rw[mem_singleton] at hq;subst hq;exact hp
    ·rcases mem_append.mp hq with hq |hq
     ·exact hcr q hq
     ·rw[mem_singleton] at hq;subst hq;exact c
   ·rw[decide_eq_false c] at et
    refine⟨fe ns i n l row (.ow (pD cs)) (.fz (.int p.1)) (.fz (.int p.2)) t9 t10 t11 t12 t13,β,?_,cs,_,_,rfl,by omega,hct,hcr⟩
    unfold y9
    rw[cW et];rfl)
 rw[Nat.zero_add,length_map] at hcl'
 rw[ah (env':=fe ns i n l row (.ow (pD cs)) u7 u8 t9 t10 t11 t12 t13) (β':=β3) ?g5]
 case g5=>
  rw[b8 (env:=fe ns i n l row (.ow (pD [])) t7 t8 t9 t10 t11 t12 t13) (ds:=(iR n l).map aq) (β1:=β2) rfl]
  exact ef
 rw[ah (env':=fe ns i n l row (.ow (pD cs)) u7 u8 (.ow (pD [])) t10 t11 t12 t13) (β':=β3) (by rw[fG,lp (ds:=[]) an];rfl)]
 obtain⟨j,hj,ej⟩:=fJ (m:=13) (by omega) (by omega) β3
 generalize hβ4:β3 / ((13:Nat):Int)=β4 at ej
 obtain⟨m,hm,hm0,em⟩:∃m:Nat,m<=12/\(iR n l= []->m=0)/\f2 (fO 2 bE (aa (cst (.int 13)) ag)) (f1 (f2 (gv 4) (bo ag) (bL true)) CK) cJ (vl (fe ns i n l row (.ow (pD cs)) u7 u8 (.ow (pD [])) t10 t11 t12 t13)) β3=.ok (.int m) β4:=by
  have e1:f2 (gv 4) (bo ag) (bL true) (vl (fe ns i n l row (.ow (pD cs)) u7 u8 (.ow (pD [])) t10 t11 t12 t13)) β4=.ok (.bool (!decide (iR n l= []))) β4:=aA (x:=pD (iR n l)) (y:=.list (([]:List Pr).map aq)) rfl (lp (ds:=[]) an) (lN true (iR n l) [])
  have e2:fO 2 bE (aa (cst (.int 13)) ag) (vl (fe ns i n l row (.ow (pD cs)) u7 u8 (.ow (pD [])) t10 t11 t12 t13)) β3=.ok (.int j) β4:=di (ds:=[.int 13]) (by rfl) rfl ej
  by_cases c:iR n l= []
  ·refine⟨0,by omega,fun _=>rfl,?_⟩
   rw[decide_eq_true c] at e1
   refine aA (x:=.int j) (y:=.int 0) e2 (dh e1 rfl) ?_
   rw[yb (by omega),Int.mul_zero];rfl
  ·refine⟨j,by omega,fun h=>absurd h c,?_⟩
   rw[decide_eq_false c] at e1
   refine aA (x:=.int j) (y:=.int 1) e2 (dh e1 rfl) ?_
   rw[yb (by omega),Int.mul_one]
 obtain⟨env',β5,ef2,qs,u10,rfl,hql,hqt⟩:=cj (t:=.nm 10) (m:=Bv) (ds:=cg 0 m) (k:=0)
  (fun k env _=>∃(qs:List Pr) (u10:Sl),env=fe ns i n l row (.ow (pD cs)) u7 u8 (.ow (pD qs)) u10 t11 t12 t13/\qs.length<=k/\∀p,p∈qs->p∈iR n l)
  (env:=fe ns i n l row (.ow (pD cs)) u7 u8 (.ow (pD [])) t10 t11 t12 t13) (β:=β4) ⟨[],t10,rfl,Nat.le_refl _,(fun p hp=>by cases hp)⟩ (by
   rintro k d env β hk ⟨qs,u10,rfl,hql,hqt⟩
   obtain⟨hkm,rfl⟩:=fM hk
   have hne:iR n l≠ []:=fun h=>by have:=hm0 h;omega
   have hpos:=length_pos_iff.mpr hne
   obtain⟨a,ha,ea⟩:=fJ (m:=(iR n l).length) (by omega) (by omega) β
   refine⟨fe ns i n l row (.ow (pD cs)) u7 u8 (.ow (pD qs)) (.fz (.int (0 + (k:Int)))) t11 t12 t13,rfl,?_⟩
   have eg:f2 (gv 4) (fO 2 bE (aa (f1 (gv 4) bV) ag)) a8 (vl (fe ns i n l row (.ow (pD cs)) u7 u8 (.ow (pD qs)) (.fz (.int (0 + (k:Int)))) t11 t12 t13)) β=.ok (aq ((iR n l)[a])) (β / ((iR n l).length:Nat)):=by
    refine aA (x:=pD (iR n l)) (y:=.int a) rfl (di (ds:=[.int ((iR n l).length:Nat)]) (β1:=β) (by rfl) (ac (by rw[mD (ds:=(iR n l).map aq) rfl,length_map]) an) ea) ?_
    show jT ((iR n l).map aq) (a:Int)=_
    rw[dU,jQ ha];rfl
   refine⟨fe ns i n l row (.ow (pD cs)) u7 u8 (.ow (pD (qs ++ [(iR n l)[a]]))) (.fz (.int (0 + (k:Int)))) t11 t12 t13,β / ((iR n l).length:Nat),?_,qs ++ [(iR n l)[a]],_,rfl,by rw[length_append,length_singleton];omega,fun q hq=>?_⟩
   ·unfold Bv
    have:=jm (i:=9) (L:=[] ++ ([] ++ [])) (env:=fe ns i n l row (.ow (pD cs)) u7 u8 (.ow (pD qs)) (.fz (.int (0 + (k:Int)))) t11 t12 t13) (ds:=qs.map aq) (β:=β) (by rfl) eg (by rfl) (by rw[length_map];omega)
    show ij 9 ([] ++ ([] ++ [])) (f2 (gv 4) (fO 2 bE (aa (f1 (gv 4) bV) ag)) a8) (fe ns i n l row (.ow (pD cs)) u7 u8 (.ow (pD qs)) (.fz (.int (0 + (k:Int)))) t11 t12 t13) β=.nx (fe ns i n l row (.ow (pD cs)) u7 u8 (.ow (.list ((qs ++ [(iR n l)[a]]).map aq))) (.fz (.int (0 + (k:Int)))) t11 t12 t13) (β / ((iR n l).length:Nat))
    rw[map_append]
    exact this
   ·rcases mem_append.mp hq with hq |hq
    ·exact hqt q hq
    ·rw[mem_singleton] at hq;subst hq;exact getElem_mem ..)
 rw[Nat.zero_add,dN] at hql
 rw[ah (env':=fe ns i n l row (.ow (pD cs)) u7 u8 (.ow (pD qs)) u10 t11 t12 t13) (β':=β5) ?g6]
 case g6=>
  rw[b8 (env:=fe ns i n l row (.ow (pD cs)) u7 u8 (.ow (pD [])) t10 t11 t12 t13) (ds:=cg 0 m) (β1:=β4) (cU (n:=m) em (by omega))]
  exact ef2
 have e5:bw (bo (aa (gv 6) (aa (gv 9) (aa (bo ag) (aa (gv 4) (aa (FX (gv 9) (fun _ β=>.ok none β) (GL (cst (.int 2)))) ag)))))) (vl (fe ns i n l row (.ow (pD cs)) u7 u8 (.ow (pD qs)) u10 t11 t12 t13)) β5=.ok ([cs,qs,[],iR n l,qs.take 2].map pD) β5:=by
  have es:FX (gv 9) (fun _ β=>.ok none β) (GL (cst (.int 2))) (vl (fe ns i n l row (.ow (pD cs)) u7 u8 (.ow (pD qs)) u10 t11 t12 t13)) β5=.ok (pD (qs.take 2)) β5:=by
   have:=Bb (fa:=gv 9) (fb:=cst (.int 2)) (vs:=vl (fe ns i n l row (.ow (pD cs)) u7 u8 (.ow (pD qs)) u10 t11 t12 t13)) (β:=β5) (ds:=qs.map aq) (i:=2) rfl rfl
   rw[this,<-List.map_take]
  unfold bw
  rw[lp (ds:=[pD cs,pD qs,pD [],pD (iR n l),pD (qs.take 2)]) (ac rfl (ac rfl (ac (lp (ds:=[]) an) (ac rfl (ac es an)))))]
  rfl
 have hall:∀ps,ps∈ [cs,qs,[],iR n l,qs.take 2]->ps.length<=100/\∀p,p∈ps->p∈iR n l:=fun ps hps=>by
  simp only[mem_cons,not_mem_nil,or_false] at hps
  rcases hps with rfl |rfl |rfl |rfl |rfl
  ·exact⟨by omega,hct⟩
  ·exact⟨by omega,hqt⟩
  ·exact⟨by simp,fun p hp=>by cases hp⟩
  ·exact⟨by omega,fun p hp=>hp⟩
  ·exact⟨by rw[length_take];omega,fun p hp=>hqt p (mem_of_mem_take hp)⟩
 obtain⟨env',β',ef3,u11,u12,u13,rfl⟩:=cj (t:=.nm 11) (m:=yQ) (ds:=[cs,qs,[],iR n l,qs.take 2].map pD) (k:=0)
  (fun _ env _=>∃u11 u12 u13:Sl,env=fe ns i n l row (.fz (pD cs)) u7 u8 (.fz (pD qs)) u10 u11 u12 u13)
  (env:=fe ns i n l row (.fz (pD cs)) u7 u8 (.fz (pD qs)) u10 t11 t12 t13) (β:=β5) ⟨_,_,_,rfl⟩ (by
   rintro k d env β hk ⟨u11,u12,u13,rfl⟩
   obtain⟨ps,hps,rfl⟩:=mem_map.mp (mem_of_getElem? hk)
   obtain⟨h1,h2⟩:=hall ps hps
   obtain⟨v12,v13,e⟩:=Kh (ns:=ns) (i:=i) (cs:=cs) (s7:=u7) (s8:=u8) (s9:=.fz (pD qs)) (s10:=u10) (s12:=u12) (s13:=u13) O hR hcr h1 h2 β
   exact⟨fe ns i n l row (.fz (pD cs)) u7 u8 (.fz (pD qs)) u10 (.fz (pD ps)) u12 u13,rfl,_,_,e,_,_,_,rfl⟩)
 refine⟨.bx,.fz (au n l),.fz (pD (iR n l)),.fz (tupI row),.fz (pD cs),u7,u8,.fz (pD qs),u10,u11,u12,u13,β',?_⟩
 rw[b8 (env:=fe ns i n l row (.ow (pD cs)) u7 u8 (.ow (pD qs)) u10 t11 t12 t13) (ds:=[cs,qs,[],iR n l,qs.take 2].map pD) (β1:=β5) e5]
 exact ef3
theorem HM (ns:List Int):Fg [cM ns]=.ok (.bool true) false:=by
 show fin (yF D3 kY G8 HZ anyF y6 bE [.fz (cM ns),.no,.no,.no,.no,.no,.no,.no,.no,.no,.no,.no,.no,.no] 0)=_
 unfold yF
 obtain⟨m,hm4,em⟩:∃m:Nat,m<=3/\f2 (cst (.int 1)) (f2 (f1 (gv 0) bV) (cst (.int 3)) (vA fun i j=>.int (if j < i then j else i))) (vA fun i j=>.int (if j > i then j else i)) (vl [.fz (cM ns),.no,.no,.no,.no,.no,.no,.no,.no,.no,.no,.no,.no,.no]) 0=.ok (.int (m:Nat)) 0:=by
  have e1:f2 (cst (.int 1)) (f2 (f1 (gv 0) bV) (cst (.int 3)) (vA fun i j=>.int (if j < i then j else i))) (vA fun i j=>.int (if j > i then j else i)) (vl [.fz (cM ns),.no,.no,.no,.no,.no,.no,.no,.no,.no,.no,.no,.no,.no]) 0=.ok (.int (if (if (3:Int) < ((ns.map int).length:Int) then (3:Int) else ((ns.map int).length:Int)) > 1 then (if (3:Int) < ((ns.map int).length:Int) then (3:Int) else ((ns.map int).length:Int)) else 1)) 0:=rfl
  rw[e1]
  generalize ((ns.map int).length:Nat)=k
  refine⟨(if (if (3:Int) < (k:Int) then (3:Int) else (k:Int)) > 1 then (if (3:Int) < (k:Int) then (3:Int) else (k:Int)) else 1).toNat,?_,?_⟩
  ·split <;> split <;> omega
  ·congr 2
   split <;> split <;> omega
 obtain⟨env',β',ef,s1,s2,s3,s4,s5,s6,s7,s8,s9,s10,s11,s12,s13,rfl⟩:=cj (t:=.nm 1) (m:=AV) (ds:=cg 0 m) (k:=0)
  (fun _ env _=>∃s1 s2 s3 s4 s5 s6 s7 s8 s9 s10 s11 s12 s13:Sl,env= [.fz (cM ns),s1,s2,s3,s4,s5,s6,s7,s8,s9,s10,s11,s12,s13])
  (env:=[.fz (cM ns),.no,.no,.no,.no,.no,.no,.no,.no,.no,.no,.no,.no,.no]) (β:=0) ⟨.no,.no,.no,.no,.no,.no,.no,.no,.no,.no,.no,.no,.no,rfl⟩ (by
   rintro i d env β hi ⟨s1,s2,s3,s4,s5,s6,s7,s8,s9,s10,s11,s12,s13,rfl⟩
   obtain⟨hin,rfl⟩:=fM hi
   rw[Int.zero_add]
   refine⟨[.fz (cM ns),.fz (.int i),s2,s3,s4,s5,s6,s7,s8,s9,s10,s11,s12,s13],rfl,?_⟩
   obtain⟨t2,t3,t4,t5,t6,t7,t8,t9,t10,t11,t12,t13,β',e⟩:=JF ns i s2 s3 s4 s5 s6 s7 s8 s9 s10 s11 s12 s13 β
   exact⟨_,_,e,_,_,_,_,_,_,_,_,_,_,_,_,_,rfl⟩)
 rw[ah (env':=[.fz (cM ns),s1,s2,s3,s4,s5,s6,s7,s8,s9,s10,s11,s12,s13]) (β':=β') ?z]
 ·rfl
 case z=>
  rw[b8 (env:=[.fz (cM ns),.no,.no,.no,.no,.no,.no,.no,.no,.no,.no,.no,.no,.no]) (ds:=cg 0 m) (β1:=0) (cU (n:=m) em (by omega))]
  exact ef
end RM
namespace RQ
open PySem L2 RM
def top (i:Nat):Stmt:=PySem.Challenge.pw_rowsorder_k25_turns_together.main.body.getD i (.Pass ⟨0,0,0,0⟩)
section
variable {P:Program}{w:World}{K:Frag}{mg:Str->Option Value}{base:Heap}{ca:Str->Addr}
abbrev kP:Stmt:=top 2
theorem uW:aJ ["thing"] ["thing"] (av kP):=⟨rfl,rfl,rfl,by decide +kernel,rfl,by decide +kernel,by decide +kernel⟩
theorem tZ {f:Addr}{fd:FuncData}(F:i5 K mg "is_whole" kP ["thing"] f fd)(B:jg mg):cE P w K mg base ca "is_whole" ["thing"] 1 (bg 1 1 (qz)):=
 ⟨⟨f,fd,F.mg,F.F.kp,F.b,aU (N:=["thing"]) (k:=0) F.F uW fun cdv A outer s H G E hr=>
  (@ay _ _ _ _ _ (aR (il (ic "int" (by decide) rfl rfl B.isinstance rfl B.int (by decide +kernel) (af 0)) (h9 (xt (ic "bool" (by decide) rfl rfl B.isinstance rfl B.bool (by decide +kernel) (af 0)))) (fun _ _=>rfl))))⟩,fun ds h=>aN ds h⟩
abbrev km:Stmt:=top 3
theorem vF:aJ ["thing","bound"] ["thing","bound"] (av km):=⟨rfl,rfl,rfl,by decide +kernel,rfl,by decide +kernel,by decide +kernel⟩
theorem sS {f:Addr}{fd:FuncData}{cm:List D->FR}(F:i5 K mg "is_below" km ["thing","bound"] f fd)(B:jg mg)(gx:cE P w K mg base ca "is_whole" ["thing"] 1 cm):cE P w K mg base ca "is_below" ["thing","bound"] 2 (bg 2 2 (pN cm)):=
 ⟨⟨f,fd,F.mg,F.F.kp,F.b,aU (N:=["thing","bound"]) (k:=1) F.F vF fun cdv A outer s H G E hr=>
  (@ay _ _ _ _ _ (aR (il (aL gx (hr.mono (by decide)) bc rfl rfl (ae (az 0 rfl) ao)) (h9 (vU Cf u9 Gf Cn ar (af 0) (af 1))) (fun _ _=>rfl))))⟩,fun ds h=>aN ds h⟩
abbrev l8:Stmt:=top 4
theorem xF:aJ ["thing"] ["thing"] (av l8):=⟨rfl,rfl,rfl,by decide +kernel,rfl,by decide +kernel,by decide +kernel⟩
theorem uT {f:Addr}{fd:FuncData}{cm:List D->FR}(F:i5 K mg "is_many" l8 ["thing"] f fd)(B:jg mg)(gx:cE P w K mg base ca "is_whole" ["thing"] 1 cm){rG:Tok}(jO:mg "MOST_THINGS"=some (.int 8 rG)):cE P w K mg base ca "is_many" ["thing"] 2 (bg 1 1 (rV cm)):=
 ⟨⟨f,fd,F.mg,F.F.kp,F.b,aU (N:=["thing"]) (k:=1) F.F xF fun cdv A outer s H G E hr=>
  (@ay _ _ _ _ _ (aR (il (aL gx (hr.mono (by decide)) bc rfl rfl (ae (az 0 rfl) ao)) (h9 (vU Cf Cf Gf Gf ar (af 0) (D8 (by rfl) jO))) (fun _ _=>rfl))))⟩,fun ds h=>aN ds h⟩
abbrev l6:Stmt:=top 5
theorem xl:aJ ["thing","many"] ["thing","many"] (av l6):=⟨rfl,rfl,rfl,by decide +kernel,rfl,by decide +kernel,by decide +kernel⟩
theorem oJ {f:Addr}{fd:FuncData}{eM:List D->FR}(F:i5 K mg "is_pair" l6 ["thing","many"] f fd)(B:jg mg)(i8:cE P w K mg base ca "is_below" ["thing","bound"] 2 eM):cE P w K mg base ca "is_pair" ["thing","many"] 3 (bg 2 2 (jX eM)):=
 ⟨⟨f,fd,F.mg,F.F.kp,F.b,aU (N:=["thing","many"]) (k:=2) F.F xl fun cdv A outer s H G E hr=>
  (@ak _ _ _ _ _ _ _ (cV (oY.t (iu (cR (b7 rfl (ic "tuple" (by decide) rfl rfl B.isinstance rfl B.tuple (by decide +kernel) (af 0)))) (ip (a9 (c9 hr.units) cO (a7 bO fS rfl B.len PySem.boot_len (af 0)) ar (aS _))) (fun _ _=>rfl)))
  (@ay _ _ _ _ _ (aR j9))
  bY)
  (@ay _ _ _ _ _ (aR (il (aL i8 (hr.mono (by decide)) bc rfl rfl (ae (aQ aF bq (af 0) ar (fun _ _=>rfl)) (ae (az 1 rfl) ao))) (h9 (aL i8 (hr.mono (by decide)) bc rfl rfl (ae (aQ aF bq (af 0) ar (fun _ _=>rfl)) (ae (az 1 rfl) ao)))) (fun _ _=>rfl)))))⟩,fun ds h=>aN ds h⟩
abbrev fN:Stmt:=top 6
theorem qO:aJ ["many"] ["many"] (av fN):=⟨rfl,rfl,rfl,by decide +kernel,rfl,by decide +kernel,by decide +kernel⟩
theorem pQ {f:Addr}{fd:FuncData}(F:i5 K mg "every_pair" fN ["many"] f fd)(B:jg mg):cE P w K mg base ca "every_pair" ["many"] 1 (bg 1 1 (uE)):=
 ⟨⟨f,fd,F.mg,F.F.kp,F.b,aU (N:=["many"]) (k:=0) F.F qO fun cdv A outer s H G E hr=>
  (@ay _ _ _ _ _ (pj (cn (NB:=["number","many"]) (own:=1) (ixs:=[0]) [] rfl (b5 (by kernel_rfl)) (fun _ _=>rfl) (iS rfl B.range (bu jc jI (af 0) (af 0))) (fun H0 G0 par br bx C ex s3 H3 pn=>(cq (i:=0) (show (["number","many"]:List Str).Nodup by decide +kernel))) (fun H0 G0 par br bx C ex s3 H3 pn hB1=>dX) (fun H0 G0 par br bx C ex s3 H3 pn hB1=>(cG (ae (bu m8 C0 (af 0) (af 1)) (ae (bu mP r6 (af 0) (af 1)) ao)))))))⟩,fun ds h=>aN ds h⟩
abbrev kC:Stmt:=top 14
theorem vT:aJ ["pairs"] ["pairs"] (av kC):=⟨rfl,rfl,rfl,by decide +kernel,rfl,by decide +kernel,by decide +kernel⟩
theorem sX {f:Addr}{fd:FuncData}(F:i5 K mg "has_ring" kC ["pairs"] f fd)(B:jg mg):cE P w K mg base ca "has_ring" ["pairs"] 1 (bg 1 1 (qu)):=
 ⟨⟨f,fd,F.mg,F.F.kp,F.b,aU (N:=["pairs"]) (k:=0) F.F vT fun cdv A outer s H G E hr=>
  (@ay _ _ _ _ _ (aR (a7 (BO rfl) kM rfl B.any (by decide +kernel) (cn (NB:=["a","b"]) (own:=2) (ixs:=[]) [] rfl (b5 (by kernel_rfl)) (fun _ _=>rfl) (lQ rfl (af 0)) (fun H0 G0 par br bx C ex s3 H3 pn=>(jL (i:=0) (j:=1) (show (["a","b"]:List Str).Nodup by decide +kernel))) (fun H0 G0 par br bx C ex s3 H3 pn hB1=>dX) (fun H0 G0 par br bx C ex s3 H3 pn hB1=>(cQ (cv hr.units) cO (af 0) (af 1) (aS _)))))))⟩,fun ds h=>aN ds h⟩
abbrev kl:Stmt:=top 12
theorem lF:aJ ["thing","many","pairs"] ["thing"] (av kl):=⟨rfl,rfl,rfl,by decide +kernel,rfl,by decide +kernel,by decide +kernel⟩
theorem tv {f:Addr}{fd:FuncData}{iQ cw jW gf:List D->FR}(F:i5 K mg "is_order" kl ["thing"] f fd)(B:jg mg)(nU:cE P w K mg base ca "is_many" ["thing"] 2 iQ)(j5:cE P w K mg base ca "is_pair" ["thing","many"] 3 cw)(pP:cE P w K mg base ca "closed" ["many","pairs"] 3 jW)(mS:cE P w K mg base ca "has_ring" ["pairs"] 1 gf):cE P w K mg base ca "is_order" ["thing"] 4 (bg 3 1 (jb iQ cw jW gf)):=
 ⟨⟨f,fd,F.mg,F.F.kp,F.b,aU (N:=["thing","many","pairs"]) (k:=3) F.F lF fun cdv A outer s H G E hr=>
  (@ak _ _ _ _ _ _ _ (cV (oY.t (iu (cR (b7 rfl (ic "tuple" (by decide) rfl rfl B.isinstance rfl B.tuple (by decide +kernel) (af 0)))) (ip (a9 (c9 hr.units) cO (a7 bO fS rfl B.len PySem.boot_len (af 0)) ar (aS _))) (fun _ _=>rfl)))
  (@ay _ _ _ _ _ (aR j9))
  bY)
  (@ak _ _ _ _ _ _ _ (aV (i:=1) (aQ aF bq (af 0) ar (fun _ _=>rfl)) lF.nd)
  (@ak _ _ _ _ _ _ _ (aV (i:=2) (aQ aF bq (af 0) ar (fun _ _=>rfl)) lF.nd)
  (@ak _ _ _ _ _ _ _ (cV (oY.t (iu (cR (b7 rfl (aL nU (hr.mono (by decide)) bc rfl rfl (ae (az 1 rfl) ao)))) (ip (cR (b7 rfl (ic "tuple" (by decide) rfl rfl B.isinstance rfl B.tuple (by decide +kernel) (af 2))))) (fun _ _=>rfl)))
  (@ay _ _ _ _ _ (aR j9))
  bY)
  (@ak _ _ _ _ _ _ _ (cV (cR (b7 rfl (a7 (kf rfl) kM rfl B.all (by decide +kernel) (cn (NB:=["pair","many"]) (own:=1) (ixs:=[1]) [1] rfl (b5 (by kernel_rfl)) (fun _ _=>rfl) (lQ rfl (af 2)) (fun H0 G0 par br bx C ex s3 H3 pn=>(cq (i:=0) (show (["pair","many"]:List Str).Nodup by decide +kernel))) (fun H0 G0 par br bx C ex s3 H3 pn hB1=>dX) (fun H0 G0 par br bx C ex s3 H3 pn hB1=>(aL j5 (hr.mono (by decide)) ml rfl rfl (ae (az 0 (hB1 0 (by decide))) (ae (az 1 (hB1 1 (by decide))) ao))))))))
  (@ay _ _ _ _ _ (aR j9))
  bY)
  (@ay _ _ _ _ _ (aR (il (cQ (cv hr.units) cO (af 2) (aL pP (hr.mono (by decide)) bc rfl rfl (ae (az 1 rfl) (ae (az 2 rfl) ao))) (aS _)) (h9 (xt (aL mS (hr.mono (by decide)) bc rfl rfl (ae (az 2 rfl) ao)))) (fun _ _=>rfl)))))))))⟩,fun ds h=>aN ds h⟩
abbrev iy:Stmt:=top 15
theorem rk:aJ ["thing"] ["thing"] (av iy):=⟨rfl,rfl,rfl,by decide +kernel,rfl,by decide +kernel,by decide +kernel⟩
theorem pF {f:Addr}{fd:FuncData}{gq:List D->FR}(F:i5 K mg "need_order" iy ["thing"] f fd)(B:jg mg)(mX:cE P w K mg base ca "is_order" ["thing"] 4 gq)(ke:Exc K mg ca "NoOrder"):cE P w K mg base ca "need_order" ["thing"] 5 (bg 1 1 (iB gq)):=
 ⟨⟨f,fd,F.mg,F.F.kp,F.b,aU (N:=["thing"]) (k:=4) F.F rk fun cdv A outer s H G E hr=>
  (@ay _ _ _ _ _ (cV (cR (b7 rfl (aL mX (hr.mono (by decide)) bc rfl rfl (ae (az 0 rfl) ao))))
  (@ay _ _ _ _ _ (wA ke.ex ke.ca rfl ke.mg (ae mF ao)))
  bY))⟩,fun ds h=>aN ds h⟩
abbrev jv:Stmt:=top 16
theorem tD:aJ ["order","a","b"] ["order","a","b"] (av jv):=⟨rfl,rfl,rfl,by decide +kernel,rfl,by decide +kernel,by decide +kernel⟩
theorem qV {f:Addr}{fd:FuncData}(F:i5 K mg "are_apart" jv ["order","a","b"] f fd)(B:jg mg):cE P w K mg base ca "are_apart" ["order","a","b"] 1 (bg 3 3 (oE)):=
 ⟨⟨f,fd,F.mg,F.F.kp,F.b,aU (N:=["order","a","b"]) (k:=0) F.F tD fun cdv A outer s H G E hr=>
  (@ay _ _ _ _ _ (aR (il (cQ (c9 hr.units) cO (af 1) (af 2) (aS _)) (il (cQ (dt hr.u1) nV (cG (ae (az 1 rfl) (ae (az 2 rfl) ao))) (aQ aF bq (af 0) ar (fun _ _=>rfl)) (by with_unfolding_all rfl)) (h9 (cQ (dt hr.u1) nV (cG (ae (az 2 rfl) (ae (az 1 rfl) ao))) (aQ aF bq (af 0) ar (fun _ _=>rfl)) (by with_unfolding_all rfl))) (fun _ _=>rfl)) (fun _ _=>rfl))))⟩,fun ds h=>aN ds h⟩
abbrev iC:Stmt:=top 18
theorem qU:aJ ["placed","thing"] ["placed","thing"] (av iC):=⟨rfl,rfl,rfl,by decide +kernel,rfl,by decide +kernel,by decide +kernel⟩
theorem qd {f:Addr}{fd:FuncData}(F:i5 K mg "with_thing" iC ["placed","thing"] f fd)(B:jg mg):cE P w K mg base ca "with_thing" ["placed","thing"] 1 (bg 2 2 (iI)):=
 ⟨⟨f,fd,F.mg,F.F.kp,F.b,aU (N:=["placed","thing"]) (k:=0) F.F qU fun cdv A outer s H G E hr=>
  (@ay _ _ _ _ _ (aR (bu Ey Ha (af 0) (bu E5 Hj ar (af 1)))))⟩,fun ds h=>aN ds h⟩
abbrev gM:Stmt:=top 19
theorem i3:aJ ["order","masks","a","b"] ["order"] (av gM):=⟨rfl,rfl,rfl,by decide +kernel,rfl,by decide +kernel,by decide +kernel⟩
theorem oP {f:Addr}{fd:FuncData}{aH:List D->FR}(F:i5 K mg "masks_ahead" gM ["order"] f fd)(B:jg mg)(bf:cE P w K mg base ca "with_thing" ["placed","thing"] 1 aH):cE P w K mg base ca "masks_ahead" ["order"] 2 (bg 4 1 (gz aH)):=
 ⟨⟨f,fd,F.mg,F.F.kp,F.b,aU (N:=["order","masks","a","b"]) (k:=1) F.F i3 fun cdv A outer s H G E hr=>
  (@ak _ _ _ _ _ _ _ (dS (i:=1) (FO (bC (ae ar ao)) (aQ aF bq (af 0) ar (fun _ _=>rfl))) i3.nd)
  (@ak _ _ _ _ _ _ _ (dO PassesOwn.leaving rfl (Ao rfl (aQ aF bq (af 0) ar (fun _ _=>rfl))) (jL (i:=2) (j:=3) i3.nd)
  (@ay _ _ _ _ _ (DI 1 (fun _=>rfl) (aL bf (hr.mono (by decide)) bc rfl rfl (ae (aQ aF bq (af 1) (af 3) (fun _ _=>rfl)) (ae (az 2 rfl) ao))) (af 3))))
  (@ay _ _ _ _ _ (nI 1))))⟩,fun ds h=>aN ds h⟩
abbrev gC:Stmt:=top 20
theorem iZ:aJ ["masks","placed","free","thing","mask"] ["masks","placed"] (av gC):=⟨rfl,rfl,rfl,by decide +kernel,rfl,by decide +kernel,by decide +kernel⟩
theorem oV {f:Addr}{fd:FuncData}{aH:List D->FR}(F:i5 K mg "free_things" gC ["masks","placed"] f fd)(B:jg mg)(bf:cE P w K mg base ca "with_thing" ["placed","thing"] 1 aH):cE P w K mg base ca "free_things" ["masks","placed"] 2 (bg 5 2 (gG aH)):=
 ⟨⟨f,fd,F.mg,F.F.kp,F.b,aU (N:=["masks","placed","free","thing","mask"]) (k:=1) F.F iZ fun cdv A outer s H G E hr=>
  (@ak _ _ _ _ _ _ _ (dS (i:=2) (bC ao) iZ.nd)
  (@ak _ _ _ _ _ _ _ (dO PassesOwn.leaving rfl (u6 rfl rfl B.enumerate (az 0 rfl)) (jL (i:=3) (j:=4) iZ.nd)
  (@ay _ _ _ _ _ (cV (oY.t (qF (a9 (c9 hr.units) cO (aL bf (hr.mono (by decide)) bc rfl rfl (ae (az 1 rfl) (ae (az 3 rfl) ao))) (af 1) (aS _)) (nE (a9 (cv hr.units) cO (bu Fv HF (af 1) (af 4)) (af 4) (aS _))) (fun _ _=>rfl)))
  (@ay _ _ _ _ _ (fu 2 (fun _=>rfl) (az 3 rfl)))
  bY)))
  (@ay _ _ _ _ _ (nI 2))))⟩,fun ds h=>aN ds h⟩
abbrev jA:Stmt:=top 21
theorem dq:aJ ["masks","late","row","placed","free","early"] ["masks","late"] (av jA):=⟨rfl,rfl,rfl,by decide +kernel,rfl,by decide +kernel,by decide +kernel⟩
theorem q8 {f:Addr}{fd:FuncData}{cZ aH:List D->FR}(F:i5 K mg "row_along" jA ["masks","late"] f fd)(B:jg mg)(jK:cE P w K mg base ca "free_things" ["masks","placed"] 2 cZ)(bf:cE P w K mg base ca "with_thing" ["placed","thing"] 1 aH):cE P w K mg base ca "row_along" ["masks","late"] 3 (bg 6 2 (jw cZ aH)):=
 ⟨⟨f,fd,F.mg,F.F.kp,F.b,aU (N:=["masks","late","row","placed","free","early"]) (k:=2) F.F dq fun cdv A outer s H G E hr=>
  (@ak _ _ _ _ _ _ _ (dS (i:=2) (bC ao) dq.nd)
  (@ak _ _ _ _ _ _ _ (aV (i:=3) ar dq.nd)
  (@ak _ _ _ _ _ _ _ (lx 1000 PassesOwn.leaving (a9 u9 Cn (a7 bO fS rfl B.len PySem.boot_len (af 2)) (a7 bO fS rfl B.len PySem.boot_len (af 0)) (aS _))
  (@ak _ _ _ _ _ _ _ (aV (i:=4) (aL jK (hr.mono (by decide)) bc rfl rfl (ae (az 0 rfl) (ae (az 3 rfl) ao))) dq.nd)
  (@ak _ _ _ _ _ _ _ (me (i:=5) (NB:=["thing","late"]) (own:=1) (ixs:=[1]) [] rfl (b5 (by kernel_rfl)) (fun _ _=>rfl) (lQ rfl (af 4)) (fun H0 G0 par br bx C ex s3 H3 pn=>(cq (i:=0) (show (["thing","late"]:List Str).Nodup by decide +kernel))) (fun H0 G0 par br bx C ex s3 H3 pn hB1=>(dR (a9 (dt hr.u1) nV (af 0) (af 1) (by with_unfolding_all rfl)))) (fun H0 G0 par br bx C ex s3 H3 pn hB1=>(az 0 (hB1 0 (by decide)))) dq.nd)
  (@ak _ _ _ _ _ _ _ (fu 2 (fun _=>rfl) (aQ aF bq (bu l7 sI (af 5) (af 4)) ar (fun _ _=>rfl)))
  (@ay _ _ _ _ _ (aV (i:=3) (aL bf (hr.mono (by decide)) bc rfl rfl (ae (az 3 rfl) (ae (aQ aF bq (af 2) (yW uz yt ar) (fun _ _=>rfl)) ao))) dq.nd))))))
  (@ay _ _ _ _ _ (aR (g7 c5 nq rfl B.tuple (by decide +kernel) (af 2)))))))⟩,fun ds h=>aN ds h⟩
abbrev l0:Stmt:=top 23
theorem xG:aJ ["thing","order"] ["thing","order"] (av l0):=⟨rfl,rfl,rfl,by decide +kernel,rfl,by decide +kernel,by decide +kernel⟩
theorem wd {f:Addr}{fd:FuncData}{cw eV:List D->FR}(F:i5 K mg "is_turn" l0 ["thing","order"] f fd)(B:jg mg)(j5:cE P w K mg base ca "is_pair" ["thing","many"] 3 cw)(lK:cE P w K mg base ca "are_apart" ["order","a","b"] 1 eV):cE P w K mg base ca "is_turn" ["thing","order"] 4 (bg 2 2 (l9 cw eV)):=
 ⟨⟨f,fd,F.mg,F.F.kp,F.b,aU (N:=["thing","order"]) (k:=3) F.F xG fun cdv A outer s H G E hr=>
  (@ay _ _ _ _ _ (aR (il (aL j5 (hr.mono (by decide)) bc rfl rfl (ae (az 0 rfl) (ae (aQ aF bq (af 1) ar (fun _ _=>rfl)) ao))) (h9 (aL lK (hr.mono (by decide)) bc rfl rfl (ae (az 1 rfl) (ae (aQ aF bq (af 0) ar (fun _ _=>rfl)) (ae (aQ aF bq (af 0) ar (fun _ _=>rfl)) ao))))) (fun _ _=>rfl))))⟩,fun ds h=>aN ds h⟩
abbrev jx:Stmt:=top 24
theorem uH:aJ ["thing","order"] ["thing","order"] (av jx):=⟨rfl,rfl,rfl,by decide +kernel,rfl,by decide +kernel,by decide +kernel⟩
theorem qZ {f:Addr}{fd:FuncData}{iP:List D->FR}(F:i5 K mg "are_turns" jx ["thing","order"] f fd)(B:jg mg)(om:cE P w K mg base ca "is_turn" ["thing","order"] 4 iP):cE P w K mg base ca "are_turns" ["thing","order"] 5 (bg 2 2 (jF iP)):=
 ⟨⟨f,fd,F.mg,F.F.kp,F.b,aU (N:=["thing","order"]) (k:=4) F.F uH fun cdv A outer s H G E hr=>
  (@ay _ _ _ _ _ (aR (il (ic "list" (by decide) rfl rfl B.isinstance rfl B.list (by decide +kernel) (af 0)) (h9 (a7 (kf rfl) kM rfl B.all (by decide +kernel) (cn (NB:=["turn","order"]) (own:=1) (ixs:=[1]) [1] rfl (b5 (by kernel_rfl)) (fun _ _=>rfl) (lQ rfl (af 0)) (fun H0 G0 par br bx C ex s3 H3 pn=>(cq (i:=0) (show (["turn","order"]:List Str).Nodup by decide +kernel))) (fun H0 G0 par br bx C ex s3 H3 pn hB1=>dX) (fun H0 G0 par br bx C ex s3 H3 pn hB1=>(aL om (hr.mono (by decide)) ml rfl rfl (ae (az 0 (hB1 0 (by decide))) (ae (az 1 (hB1 1 (by decide))) ao))))))) (fun _ _=>rfl))))⟩,fun ds h=>aN ds h⟩
abbrev k6:Stmt:=top 25
theorem vO:aJ ["order","turn","other"] ["order","turn","other"] (av k6):=⟨rfl,rfl,rfl,by decide +kernel,rfl,by decide +kernel,by decide +kernel⟩
theorem sO {f:Addr}{fd:FuncData}(F:i5 K mg "leads_on" k6 ["order","turn","other"] f fd)(B:jg mg):cE P w K mg base ca "leads_on" ["order","turn","other"] 1 (bg 3 3 (kq)):=
 ⟨⟨f,fd,F.mg,F.F.kp,F.b,aU (N:=["order","turn","other"]) (k:=0) F.F vO fun cdv A outer s H G E hr=>
  (@ay _ _ _ _ _ (aR (EX (cQ (cv hr.units) cO (aQ aF bq (af 1) ar (fun _ _=>rfl)) (aQ aF bq (af 2) ar (fun _ _=>rfl)) (aS _)) (h9 (cQ (uA hr.u1) nV (cG (ae (aQ aF bq (af 1) ar (fun _ _=>rfl)) (ae (aQ aF bq (af 2) ar (fun _ _=>rfl)) ao))) (aQ aF bq (af 0) ar (fun _ _=>rfl)) (by with_unfolding_all rfl))) (fun _ _=>rfl))))⟩,fun ds h=>aN ds h⟩
abbrev kQ:Stmt:=top 27
theorem wq:aJ ["masks","a","b"] ["masks","a","b"] (av kQ):=⟨rfl,rfl,rfl,by decide +kernel,rfl,by decide +kernel,by decide +kernel⟩
theorem tj {f:Addr}{fd:FuncData}{aH:List D->FR}(F:i5 K mg "is_ahead" kQ ["masks","a","b"] f fd)(B:jg mg)(bf:cE P w K mg base ca "with_thing" ["placed","thing"] 1 aH):cE P w K mg base ca "is_ahead" ["masks","a","b"] 2 (bg 3 3 (ko aH)):=
 ⟨⟨f,fd,F.mg,F.F.kp,F.b,aU (N:=["masks","a","b"]) (k:=1) F.F wq fun cdv A outer s H G E hr=>
  (@ay _ _ _ _ _ (aR (cQ (cv hr.units) cO (aL bf (hr.mono (by decide)) bc rfl rfl (ae (aQ aF bq (af 0) (af 2) (fun _ _=>rfl)) (ae (az 1 rfl) ao))) (aQ aF bq (af 0) (af 2) (fun _ _=>rfl)) (aS _))))⟩,fun ds h=>aN ds h⟩
abbrev jt:Stmt:=top 28
theorem tL:aJ ["masks","turn"] ["masks","turn"] (av jt):=⟨rfl,rfl,rfl,by decide +kernel,rfl,by decide +kernel,by decide +kernel⟩
theorem rh {f:Addr}{fd:FuncData}{b9:List D->FR}(F:i5 K mg "is_barred" jt ["masks","turn"] f fd)(B:jg mg)(fX:cE P w K mg base ca "is_ahead" ["masks","a","b"] 2 b9):cE P w K mg base ca "is_barred" ["masks","turn"] 3 (bg 2 2 (jj b9)):=
 ⟨⟨f,fd,F.mg,F.F.kp,F.b,aU (N:=["masks","turn"]) (k:=2) F.F tL fun cdv A outer s H G E hr=>
  (@ay _ _ _ _ _ (aR (aL fX (hr.mono (by decide)) bc rfl rfl (ae (az 0 rfl) (ae (aQ aF bq (af 1) ar (fun _ _=>rfl)) (ae (aQ aF bq (af 1) ar (fun _ _=>rfl)) ao))))))⟩,fun ds h=>aN ds h⟩
abbrev k8:Stmt:=top 29
theorem lU:aJ ["masks","turn","late","more"] ["masks","turn"] (av k8):=⟨rfl,rfl,rfl,by decide +kernel,rfl,by decide +kernel,by decide +kernel⟩
theorem uB {f:Addr}{fd:FuncData}{b9 aH:List D->FR}(F:i5 K mg "put_turn" k8 ["masks","turn"] f fd)(B:jg mg)(fX:cE P w K mg base ca "is_ahead" ["masks","a","b"] 2 b9)(bf:cE P w K mg base ca "with_thing" ["placed","thing"] 1 aH):cE P w K mg base ca "put_turn" ["masks","turn"] 3 (bg 4 2 (kZ b9 aH)):=
 ⟨⟨f,fd,F.mg,F.F.kp,F.b,aU (N:=["masks","turn","late","more"]) (k:=2) F.F lU fun cdv A outer s H G E hr=>
  (@ak _ _ _ _ _ _ _ (aV (i:=2) (@SE.wv _ _ _ _ _ _ (cn (NB:=["thing","turn","masks"]) (own:=1) (ixs:=[1,0]) [0] rfl (b5 (by kernel_rfl)) (fun _ _=>rfl) (iS rfl B.range (a7 bO fS rfl B.len PySem.boot_len (af 0))) (fun H0 G0 par br bx C ex s3 H3 pn=>(cq (i:=0) (show (["thing","turn","masks"]:List Str).Nodup by decide +kernel))) (fun H0 G0 par br bx C ex s3 H3 pn hB1=>(dR (oY.t (iu (a9 (cv hr.units) cO (af 0) (aQ aF bq (af 1) ar (fun _ _=>rfl)) (aS _)) (ip (b7 rfl (aL fX (hr.mono (by decide)) ml rfl rfl (ae (az 2 (hB1 2 (by decide))) (ae (aQ aF bq (af 1) ar (fun _ _=>rfl)) (ae (az 0 (hB1 0 (by decide))) ao)))))) (fun i hi=>hB1 i (by revert i hi;decide)))))) (fun H0 G0 par br bx C ex s3 H3 pn hB1=>(az 0 (hB1 0 (by decide)))))) lU.nd)
  (@ak _ _ _ _ _ _ _ (aV (i:=3) (aL bf (hr.mono (by decide)) bc rfl rfl (ae (aQ aF bq (af 0) (aQ aF bq (af 1) ar (fun _ _=>rfl)) (fun _ _=>rfl)) (ae (aQ aF bq (af 1) ar (fun _ _=>rfl)) ao))) lU.nd)
  (@ay _ _ _ _ _ (pj (cn (NB:=["thing","mask","late","more"]) (own:=2) (ixs:=[2,3]) [] rfl (b5 (by kernel_rfl)) (fun _ _=>rfl) (SI.vb (u6 rfl rfl B.enumerate (az 0 rfl))) (fun H0 G0 par br bx C ex s3 H3 pn=>(jL (i:=0) (j:=1) (show (["thing","mask","late","more"]:List Str).Nodup by decide +kernel))) (fun H0 G0 par br bx C ex s3 H3 pn hB2=>dX) (fun H0 G0 par br bx C ex s3 H3 pn hB2=>(HS (a9 (uA hr.u1) nV (af 0) (af 2) (by with_unfolding_all rfl)) (bu Ey Ha (af 1) (af 3)) (az 1 (hB2 1 (by decide))) (fun i hi=>hB2 i (by revert i hi;decide)))))))))⟩,fun ds h=>aN ds h⟩
abbrev jn:Stmt:=top 30
theorem cT:aJ ["order","put","turn","paths","left","at","fresh"] ["order","put","turn"] (av jn):=⟨rfl,rfl,rfl,by decide +kernel,rfl,by decide +kernel,by decide +kernel⟩
theorem rl {f:Addr}{fd:FuncData}{eR:List D->FR}(F:i5 K mg "ring_with" jn ["order","put","turn"] f fd)(B:jg mg)(kW:cE P w K mg base ca "leads_on" ["order","turn","other"] 1 eR):cE P w K mg base ca "ring_with" ["order","put","turn"] 2 (bg 7 3 (jy eR)):=
 ⟨⟨f,fd,F.mg,F.F.kp,F.b,aU (N:=["order","put","turn","paths","left","at","fresh"]) (k:=1) F.F cT fun cdv A outer s H G E hr=>
  (@ak _ _ _ _ _ _ _ (dS (i:=3) (bC (ae (@SE.wv _ _ _ _ _ _ (bC (ae (az 2 rfl) ao))) ao)) cT.nd)
  (@ak _ _ _ _ _ _ _ (aV (i:=4) (az 1 rfl) cT.nd)
  (@ak _ _ _ _ _ _ _ (aV (i:=5) ar cT.nd)
  (@ak _ _ _ _ _ _ _ (lx 1000 PassesOwn.leaving (cR (b7 rfl (aL kW (hr.mono (by decide)) bc rfl rfl (ae (az 0 rfl) (ae (aQ aF bq (aQ aF bq (af 3) (af 5) (fun _ _=>rfl)) (yW uz yt ar) (fun _ _=>rfl)) (ae (az 2 rfl) ao))))))
  (@ak _ _ _ _ _ _ _ (aV (i:=6) (@SE.wv _ _ _ _ _ _ (cn (NB:=["other","order","paths","at"]) (own:=1) (ixs:=[0,3,5]) [0] rfl (b5 (by kernel_rfl)) (fun _ _=>rfl) (lQ rfl (af 4)) (fun H0 G0 par br bx C ex s3 H3 pn=>(cq (i:=0) (show (["other","order","paths","at"]:List Str).Nodup by decide +kernel))) (fun H0 G0 par br bx C ex s3 H3 pn hB1=>(dR (b7 rfl (aL kW (hr.mono (by decide)) ml rfl rfl (ae (az 1 (hB1 1 (by decide))) (ae (aQ aF bq (aQ aF bq (af 2) (af 3) (fun _ _=>rfl)) (yW uz yt ar) (fun _ _=>rfl)) (ae (az 0 (hB1 0 (by decide))) ao))))))) (fun H0 G0 par br bx C ex s3 H3 pn hB1=>(az 0 (hB1 0 (by decide)))))) cT.nd)
  (@ak _ _ _ _ _ _ _ (me (i:=4) (NB:=["other","fresh"]) (own:=1) (ixs:=[6]) [] rfl (b5 (by kernel_rfl)) (fun _ _=>rfl) (lQ rfl (af 4)) (fun H0 G0 par br bx C ex s3 H3 pn=>(cq (i:=0) (show (["other","fresh"]:List Str).Nodup by decide +kernel))) (fun H0 G0 par br bx C ex s3 H3 pn hB2=>(dR (a9 (dt hr.u1) nV (af 0) (af 1) (by with_unfolding_all rfl)))) (fun H0 G0 par br bx C ex s3 H3 pn hB2=>(az 0 (hB2 0 (by decide)))) cT.nd)
  (@ak _ _ _ _ _ _ _ (zQ 3 (fun _=>rfl) (cn (NB:=["other","paths","at"]) (own:=1) (ixs:=[3,5]) [] rfl (b5 (by kernel_rfl)) (fun _ _=>rfl) (lQ rfl (af 6)) (fun H0 G0 par br bx C ex s3 H3 pn=>(cq (i:=0) (show (["other","paths","at"]:List Str).Nodup by decide +kernel))) (fun H0 G0 par br bx C ex s3 H3 pn hB3=>dX) (fun H0 G0 par br bx C ex s3 H3 pn hB3=>(@SE.wv _ _ _ _ _ _ (bu l7 sI (aQ aF bq (af 1) (af 2) (fun _ _=>rfl)) (bC (ae (az 0 (hB3 0 (by decide))) ao)))))))
  (@ay _ _ _ _ _ (aV (i:=5) (bu je i9 (af 5) ar) cT.nd))))))
  (@ay _ _ _ _ _ (aR (aQ aF bq (af 3) (af 5) (fun _ _=>rfl))))))))⟩,fun ds h=>aN ds h⟩
abbrev kT:Stmt:=top 26
theorem hV:aJ ["order","some","masks","put","turn"] ["order","some"] (av kT):=⟨rfl,rfl,rfl,by decide +kernel,rfl,by decide +kernel,by decide +kernel⟩
theorem tI {f:Addr}{fd:FuncData}{dM fm c8 fq fw fW fg:List D->FR}(F:i5 K mg "together" kT ["order","some"] f fd)(B:jg mg)(k7:cE P w K mg base ca "need_order" ["thing"] 5 dM)(lB:cE P w K mg base ca "are_turns" ["thing","order"] 5 fm)(jR:cE P w K mg base ca "masks_ahead" ["order"] 2 c8)(lL:cE P w K mg base ca "is_barred" ["masks","turn"] 3 fq)(ly:cE P w K mg base ca "ring_with" ["order","put","turn"] 2 fw)(mK:cE P w K mg base ca "put_turn" ["masks","turn"] 3 fW)(lA:cE P w K mg base ca "row_along" ["masks","late"] 3 fg)(jV:Exc K mg ca "NoTurns"):cE P w K mg base ca "together" ["order","some"] 6 (bg 5 2 (kN dM fm c8 fq fw fW fg)):=
 ⟨⟨f,fd,F.mg,F.F.kp,F.b,aU (N:=["order","some","masks","put","turn"]) (k:=5) F.F hV fun cdv A outer s H G E hr=>
  (@ak _ _ _ _ _ _ _ (CO (aL k7 (hr.mono (by decide)) bc rfl rfl (ae (az 0 rfl) ao)))
  (@ak _ _ _ _ _ _ _ (cV (cR (b7 rfl (aL lB (hr.mono (by decide)) bc rfl rfl (ae (az 1 rfl) (ae (az 0 rfl) ao)))))
  (@ay _ _ _ _ _ (wA jV.ex jV.ca rfl jV.mg (ae mF ao)))
  bY)
  (@ak _ _ _ _ _ _ _ (aV (i:=2) (aL jR (hr.mono (by decide)) bc rfl rfl (ae (az 0 rfl) ao)) hV.nd)
  (@ak _ _ _ _ _ _ _ (dS (i:=3) (bC ao) hV.nd)
  (@ak _ _ _ _ _ _ _ (dO PassesOwn.leaving rfl (Ao rfl (az 1 rfl)) (cq (i:=4) hV.nd)
  (@ak _ _ _ _ _ _ _ (cV (b7 rfl (aL lL (hr.mono (by decide)) bc rfl rfl (ae (az 2 rfl) (ae (az 4 rfl) ao))))
  (@ay _ _ _ _ _ (aR (cG (ae mF (ae (aL ly (hr.mono (by decide)) bc rfl rfl (ae (az 0 rfl) (ae (az 3 rfl) (ae (az 4 rfl) ao)))) ao)))))
  bY)
  (@ak _ _ _ _ _ _ _ (aV (i:=2) (aL mK (hr.mono (by decide)) bc rfl rfl (ae (az 2 rfl) (ae (az 4 rfl) ao))) hV.nd)
  (@ay _ _ _ _ _ (fu 3 (fun _=>rfl) (az 4 rfl))))))
  (@ay _ _ _ _ _ (aR (cG (ae mF (ae (aL lA (hr.mono (by decide)) bc rfl rfl (ae (az 2 rfl) (ae (@SE.wv _ _ _ _ _ _ (bC ao)) ao))) ao))))))))))⟩,fun ds h=>aN ds h⟩
abbrev jq:Stmt:=top 32
theorem ur:aJ ["script","k"] ["script","k"] (av jq):=⟨rfl,rfl,rfl,by decide +kernel,rfl,by decide +kernel,by decide +kernel⟩
theorem qR {f:Addr}{fd:FuncData}(F:i5 K mg "_law_cell" jq ["script","k"] f fd)(B:jg mg):cE P w K mg base ca "_law_cell" ["script","k"] 1 (bg 2 2 (gZ)):=
 ⟨⟨f,fd,F.mg,F.F.kp,F.b,aU (N:=["script","k"]) (k:=0) F.F ur fun cdv A outer s H G E hr=>
  (@ak _ _ _ _ _ _ _ (cV (a9 u9 Cn (af 1) (a7 bO fS rfl B.len PySem.boot_len (af 0)) (aS _))
  (@ay _ _ _ _ _ (aR (aQ aF bq (af 0) (af 1) (fun _ _=>rfl))))
  bY)
  (@ay _ _ _ _ _ (aR ar)))⟩,fun ds h=>aN ds h⟩
abbrev gr:Stmt:=top 33
theorem jD:aJ ["cell","k","some","stir"] ["cell","k"] (av gr):=⟨rfl,rfl,rfl,by decide +kernel,rfl,by decide +kernel,by decide +kernel⟩
theorem tu:∃(es:List Expr) (p1 p2 p3:Pos),df gr=.Assign [.Name "some" p1] (.List es p2) p3 :: (df gr).drop 1/\constsOf es=some [48271,69621,16807,39373,30269,40014,40692,50021,61687,71993,83869,95561,30307]:=⟨_,_,_,_,rfl,by kernel_rfl⟩
theorem sV {f:Addr}{fd:FuncData}(F:i5 K mg "_law_mix" gr ["cell","k"] f fd)(B:jg mg):cE P w K mg base ca "_law_mix" ["cell","k"] 1 (bg 4 2 (kj)):=by
 obtain⟨es,p1,p2,p3,hb,hes⟩:=tu
 refine⟨⟨f,fd,F.mg,F.F.kp,F.b,aU (N:=["cell","k","some","stir"]) (k:=0) F.F jD fun cdv A outer s H G E hr=>?_⟩,fun ds h=>aN ds h⟩
 rw[hb]
 exact (ak (aV (i:=2) (SE.wv (bC (rZ hes))) jD.nd) (@ak _ _ _ _ _ _ _ (aV (i:=3) (bu je i9 (bu je i9 (bu jc jI (bu je i9 (bu mP r6 (af 0) ar) ar) (aQ aF bq (af 2) (bu mP r6 (af 1) ar) (fun _ _=>rfl))) (bu jc jI ar (af 1))) (bu jc jI ar (bu m8 C0 (af 1) ar))) jD.nd)
  (@ak _ _ _ _ _ _ _ (aV (i:=3) (bu mP r6 (af 3) ar) jD.nd)
  (@ay _ _ _ _ _ (aR (bu m8 C0 (bu mP r6 (bu je i9 (bu jc jI (af 3) (af 3)) (bu jc jI ar (af 1))) ar) ar))))))
abbrev kF:Stmt:=top 34
theorem gR:aJ ["script","k","cell","number","j"] ["script","k"] (av kF):=⟨rfl,rfl,rfl,by decide +kernel,rfl,by decide +kernel,by decide +kernel⟩
theorem uq {f:Addr}{fd:FuncData}{eT gu:List D->FR}(F:i5 K mg "_law_box" kF ["script","k"] f fd)(B:jg mg)(lG:cE P w K mg base ca "_law_cell" ["script","k"] 1 eT)(mJ:cE P w K mg base ca "_law_mix" ["cell","k"] 1 gu):cE P w K mg base ca "_law_box" ["script","k"] 2 (bg 5 2 (kE eT gu)):=
 ⟨⟨f,fd,F.mg,F.F.kp,F.b,aU (N:=["script","k","cell","number","j"]) (k:=1) F.F gR fun cdv A outer s H G E hr=>
  (@ak _ _ _ _ _ _ _ (aV (i:=2) (aL lG (hr.mono (by decide)) bc rfl rfl (ae (az 0 rfl) (ae (az 1 rfl) ao))) gR.nd)
  (@ak _ _ _ _ _ _ _ (cV (a9 (cv hr.units) cO (bu mP r6 (af 2) ar) ar (aS _))
  (@ay _ _ _ _ _ (pj (bC (ae (bu m8 C0 (a7 AN Hh rfl B.abs (by decide +kernel) (af 2)) ar) ao))))
  bY)
  (@ak _ _ _ _ _ _ _ (aV (i:=3) ar gR.nd)
  (@ak _ _ _ _ _ _ _ (dO PassesOwn.leaving rfl (iS rfl B.range ar) (cq (i:=4) gR.nd)
  (@ay _ _ _ _ _ (aV (i:=3) (bu je i9 (bu jc jI (af 3) ar) (aL mJ (hr.mono (by decide)) bc rfl rfl (ae (az 2 rfl) (ae (az 4 rfl) ao)))) gR.nd)))
  (@ay _ _ _ _ _ (pj (bC (ae (az 3 rfl) ao))))))))⟩,fun ds h=>aN ds h⟩
abbrev ju:Stmt:=top 35
theorem mZ:aJ ["box","many","left","digit"] ["box","many"] (av ju):=⟨rfl,rfl,rfl,by decide +kernel,rfl,by decide +kernel,by decide +kernel⟩
theorem rB {f:Addr}{fd:FuncData}(F:i5 K mg "_law_take" ju ["box","many"] f fd)(B:jg mg):jY P w K mg base "_law_take" ["box","many"] 1 bE:=by
 refine⟨⟨f,fd,F.mg,F.F.kp,F.b,?_⟩,fun ds β h=>?_⟩
 ·refine F.F.Aj mZ (fun vs H Q E h=>?_) (fun cdv A outer s H vs Q E hr h=>?_)
  ·obtain⟨b,rest,G,ds,β,rfl,hb,gb,sG,hl,r,_⟩:=h
   rw[length_cons,r.len,hl];rfl
  ·obtain⟨b,rest,G,ds,β,rfl,hb,gb,sG,hl,r,h⟩:=h
   obtain⟨m,rfl,h0,h1⟩:=yk (fun z=>by rw[z] at h;exact h)
   rw[uy h0 h1] at h
   have kk:∀v G' H',jh (some b) H H'->H' b=some (.lst [.int (β / m)])->ax G G'->ax G' H'->(∀c,Mx H c->G c=none->G' c=none)->FV K H G' H' false (.int (β % m)) v->Q v H':=h
   cases r with
   |cons r1 r2=>
    cases r1
    cases r2
    refine⟨_,iW (pX (j8 uV rfl B.divmod (by decide +kernel) (aX (my iE (pv 0) xu (fun _ _=>rfl)) (aX (pv 1) bM))) (DM (i:=2) (j:=3) mZ.nd rfl rfl rfl rfl rfl))
     (iW (pX (pv 2) (uK (pv 0) xu set_list)) (jl (nW (pv 3)))),?_⟩
    refine⟨_,rfl,b,_,0,.int β,rfl,rfl,.inl (.inl hb),rfl,_,rfl,β,m,rfl,⟨h0,h1⟩,fun p hp=>⟨p,_,rfl,.inl (.inl aC),rfl,_,_,rfl,_,_,rfl,rfl,?_⟩⟩
    have hbp:b≠p:=aO hb hp
    exact⟨_,rfl,_,rfl,b,[.int β],0,0,rfl,rfl,by rw[aE hbp];exact hb,rfl,_,rfl,AJ hb sG hp kk gb⟩
 ·obtain⟨m,rfl,_⟩:=yk h
  rfl
abbrev iK:Stmt:=top 36
theorem rC:aJ ["thing"] ["thing"] (av iK):=⟨rfl,rfl,rfl,by decide +kernel,rfl,by decide +kernel,by decide +kernel⟩
theorem qx {f:Addr}{fd:FuncData}(F:i5 K mg "_law_whole" iK ["thing"] f fd)(B:jg mg):cE P w K mg base ca "_law_whole" ["thing"] 1 (bg 1 1 (nK)):=
 ⟨⟨f,fd,F.mg,F.F.kp,F.b,aU (N:=["thing"]) (k:=0) F.F rC fun cdv A outer s H G E hr=>
  (@ay _ _ _ _ _ (aR (il (ic "int" (by decide) rfl rfl B.isinstance rfl B.int (by decide +kernel) (af 0)) (h9 (xt (ic "bool" (by decide) rfl rfl B.isinstance rfl B.bool (by decide +kernel) (af 0)))) (fun _ _=>rfl))))⟩,fun ds h=>aN ds h⟩
abbrev dW:Stmt:=top 37
theorem fT:aJ ["box","some","left","found"] ["box","some"] (av dW):=⟨rfl,rfl,rfl,by decide +kernel,rfl,by decide +kernel,by decide +kernel⟩
theorem nv {f:Addr}{fd:FuncData}{aB:List D->Int->FB}(F:i5 K mg "_law_mixed_up" dW ["box","some"] f fd)(B:jg mg)(aP:jY P w K mg base "_law_take" ["box","many"] 1 aB):jY P w K mg base "_law_mixed_up" ["box","some"] 2 (nD 4 1 (dY aB)):=
 ⟨⟨f,fd,F.mg,F.F.kp,F.b,lJ (ca:=fun _=>0) (N:=["box","some","left","found"]) (k:=1) F.F fT (by decide) fun cdv A outer s H G b E hr=>
  (@ak _ _ _ _ _ _ _ (dS (i:=2) (g7 m6 CA rfl B.list (by decide +kernel) (af 1)) fT.nd)
  (@ak _ _ _ _ _ _ _ (dS (i:=3) (bC ao) fT.nd)
  (@ak _ _ _ _ _ _ _ (lx 1000 PassesOwn.leaving (a9 (c9 hr.units) cO (af 2) (bC ao) (aS _))
  (@ay _ _ _ _ _ (zl 3 2 (fun _=>rfl) (gO 0 aP (hr.mono (by decide)) bc rfl rfl (ae (a7 bO fS rfl B.len PySem.boot_len (af 2)) ao)))))
  (@ay _ _ _ _ _ (nI 3)))))⟩,fun ds β h=>lR ds β h⟩
abbrev gF:Stmt:=top 38
theorem bQ:aJ ["pairs","found","size","more","a","b"] ["pairs"] (av gF):=⟨rfl,rfl,rfl,by decide +kernel,rfl,by decide +kernel,by decide +kernel⟩
theorem oU {f:Addr}{fd:FuncData}(F:i5 K mg "_law_closed" gF ["pairs"] f fd)(B:jg mg):cE P w K mg base ca "_law_closed" ["pairs"] 1 (bg 6 1 (gN)):=
 ⟨⟨f,fd,F.mg,F.F.kp,F.b,aU (N:=["pairs","found","size","more","a","b"]) (k:=0) F.F bQ fun cdv A outer s H G E hr=>
  (@ak _ _ _ _ _ _ _ (aV (i:=1) (@SE.wv _ _ _ _ _ _ (pK rfl hr.units rfl rfl B.sorted rfl B.set (af 0))) bQ.nd)
  (@ak _ _ _ _ _ _ _ (aV (i:=2) (yW uz yt ar) bQ.nd)
  (@ak _ _ _ _ _ _ _ (lx 1000 PassesOwn.leaving (a9 (c9 hr.units) cO (af 2) (a7 bO fS rfl B.len PySem.boot_len (af 1)) (aS _))
  (@ak _ _ _ _ _ _ _ (aV (i:=2) (a7 bO fS rfl B.len PySem.boot_len (af 1)) bQ.nd)
  (@ak _ _ _ _ _ _ _ (aV (i:=3) (@SE.wv _ _ _ _ _ _ (bC ao)) bQ.nd)
  (@ak _ _ _ _ _ _ _ (dO PassesOwn.leaving rfl (Ao rfl (az 1 rfl)) (jL (i:=4) (j:=5) bQ.nd)
  (@ay _ _ _ _ _ (aV (i:=3) (@SE.wv _ _ _ _ _ _ (bu l7 sI (af 3) (cn (NB:=["c","d","b","a"]) (own:=2) (ixs:=[5,4]) [4] rfl (b5 (by kernel_rfl)) (fun _ _=>rfl) (lQ rfl (af 1)) (fun H0 G0 par br bx C ex s3 H3 pn=>(jL (i:=0) (j:=1) (show (["c","d","b","a"]:List Str).Nodup by decide +kernel))) (fun H0 G0 par br bx C ex s3 H3 pn hB1=>(dR (a9 (cv hr.units) cO (af 0) (af 2) (aS _)))) (fun H0 G0 par br bx C ex s3 H3 pn hB1=>(cG (ae (az 3 (hB1 3 (by decide))) (ae (az 1 (hB1 1 (by decide))) ao))))))) bQ.nd)))
  (@ay _ _ _ _ _ (aV (i:=1) (@SE.wv _ _ _ _ _ _ (pK rfl hr.units rfl rfl B.sorted rfl B.set (bu l7 sI (af 1) (af 3)))) bQ.nd))))))
  (@ay _ _ _ _ _ (aR (g7 c5 nq rfl B.tuple (by decide +kernel) (af 1)))))))⟩,fun ds h=>aN ds h⟩
abbrev iF:Stmt:=top 39
theorem cD:aJ ["box","most","many","names","thin","pairs","i","j"] ["box","most"] (av iF):=⟨rfl,rfl,rfl,by decide +kernel,rfl,by decide +kernel,by decide +kernel⟩
theorem p6 {f:Addr}{fd:FuncData}{c6:List D->FR}{aB aM:List D->Int->FB}(F:i5 K mg "_law_order" iF ["box","most"] f fd)(B:jg mg)(jP:cE P w K mg base ca "_law_closed" ["pairs"] 1 c6)(aP:jY P w K mg base "_law_take" ["box","many"] 1 aB)(bz:jY P w K mg base "_law_mixed_up" ["box","some"] 2 aM):jY P w K mg base "_law_order" ["box","most"] 3 (nD 8 1 (iw c6 aB aM)):=
 ⟨⟨f,fd,F.mg,F.F.kp,F.b,lJ (ca:=ca) (N:=["box","most","many","names","thin","pairs","i","j"]) (k:=2) F.F cD (by decide) fun cdv A outer s H G b E hr=>
  (@ak _ _ _ _ _ _ _ (aV (i:=2) (bu je i9 ar (gO 0 aP (hr.mono (by decide)) bc rfl rfl (ae (az 1 rfl) ao))) cD.nd)
  (@ak _ _ _ _ _ _ _ (aV (i:=3) (gO 0 bz (hr.mono (by decide)) bc rfl rfl (ae (@SE.wv _ _ _ _ _ _ (kS rfl rfl B.list rfl B.range (af 2))) ao)) cD.nd)
  (@ak _ _ _ _ _ _ _ (aV (i:=4) (aQ aF bq (bC (ae ar (ae ar (ae ar (ae ar ao))))) (gO 0 aP (hr.mono (by decide)) bc rfl rfl (ae ar ao)) (fun _ _=>rfl)) cD.nd)
  (@ak _ _ _ _ _ _ _ (dS (i:=5) (bC ao) cD.nd)
  (@ak _ _ _ _ _ _ _ (dO PassesOwn.leaving rfl (iS rfl B.range (af 2)) (cq (i:=6) cD.nd)
  (@ay _ _ _ _ _ (dO PassesOwn.leaving rfl (Hw rfl B.range (bu je i9 (af 6) ar) (af 2)) (cq (i:=7) cD.nd)
  (@ay _ _ _ _ _ (cV (a9 (cv hr.units) cO (gO 0 aP (hr.mono (by decide)) bc rfl rfl (ae (az 4 rfl) ao)) ar (aS _))
  (@ay _ _ _ _ _ (fu 5 (fun _=>rfl) (cG (ae (aQ aF bq (af 3) (af 6) (fun _ _=>rfl)) (ae (aQ aF bq (af 3) (af 7) (fun _ _=>rfl)) ao)))))
  bY)))))
  (@ay _ _ _ _ _ (aR (cG (ae (az 2 rfl) (ae (aL jP (hr.mono (by decide)) bc rfl rfl (ae (az 5 rfl) ao)) ao))))))))))⟩,fun ds β h=>lR ds β h⟩
abbrev iH:Stmt:=top 40
theorem qS:aJ ["order","a","b"] ["order","a","b"] (av iH):=⟨rfl,rfl,rfl,by decide +kernel,rfl,by decide +kernel,by decide +kernel⟩
theorem qe {f:Addr}{fd:FuncData}(F:i5 K mg "_law_apart" iH ["order","a","b"] f fd)(B:jg mg):cE P w K mg base ca "_law_apart" ["order","a","b"] 1 (bg 3 3 (nA)):=
 ⟨⟨f,fd,F.mg,F.F.kp,F.b,aU (N:=["order","a","b"]) (k:=0) F.F qS fun cdv A outer s H G E hr=>
  (@ay _ _ _ _ _ (aR (il (cQ (c9 hr.units) cO (af 1) (af 2) (aS _)) (il (cQ (dt hr.u1) nV (cG (ae (az 1 rfl) (ae (az 2 rfl) ao))) (aQ aF bq (af 0) ar (fun _ _=>rfl)) (by with_unfolding_all rfl)) (h9 (cQ (dt hr.u1) nV (cG (ae (az 2 rfl) (ae (az 1 rfl) ao))) (aQ aF bq (af 0) ar (fun _ _=>rfl)) (by with_unfolding_all rfl))) (fun _ _=>rfl)) (fun _ _=>rfl))))⟩,fun ds h=>aN ds h⟩
abbrev iG:Stmt:=top 41
theorem gL:aJ ["order","found","a"] ["order"] (av iG):=⟨rfl,rfl,rfl,by decide +kernel,rfl,by decide +kernel,by decide +kernel⟩
theorem pL {f:Addr}{fd:FuncData}{dA:List D->FR}(F:i5 K mg "_law_turns" iG ["order"] f fd)(B:jg mg)(kU:cE P w K mg base ca "_law_apart" ["order","a","b"] 1 dA):cE P w K mg base ca "_law_turns" ["order"] 2 (bg 3 1 (iD dA)):=
 ⟨⟨f,fd,F.mg,F.F.kp,F.b,aU (N:=["order","found","a"]) (k:=1) F.F gL fun cdv A outer s H G E hr=>
  (@ak _ _ _ _ _ _ _ (aV (i:=1) (@SE.wv _ _ _ _ _ _ (bC ao)) gL.nd)
  (@ak _ _ _ _ _ _ _ (dO PassesOwn.leaving rfl (iS rfl B.range (aQ aF bq (af 0) ar (fun _ _=>rfl))) (cq (i:=2) gL.nd)
  (@ay _ _ _ _ _ (aV (i:=1) (@SE.wv _ _ _ _ _ _ (bu l7 sI (af 1) (cn (NB:=["b","order","a"]) (own:=1) (ixs:=[0,2]) [0,2] rfl (b5 (by kernel_rfl)) (fun _ _=>rfl) (iS rfl B.range (aQ aF bq (af 0) ar (fun _ _=>rfl))) (fun H0 G0 par br bx C ex s3 H3 pn=>(cq (i:=0) (show (["b","order","a"]:List Str).Nodup by decide +kernel))) (fun H0 G0 par br bx C ex s3 H3 pn hB1=>(dR (b7 rfl (aL kU (hr.mono (by decide)) ml rfl rfl (ae (az 1 (hB1 1 (by decide))) (ae (az 2 (hB1 2 (by decide))) (ae (az 0 (hB1 0 (by decide))) ao))))))) (fun H0 G0 par br bx C ex s3 H3 pn hB1=>(cG (ae (az 2 (hB1 2 (by decide))) (ae (az 0 (hB1 0 (by decide))) ao))))))) gL.nd)))
  (@ay _ _ _ _ _ (nI 1))))⟩,fun ds h=>aN ds h⟩
abbrev jk:Stmt:=top 42
theorem ub:aJ ["order","row"] ["order","row"] (av jk):=⟨rfl,rfl,rfl,by decide +kernel,rfl,by decide +kernel,by decide +kernel⟩
theorem qY {f:Addr}{fd:FuncData}(F:i5 K mg "_law_fits" jk ["order","row"] f fd)(B:jg mg):cE P w K mg base ca "_law_fits" ["order","row"] 1 (bg 2 2 (jC)):=
 ⟨⟨f,fd,F.mg,F.F.kp,F.b,aU (N:=["order","row"]) (k:=0) F.F ub fun cdv A outer s H G E hr=>
  (@ay _ _ _ _ _ (aR (cQ (cv hr.units) cO (cn (NB:=["a","b","row"]) (own:=2) (ixs:=[1]) [] rfl (b5 (by kernel_rfl)) (fun _ _=>rfl) (lQ rfl (aQ aF bq (af 0) ar (fun _ _=>rfl))) (fun H0 G0 par br bx C ex s3 H3 pn=>(jL (i:=0) (j:=1) (show (["a","b","row"]:List Str).Nodup by decide +kernel))) (fun H0 G0 par br bx C ex s3 H3 pn hB1=>(dR (a9 B9 FL (gW rfl (af 2) (af 0)) (gW rfl (af 2) (af 1)) (aS _)))) (fun H0 G0 par br bx C ex s3 H3 pn hB1=>ar)) (bC ao) (aS _))))⟩,fun ds h=>aN ds h⟩
abbrev kx:Stmt:=top 43
theorem fk:aJ ["box","order","row","free","thing","left"] ["box","order"] (av kx):=⟨rfl,rfl,rfl,by decide +kernel,rfl,by decide +kernel,by decide +kernel⟩
theorem tT {f:Addr}{fd:FuncData}{aB:List D->Int->FB}(F:i5 K mg "_law_row" kx ["box","order"] f fd)(B:jg mg)(aP:jY P w K mg base "_law_take" ["box","many"] 1 aB):jY P w K mg base "_law_row" ["box","order"] 2 (nD 6 1 (kz aB)):=
 ⟨⟨f,fd,F.mg,F.F.kp,F.b,lJ (ca:=fun _=>0) (N:=["box","order","row","free","thing","left"]) (k:=1) F.F fk (by decide) fun cdv A outer s H G b E hr=>
  (@ak _ _ _ _ _ _ _ (aV (i:=2) (cG ao) fk.nd)
  (@ak _ _ _ _ _ _ _ (lx 1000 PassesOwn.leaving (a9 u9 Cn (a7 bO fS rfl B.len PySem.boot_len (af 2)) (aQ aF bq (af 1) ar (fun _ _=>rfl)) (aS _))
  (@ak _ _ _ _ _ _ _ (dS (i:=3) (bC ao) fk.nd)
  (@ak _ _ _ _ _ _ _ (dO PassesOwn.leaving rfl (iS rfl B.range (aQ aF bq (af 1) ar (fun _ _=>rfl))) (cq (i:=4) fk.nd)
  (@ak _ _ _ _ _ _ _ (me (i:=5) (NB:=["a","b","thing","row"]) (own:=2) (ixs:=[4,2]) [] rfl (b5 (by kernel_rfl)) (fun _ _=>rfl) (lQ rfl (aQ aF bq (af 1) ar (fun _ _=>rfl))) (fun H0 G0 par br bx C ex s3 H3 pn=>(jL (i:=0) (j:=1) (show (["a","b","thing","row"]:List Str).Nodup by decide +kernel))) (fun H0 G0 par br bx C ex s3 H3 pn hB1=>(dR (oY.t (qF (a9 (cv hr.units) cO (af 1) (af 2) (aS _)) (nE (a9 (dt hr.u1) nV (af 0) (af 3) (by with_unfolding_all rfl))) (fun i hi=>hB1 i (by revert i hi;decide)))))) (fun H0 G0 par br bx C ex s3 H3 pn hB1=>(az 0 (hB1 0 (by decide)))) fk.nd)
  (@ay _ _ _ _ _ (cV (oY.t (qF (a9 (dt hr.u1) nV (af 4) (af 2) (by with_unfolding_all rfl)) (nE (a9 (cv hr.units) cO (af 5) (bC ao) (aS _))) (fun _ _=>rfl)))
  (@ay _ _ _ _ _ (fu 3 (fun _=>rfl) (az 4 rfl)))
  bY))))
  (@ay _ _ _ _ _ (aV (i:=2) (bu Cr GZ (af 2) (cG (ae (aQ aF bq (af 3) (gO 0 aP (hr.mono (by decide)) bc rfl rfl (ae (a7 bO fS rfl B.len PySem.boot_len (af 3)) ao)) (fun _ _=>rfl)) ao))) fk.nd)))))
  (@ay _ _ _ _ _ (nI 2))))⟩,fun ds β h=>lR ds β h⟩
abbrev gB:Stmt:=top 44
theorem qk:aJ ["thing","many"] ["thing","many"] (av gB):=⟨rfl,rfl,rfl,by decide +kernel,rfl,by decide +kernel,by decide +kernel⟩
theorem oQ {f:Addr}{fd:FuncData}{bI:List D->FR}(F:i5 K mg "_law_is_row" gB ["thing","many"] f fd)(B:jg mg)(dw:cE P w K mg base ca "_law_whole" ["thing"] 1 bI):cE P w K mg base ca "_law_is_row" ["thing","many"] 2 (bg 2 2 (gH bI)):=
 ⟨⟨f,fd,F.mg,F.F.kp,F.b,aU (N:=["thing","many"]) (k:=1) F.F qk fun cdv A outer s H G E hr=>
  (@ak _ _ _ _ _ _ _ (cV (oY.t (iu (cR (b7 rfl (ic "tuple" (by decide) rfl rfl B.isinstance rfl B.tuple (by decide +kernel) (af 0)))) (iu (a9 (c9 hr.units) cO (a7 bO fS rfl B.len PySem.boot_len (af 0)) (af 1) (aS _)) (ip (cR (b7 rfl (a7 (kf rfl) kM rfl B.all (by decide +kernel) (cn (NB:=["one"]) (own:=1) (ixs:=[]) [] rfl (b5 (by kernel_rfl)) (fun _ _=>rfl) (lQ rfl (af 0)) (fun H0 G0 par br bx C ex s3 H3 pn=>(cq (i:=0) (show (["one"]:List Str).Nodup by decide +kernel))) (fun H0 G0 par br bx C ex s3 H3 pn hB1=>dX) (fun H0 G0 par br bx C ex s3 H3 pn hB1=>(aL dw (hr.mono (by decide)) ml rfl rfl (ae (az 0 (hB1 0 (by decide))) ao)))))))) (fun _ _=>rfl)) (fun _ _=>rfl)))
  (@ay _ _ _ _ _ (aR j9))
  bY)
  (@ay _ _ _ _ _ (aR (cQ (cv hr.units) cO (a7 xo Ee rfl B.sorted (by decide +kernel) (af 0)) (kS rfl rfl B.list rfl B.range (af 1)) (aS _)))))⟩,fun ds h=>aN ds h⟩
abbrev jz:Stmt:=top 45
theorem fK:aJ ["many","rows","found","a","b","left"] ["many","rows"] (av jz):=⟨rfl,rfl,rfl,by decide +kernel,rfl,by decide +kernel,by decide +kernel⟩
theorem rH {f:Addr}{fd:FuncData}(F:i5 K mg "_law_told" jz ["many","rows"] f fd)(B:jg mg):cE P w K mg base ca "_law_told" ["many","rows"] 1 (bg 6 2 (fI)):=
 ⟨⟨f,fd,F.mg,F.F.kp,F.b,aU (N:=["many","rows","found","a","b","left"]) (k:=0) F.F fK fun cdv A outer s H G E hr=>
  (@ak _ _ _ _ _ _ _ (dS (i:=2) (bC ao) fK.nd)
  (@ak _ _ _ _ _ _ _ (dO PassesOwn.leaving rfl (iS rfl B.range (af 0)) (cq (i:=3) fK.nd)
  (@ay _ _ _ _ _ (dO PassesOwn.leaving rfl (iS rfl B.range (af 0)) (cq (i:=4) fK.nd)
  (@ak _ _ _ _ _ _ _ (me (i:=5) (NB:=["one","a","b"]) (own:=1) (ixs:=[3,4]) [] rfl (b5 (by kernel_rfl)) (fun _ _=>rfl) (lQ rfl (af 1)) (fun H0 G0 par br bx C ex s3 H3 pn=>(cq (i:=0) (show (["one","a","b"]:List Str).Nodup by decide +kernel))) (fun H0 G0 par br bx C ex s3 H3 pn hB1=>(dR (a9 B9 FL (gW rfl (af 0) (af 1)) (gW rfl (af 0) (af 2)) (aS _)))) (fun H0 G0 par br bx C ex s3 H3 pn hB1=>ar) fK.nd)
  (@ay _ _ _ _ _ (cV (oY.t (qF (a9 (c9 hr.units) cO (af 3) (af 4) (aS _)) (nE (a9 (cv hr.units) cO (af 5) (bC ao) (aS _))) (fun _ _=>rfl)))
  (@ay _ _ _ _ _ (fu 2 (fun _=>rfl) (cG (ae (az 3 rfl) (ae (az 4 rfl) ao)))))
  bY))))))
  (@ay _ _ _ _ _ (aR (g7 c5 nq rfl B.tuple (by decide +kernel) (af 2))))))⟩,fun ds h=>aN ds h⟩
abbrev fE:Stmt:=top 46
theorem oW:aJ ["order","thing"] ["order","thing"] (av fE):=⟨rfl,rfl,rfl,by decide +kernel,rfl,by decide +kernel,by decide +kernel⟩
theorem n0 {f:Addr}{fd:FuncData}{bI bJ:List D->FR}(F:i5 K mg "_law_is_turn" fE ["order","thing"] f fd)(B:jg mg)(dw:cE P w K mg base ca "_law_whole" ["thing"] 1 bI)(dB:cE P w K mg base ca "_law_turns" ["order"] 2 bJ):cE P w K mg base ca "_law_is_turn" ["order","thing"] 3 (bg 2 2 (fC bI bJ)):=
 ⟨⟨f,fd,F.mg,F.F.kp,F.b,aU (N:=["order","thing"]) (k:=2) F.F oW fun cdv A outer s H G E hr=>
  (@ak _ _ _ _ _ _ _ (cV (oY.t (iu (cR (b7 rfl (ic "tuple" (by decide) rfl rfl B.isinstance rfl B.tuple (by decide +kernel) (af 1)))) (iu (a9 (c9 hr.units) cO (a7 bO fS rfl B.len PySem.boot_len (af 1)) ar (aS _)) (ip (cR (b7 rfl (a7 (kf rfl) kM rfl B.all (by decide +kernel) (cn (NB:=["one"]) (own:=1) (ixs:=[]) [] rfl (b5 (by kernel_rfl)) (fun _ _=>rfl) (lQ rfl (af 1)) (fun H0 G0 par br bx C ex s3 H3 pn=>(cq (i:=0) (show (["one"]:List Str).Nodup by decide +kernel))) (fun H0 G0 par br bx C ex s3 H3 pn hB1=>dX) (fun H0 G0 par br bx C ex s3 H3 pn hB1=>(aL dw (hr.mono (by decide)) ml rfl rfl (ae (az 0 (hB1 0 (by decide))) ao)))))))) (fun _ _=>rfl)) (fun _ _=>rfl)))
  (@ay _ _ _ _ _ (aR j9))
  bY)
  (@ay _ _ _ _ _ (aR (cQ (uA hr.u1) nV (af 1) (aL dB (hr.mono (by decide)) bc rfl rfl (ae (az 0 rfl) ao)) (by with_unfolding_all rfl)))))⟩,fun ds h=>aN ds h⟩
abbrev iL:Stmt:=top 47
theorem rj:aJ ["order","one","other"] ["order","one","other"] (av iL):=⟨rfl,rfl,rfl,by decide +kernel,rfl,by decide +kernel,by decide +kernel⟩
theorem pO {f:Addr}{fd:FuncData}(F:i5 K mg "_law_leads" iL ["order","one","other"] f fd)(B:jg mg):cE P w K mg base ca "_law_leads" ["order","one","other"] 1 (bg 3 3 (nk)):=
 ⟨⟨f,fd,F.mg,F.F.kp,F.b,aU (N:=["order","one","other"]) (k:=0) F.F rj fun cdv A outer s H G E hr=>
  (@ay _ _ _ _ _ (aR (EX (cQ (cv hr.units) cO (aQ aF bq (af 1) ar (fun _ _=>rfl)) (aQ aF bq (af 2) ar (fun _ _=>rfl)) (aS _)) (h9 (cQ (uA hr.u1) nV (cG (ae (aQ aF bq (af 1) ar (fun _ _=>rfl)) (ae (aQ aF bq (af 2) ar (fun _ _=>rfl)) ao))) (aQ aF bq (af 0) ar (fun _ _=>rfl)) (by with_unfolding_all rfl))) (fun _ _=>rfl))))⟩,fun ds h=>aN ds h⟩
abbrev fA:Stmt:=top 48
theorem oS:aJ ["thing","order"] ["thing","order"] (av fA):=⟨rfl,rfl,rfl,by decide +kernel,rfl,by decide +kernel,by decide +kernel⟩
theorem ot {f:Addr}{fd:FuncData}{cK dF:List D->FR}(F:i5 K mg "_law_is_ring" fA ["thing","order"] f fd)(B:jg mg)(ja:cE P w K mg base ca "_law_is_turn" ["order","thing"] 3 cK)(ky:cE P w K mg base ca "_law_leads" ["order","one","other"] 1 dF):cE P w K mg base ca "_law_is_ring" ["thing","order"] 4 (bg 2 2 (fy cK dF)):=
 ⟨⟨f,fd,F.mg,F.F.kp,F.b,aU (N:=["thing","order"]) (k:=3) F.F oS fun cdv A outer s H G E hr=>
  (@ak _ _ _ _ _ _ _ (cV (oY.t (iu (cR (b7 rfl (ic "list" (by decide) rfl rfl B.isinstance rfl B.list (by decide +kernel) (af 0)))) (iu (a9 (cv hr.units) cO (af 0) (bC ao) (aS _)) (ip (cR (b7 rfl (a7 (kf rfl) kM rfl B.all (by decide +kernel) (cn (NB:=["one","order"]) (own:=1) (ixs:=[1]) [1] rfl (b5 (by kernel_rfl)) (fun _ _=>rfl) (lQ rfl (af 0)) (fun H0 G0 par br bx C ex s3 H3 pn=>(cq (i:=0) (show (["one","order"]:List Str).Nodup by decide +kernel))) (fun H0 G0 par br bx C ex s3 H3 pn hB1=>dX) (fun H0 G0 par br bx C ex s3 H3 pn hB1=>(aL ja (hr.mono (by decide)) ml rfl rfl (ae (az 1 (hB1 1 (by decide))) (ae (az 0 (hB1 0 (by decide))) ao))))))))) (fun _ _=>rfl)) (fun _ _=>rfl)))
  (@ay _ _ _ _ _ (aR j9))
  bY)
  (@ay _ _ _ _ _ (aR (a7 (kf rfl) kM rfl B.all (by decide +kernel) (cn (NB:=["at","order","thing"]) (own:=1) (ixs:=[1,0]) [1] rfl (b5 (by kernel_rfl)) (fun _ _=>rfl) (iS rfl B.range (a7 bO fS rfl B.len PySem.boot_len (af 0))) (fun H0 G0 par br bx C ex s3 H3 pn=>(cq (i:=0) (show (["at","order","thing"]:List Str).Nodup by decide +kernel))) (fun H0 G0 par br bx C ex s3 H3 pn hB2=>dX) (fun H0 G0 par br bx C ex s3 H3 pn hB2=>(aL ky (hr.mono (by decide)) ml rfl rfl (ae (az 1 (hB2 1 (by decide))) (ae (aQ aF bq (af 2) (bu GN Hk (af 0) ar) (fun _ _=>rfl)) (ae (aQ aF bq (af 2) (af 0) (fun _ _=>rfl)) ao))))))))))⟩,fun ds h=>aN ds h⟩
abbrev iJ:Stmt:=top 49
theorem cC:aJ ["box","many","names","pairs","i","others"] ["box"] (av iJ):=⟨rfl,rfl,rfl,by decide +kernel,rfl,by decide +kernel,by decide +kernel⟩
theorem qr {f:Addr}{fd:FuncData}{aB aM:List D->Int->FB}(F:i5 K mg "_law_crown" iJ ["box"] f fd)(B:jg mg)(aP:jY P w K mg base "_law_take" ["box","many"] 1 aB)(bz:jY P w K mg base "_law_mixed_up" ["box","some"] 2 aM):jY P w K mg base "_law_crown" ["box"] 3 (nD 6 0 (iM aB aM)):=
 ⟨⟨f,fd,F.mg,F.F.kp,F.b,lJ (ca:=fun _=>0) (N:=["box","many","names","pairs","i","others"]) (k:=2) F.F cC (by decide) fun cdv A outer s H G b E hr=>
  (@ak _ _ _ _ _ _ _ (aV (i:=1) (bu je i9 ar (gO 0 aP (hr.mono (by decide)) bc rfl rfl (ae ar ao))) cC.nd)
  (@ak _ _ _ _ _ _ _ (aV (i:=2) (gO 0 bz (hr.mono (by decide)) bc rfl rfl (ae (@SE.wv _ _ _ _ _ _ (kS rfl rfl B.list rfl B.range (bu jc jI ar (af 1)))) ao)) cC.nd)
  (@ak _ _ _ _ _ _ _ (aV (i:=3) (@SE.wv _ _ _ _ _ _ (bC ao)) cC.nd)
  (@ak _ _ _ _ _ _ _ (dO PassesOwn.leaving rfl (iS rfl B.range (af 1)) (cq (i:=4) cC.nd)
  (@ak _ _ _ _ _ _ _ (me (i:=5) (NB:=["j","i","names","many"]) (own:=1) (ixs:=[4,2,1]) [] rfl (b5 (by kernel_rfl)) (fun _ _=>rfl) (iS rfl B.range (af 1)) (fun H0 G0 par br bx C ex s3 H3 pn=>(cq (i:=0) (show (["j","i","names","many"]:List Str).Nodup by decide +kernel))) (fun H0 G0 par br bx C ex s3 H3 pn hB1=>(dR (a9 (c9 hr.units) cO (af 0) (af 1) (aS _)))) (fun H0 G0 par br bx C ex s3 H3 pn hB1=>(aQ aF bq (af 2) (bu je i9 (af 3) (af 0)) (fun _ _=>rfl))) cC.nd)
  (@ay _ _ _ _ _ (aV (i:=3) (@SE.wv _ _ _ _ _ _ (bu l7 sI (af 3) (cn (NB:=["other","names","i"]) (own:=1) (ixs:=[2,4]) [] rfl (b5 (by kernel_rfl)) (fun _ _=>rfl) (lQ rfl (af 5)) (fun H0 G0 par br bx C ex s3 H3 pn=>(cq (i:=0) (show (["other","names","i"]:List Str).Nodup by decide +kernel))) (fun H0 G0 par br bx C ex s3 H3 pn hB2=>dX) (fun H0 G0 par br bx C ex s3 H3 pn hB2=>(cG (ae (aQ aF bq (af 1) (af 2) (fun _ _=>rfl)) (ae (az 0 (hB2 0 (by decide))) ao))))))) cC.nd))))
  (@ay _ _ _ _ _ (aR (cG (ae (bu jc jI ar (af 1)) (ae (g7 c5 nq rfl B.tuple (by decide +kernel) (a7 vR C5 rfl B.sorted (by decide +kernel) (af 3))) ao)))))))))⟩,fun ds β h=>lR ds β h⟩
abbrev dJ:Stmt:=top 50
theorem dc:aJ ["box","most","kind","many","rows"] ["box","most"] (av dJ):=⟨rfl,rfl,rfl,by decide +kernel,rfl,by decide +kernel,by decide +kernel⟩
theorem mW {f:Addr}{fd:FuncData}{fj:List D->FR}{aB dG aM dD:List D->Int->FB}(F:i5 K mg "_law_any_order" dJ ["box","most"] f fd)(B:jg mg)(lT:cE P w K mg base ca "_law_told" ["many","rows"] 1 fj)(aP:jY P w K mg base "_law_take" ["box","many"] 1 aB)(kR:jY P w K mg base "_law_crown" ["box"] 3 dG)(bz:jY P w K mg base "_law_mixed_up" ["box","some"] 2 aM)(ku:jY P w K mg base "_law_order" ["box","most"] 3 dD):jY P w K mg base "_law_any_order" ["box","most"] 4 (nD 5 1 (dC fj aB dG aM dD)):=
 ⟨⟨f,fd,F.mg,F.F.kp,F.b,lJ (ca:=ca) (N:=["box","most","kind","many","rows"]) (k:=3) F.F dc (by decide) fun cdv A outer s H G b E hr=>
  (@ak _ _ _ _ _ _ _ (aV (i:=2) (gO 0 aP (hr.mono (by decide)) bc rfl rfl (ae ar ao)) dc.nd)
  (@ak _ _ _ _ _ _ _ (cV (a9 (cv hr.units) cO (af 2) ar (aS _))
  (@ay _ _ _ _ _ (aR (gO 0 kR (hr.mono (by decide)) bc rfl rfl ao)))
  bY)
  (@ak _ _ _ _ _ _ _ (cV (a9 (cv hr.units) cO (af 2) ar (aS _))
  (@ak _ _ _ _ _ _ _ (aV (i:=3) (bu je i9 ar (gO 0 aP (hr.mono (by decide)) bc rfl rfl (ae (az 1 rfl) ao))) dc.nd)
  (@ak _ _ _ _ _ _ _ (me (i:=4) (NB:=["side","box","many"]) (own:=1) (ixs:=[0,3]) [] rfl (b5 (by kernel_rfl)) (fun _ _=>rfl) (iS rfl B.range ar) (fun H0 G0 par br bx C ex s3 H3 pn=>(cq (i:=0) (show (["side","box","many"]:List Str).Nodup by decide +kernel))) (fun H0 G0 par br bx C ex s3 H3 pn hB1=>dX) (fun H0 G0 par br bx C ex s3 H3 pn hB1=>(g7 c5 nq rfl B.tuple (by decide +kernel) (gO 1 bz (hr.mono (by decide)) ml rfl rfl (ae (@SE.wv _ _ _ _ _ _ (kS rfl rfl B.list rfl B.range (af 2))) ao)))) dc.nd)
  (@ay _ _ _ _ _ (aR (cG (ae (az 3 rfl) (ae (aL lT (hr.mono (by decide)) bc rfl rfl (ae (az 3 rfl) (ae (az 4 rfl) ao))) ao)))))))
  bY)
  (@ay _ _ _ _ _ (aR (gO 0 ku (hr.mono (by decide)) bc rfl rfl (ae (az 1 rfl) ao)))))))⟩,fun ds β h=>lR ds β h⟩
abbrev iA:Stmt:=top 51
theorem mn:aJ ["found","order","some","ring"] ["found","order","some"] (av iA):=⟨rfl,rfl,rfl,by decide +kernel,rfl,by decide +kernel,by decide +kernel⟩
theorem qB {f:Addr}{fd:FuncData}{cI c7 fo:List D->FR}(F:i5 K mg "_law_right" iA ["found","order","some"] f fd)(B:jg mg)(jd:cE P w K mg base ca "_law_is_ring" ["thing","order"] 4 cI)(jH:cE P w K mg base ca "_law_is_row" ["thing","many"] 2 c7)(lV:cE P w K mg base ca "_law_fits" ["order","row"] 1 fo):cE P w K mg base ca "_law_right" ["found","order","some"] 5 (bg 4 3 (iz cI c7 fo)):=
 ⟨⟨f,fd,F.mg,F.F.kp,F.b,aU (N:=["found","order","some","ring"]) (k:=4) F.F mn fun cdv A outer s H G E hr=>
  (@ak _ _ _ _ _ _ _ (cV (oY.t (iu (cR (b7 rfl (ic "tuple" (by decide) rfl rfl B.isinstance rfl B.tuple (by decide +kernel) (af 0)))) (ip (a9 (c9 hr.units) cO (a7 bO fS rfl B.len PySem.boot_len (af 0)) ar (aS _))) (fun _ _=>rfl)))
  (@ay _ _ _ _ _ (aR j9))
  bY)
  (@ak _ _ _ _ _ _ _ (cV (a9 (cv hr.units) cO (aQ aF bq (af 0) ar (fun _ _=>rfl)) mF (aS _))
  (@ak _ _ _ _ _ _ _ (aV (i:=3) (aQ aF bq (af 0) ar (fun _ _=>rfl)) mn.nd)
  (@ak _ _ _ _ _ _ _ (cV (oY.t (iu (cR (b7 rfl (aL jd (hr.mono (by decide)) bc rfl rfl (ae (az 3 rfl) (ae (az 1 rfl) ao))))) (ip (a9 (c9 hr.units) cO (wM rfl hr.units rfl rfl B.len rfl B.set (af 3)) (a7 bO fS rfl B.len PySem.boot_len (af 3)) (aS _))) (fun _ _=>rfl)))
  (@ay _ _ _ _ _ (aR j9))
  bY)
  (@ay _ _ _ _ _ (aR (cQ (cv hr.units) cO (cn (NB:=["turn","some"]) (own:=1) (ixs:=[2]) [] rfl (b5 (by kernel_rfl)) (fun _ _=>rfl) (lQ rfl (aQ aF bq (af 0) ar (fun _ _=>rfl))) (fun H0 G0 par br bx C ex s3 H3 pn=>(cq (i:=0) (show (["turn","some"]:List Str).Nodup by decide +kernel))) (fun H0 G0 par br bx C ex s3 H3 pn hB1=>(dR (a9 (dt hr.u1) nV (af 0) (af 1) (by with_unfolding_all rfl)))) (fun H0 G0 par br bx C ex s3 H3 pn hB1=>(az 0 (hB1 0 (by decide))))) (bC ao) (aS _))))))
  bY)
  (@ak _ _ _ _ _ _ _ (cV (oY.t (iu (a9 (c9 hr.units) cO (aQ aF bq (af 0) ar (fun _ _=>rfl)) mF (aS _)) (iu (cR (b7 rfl (aL jH (hr.mono (by decide)) bc rfl rfl (ae (aQ aF bq (af 0) ar (fun _ _=>rfl)) (ae (aQ aF bq (af 1) ar (fun _ _=>rfl)) ao))))) (ip (cR (b7 rfl (aL lV (hr.mono (by decide)) bc rfl rfl (ae (az 1 rfl) (ae (aQ aF bq (af 0) ar (fun _ _=>rfl)) ao)))))) (fun _ _=>rfl)) (fun _ _=>rfl)))
  (@ay _ _ _ _ _ (aR j9))
  bY)
  (@ay _ _ _ _ _ (aR (cQ (cv hr.units) cO (cn (NB:=["a","b","found"]) (own:=2) (ixs:=[0]) [] rfl (b5 (by kernel_rfl)) (fun _ _=>rfl) (lQ rfl (af 2)) (fun H0 G0 par br bx C ex s3 H3 pn=>(jL (i:=0) (j:=1) (show (["a","b","found"]:List Str).Nodup by decide +kernel))) (fun H0 G0 par br bx C ex s3 H3 pn hB2=>(dR (a9 B9 FL (gW rfl (aQ aF bq (af 2) ar (fun _ _=>rfl)) (af 1)) (gW rfl (aQ aF bq (af 2) ar (fun _ _=>rfl)) (af 0)) (aS _)))) (fun H0 G0 par br bx C ex s3 H3 pn hB2=>ar)) (bC ao) (aS _)))))))⟩,fun ds h=>aN ds h⟩
abbrev mB:Stmt:=top 52
theorem gk:aJ ["script","k","box","order","every","row","about","a","b","drawn","turn","some","handed","found"] ["script"] (av mB):=⟨rfl,rfl,rfl,by decide +kernel,rfl,by decide +kernel,by decide +kernel⟩
theorem C6 {f:Addr}{fd:FuncData}{fZ bJ dZ dE:List D->FR}{b6 gj aB:List D->Int->FB}(F:i5 K mg "law" mB ["script"] f fd)(B:jg mg)(mC:cE P w K mg base ca "_law_box" ["script","k"] 2 fZ)(dB:cE P w K mg base ca "_law_turns" ["order"] 2 bJ)(kL:cE P w K mg base ca "together" ["order","some"] 6 dZ)(kJ:cE P w K mg base ca "_law_right" ["found","order","some"] 5 dE)(gi:jY P w K mg base "_law_any_order" ["box","most"] 4 b6)(mM:jY P w K mg base "_law_row" ["box","order"] 2 gj)(aP:jY P w K mg base "_law_take" ["box","many"] 1 aB):gP P w K mg base (oZ P w) 7 f fd ["script"] (CJ K ca 1 (bg 14 1 (yF fZ bJ dZ dE b6 gj aB))):=
 aU (N:=["script","k","box","order","every","row","about","a","b","drawn","turn","some","handed","found"]) (k:=6) F.F gk fun cdv A outer s H G E hr=>
  (@ak _ _ _ _ _ _ _ (dO PassesOwn.leaving rfl (iS rfl B.range (vp (zX rfl) FC rfl B.max (by decide +kernel) ar (vp (zS rfl) GY rfl B.min (by decide +kernel) (a7 bO fS rfl B.len PySem.boot_len (af 0)) ar))) (cq (i:=1) gk.nd)
  (@ak _ _ _ _ _ _ _ (Dz (i:=2) rfl (Bs mC (hr.mono (by decide)) bc rfl rfl (ae (az 0 rfl) (ae (az 1 rfl) ao))) gk.nd)
  (@ak _ _ _ _ _ _ _ (aV (i:=3) (gO 2 gi (hr.mono (by decide)) bc rfl rfl (ae ar ao)) gk.nd)
  (@ak _ _ _ _ _ _ _ (aV (i:=4) (aL dB (hr.mono (by decide)) bc rfl rfl (ae (az 3 rfl) ao)) gk.nd)
  (@ak _ _ _ _ _ _ _ (aV (i:=5) (gO 2 mM (hr.mono (by decide)) bc rfl rfl (ae (az 3 rfl) ao)) gk.nd)
  (@ak _ _ _ _ _ _ _ (dS (i:=6) (bC ao) gk.nd)
  (@ak _ _ _ _ _ _ _ (dO PassesOwn.leaving rfl (Ao rfl (az 4 rfl)) (jL (i:=7) (j:=8) gk.nd)
  (@ay _ _ _ _ _ (cV (a9 u9 Cn (gW rfl (af 5) (af 8)) (gW rfl (af 5) (af 7)) (aS _))
  (@ay _ _ _ _ _ (fu 6 (fun _=>rfl) (cG (ae (az 7 rfl) (ae (az 8 rfl) ao)))))
  bY)))
  (@ak _ _ _ _ _ _ _ (dS (i:=9) (bC ao) gk.nd)
  (@ak _ _ _ _ _ _ _ (dO PassesOwn.leaving rfl (iS rfl B.range (bu jc jI (gO 2 aP (hr.mono (by decide)) bc rfl rfl (ae ar ao)) (g7 z0 Fy rfl B.int (by decide +kernel) (cQ (c9 hr.units) cO (af 4) (bC ao) (aS _))))) (cq (i:=10) gk.nd)
  (@ay _ _ _ _ _ (fu 9 (fun _=>rfl) (aQ aF bq (af 4) (gO 2 aP (hr.mono (by decide)) bc rfl rfl (ae (a7 bO fS rfl B.len PySem.boot_len (af 4)) ao)) (fun _ _=>rfl)))))
  (@ay _ _ _ _ _ (dO PassesOwn.leaving rfl (Ao rfl (@SE.wv _ _ _ _ _ _ (bC (ae (az 6 rfl) (ae (az 9 rfl) (ae (@SE.wv _ _ _ _ _ _ (bC ao)) (ae (az 4 rfl) (ae (@SE.wv _ _ _ _ _ _ (BM rfl (af 9) Ec (Ed ar))) ao)))))))) (cq (i:=11) gk.nd)
  (@ak _ _ _ _ _ _ _ (aV (i:=12) (@SE.wv _ _ _ _ _ _ (g7 m6 CA rfl B.list (by decide +kernel) (af 11))) gk.nd)
  (@ak _ _ _ _ _ _ _ (aV (i:=13) (aL kL (hr.mono (by decide)) bc rfl rfl (ae (az 3 rfl) (ae (az 12 rfl) ao))) gk.nd)
  (@ak _ _ _ _ _ _ _ (cV (oY.t (iu (cR (b7 rfl (aL kJ (hr.mono (by decide)) bc rfl rfl (ae (az 13 rfl) (ae (az 3 rfl) (ae (az 11 rfl) ao)))))) (ip (a9 (c9 hr.units) cO (af 12) (af 11) (aS _))) (fun _ _=>rfl)))
  (@ay _ _ _ _ _ (aR j9))
  bY)
  (@ay _ _ _ _ _ (cV (oY.t (iu (a9 (c9 hr.units) cO (aL kL (hr.mono (by decide)) bc rfl rfl (ae (az 3 rfl) (ae (az 12 rfl) ao))) (af 13) (aS _)) (ip (oY.t (qF (a9 (cv hr.units) cO (af 11) (af 6) (aS _)) (nE (a9 (c9 hr.units) cO (aQ aF bq (af 13) ar (fun _ _=>rfl)) mF (aS _))) (fun _ _=>rfl)))) (fun _ _=>rfl)))
  (@ay _ _ _ _ _ (aR j9))
  bY))))))))))))))))
  (@ay _ _ _ _ _ (aR j9)))
end
end RQ
namespace RO
open PySem L2
abbrev kK:Stmt:=RQ.fN
abbrev nG:Stmt:=RQ.top 13
abbrev Fn (K:Frag)(mg:Str->Option Value)(x:Str)(st:Stmt)(ps:List Str)(f:Addr)(fd:FuncData):Prop:=i5 K mg x st ps f fd
abbrev Bt (mg:Str->Option Value):Prop:=jg mg
end RO
section
namespace L2
open PySem PySem.Spec PyProof.Rows
section
variable {K:Frag}{H H':Hp}{a:Addr}
theorem aW.snoc {x y:Int}(q:gJ K H a [.int x,.int y]):∀{vs:List V} {ps:List (Int×Int)},aW K H vs ps->aW K H (vs ++ [.ref a]) (ps ++ [(x,y)])
 |_,_,.nil=>.cons ⟨a,rfl,q⟩ .nil
 |_,_,.cons r t=>.cons r (aW.snoc q t)
theorem aW.len {vs:List V}{ps:List (Int×Int)}(h:aW K H vs ps):vs.length=ps.length:=Paired.length h
theorem aW.same {vs:List V}{ps:List (Int×Int)}(h:aW K H vs ps)(s:ax H H'):aW K H' vs ps:=h.grow s.grow
theorem aW.at {vs:List V}{ps:List (Int×Int)}{i:Nat}{v:V}(h:aW K H vs ps)(e:vs[i]? =some v):∃p:Int×Int,ps[i]? =some p/\∃b,v=.ref b/\gJ K H b [.int p.1,.int p.2]:=Paired.getP h e
theorem ax.put {o:HO}(s:ax H H')(h:H a=none):ax H (L2.upd H' a o):=fun b u e=>by rw[aE (aO e h)];exact s b u e
end
end L2
namespace RO
open PySem L2
def By (N:List Str)(sc:Scope)(NB:List Str)(own:Nat)(ixs:List Nat)(scope:Scope):Bool:=
 decide (scope.kind=.function) && (scope.names.all fun y=>decide (y.2≠.cell)) && (scope.names.all fun y=>decide (scope.names.lookup y.1=some y.2)) &&
 (scope.names.all fun y=>decide (y.2=.free->(sc.names.lookup y.1=some .cell\/sc.names.lookup y.1=some .free))) && decide NB.Nodup && decide (NB.length=own + ixs.length) &&
 ((List.range ixs.length).all fun k=>decide (NB[own + k]? =N[ixs.getD k 0]?) && (match NB[own + k]? with |some x=>decide ((x,NameKind.free)∈scope.names) |none=>true))
theorem ou {X:Cx}{NB:List Str}{own:Nat}{ixs:List Nat}{scope:Scope}(h:By X.N X.env.scope NB own ixs scope=true):dz X NB own ixs scope:=by
 unfold By at h
 simp only[Bool.and_eq_true,all_eq_true,decide_eq_true_eq,mem_range] at h
 obtain⟨⟨⟨⟨⟨⟨h1,h2⟩,h3⟩,h4⟩,h5⟩,h6⟩,h7⟩:=h
 refine⟨h1,h2,h3,h4,h5,h6,fun k hk=>⟨(h7 k hk).1,fun x hx=>?_⟩⟩
 have:=(h7 k hk).2
 rw[hx] at this
 simpa using this
section
variable {X:Cx}{tg l:Expr}{tl:TE}{K:Frag}{H H1:Hp}{a:Addr}{xs:List V}{σ:St}
def J5 (K:Frag)(tl:TE):TI:=fun σ H R=>tl σ H fun x H1=>∃a xs,x=.ref a/\((hX K H1 a xs/\R (Ae K a) H1)\/(gJ K H1 a xs/\R (EB K a) H1))
end
theorem Kx (K:Frag){X:Cx}(h:X.K=K:=by rfl):Br X (Fw K):=by subst h;exact iE
theorem GI (K:Frag)(i j:Nat){X:Cx}{x y:Str}{px py pos:Pos}{k:Nat}(hN:X.N.Nodup)(hi:X.N[i]? =some x)(hj:X.N[j]? =some y)(hx:X.env.scope.names.lookup x=some .local)(hy:X.env.scope.names.lookup y=some .local)(hc:X.calm=true)(hK:X.K=K) :
  PG X (.Tuple [.Name x px,.Name y py] k pos) (Dy K 2 (p4 (mr i) (p4 (mr j) DD))):=by
 subst hK
 exact pU hc (dP (de hN hi (Or.inl hx) (Or.inr hx)) (dP (de hN hj (Or.inl hy) (Or.inr hy)) nF))
section
open PySem.Spec PyProof.Rows
variable {X:Cx}{tg l:Expr}{tl:TE}
theorem FI (hl:PE X l tl):PI X tg l (J5 X.K tl):=by
 intro pins s σ H R I h
 refine cS (hl pins s σ H _ I h) fun v s1 ⟨x,H1,I1,r1,q1⟩=>?_
 obtain⟨a,xs,e,q⟩:=q1
 subst e
 cases r1
 rcases q with⟨hq,q⟩ | ⟨hq,q⟩
 ·obtain⟨its,rv,p,hz⟩:=I1.list hq
  refine wpAny_pyIter_list p.isList ?_
  refine⟨s1.heap.objs.size,[s1.heap.objs.size],_,_,H1,rfl,I1.kept (t':=s1.toks) fun b o e=>Heap.get?_push_of_some _ e,oz a _,⟨_,Heap.get?_push_size _ rfl,rfl,rfl⟩,fun b hb=>?_,q⟩
  have e:b=s1.heap.objs.size:=by simpa using hb
  subst e
  exact I1.fpOk (Nat.le_refl _) (I1.hok.fresh (Nat.le_refl _))
 ·obtain⟨its,rv,p,hz⟩:=I1.tuple hq
  refine wpAny_pyIter_tuple (show s1.heap.IsTuple a its.toArray from p) ?_
  refine⟨s1.heap.objs.size,[s1.heap.objs.size],_,_,H1,rfl,I1.kept (t':=s1.toks) fun b o e=>Heap.get?_push_of_some _ e,pJ a _,⟨_,Heap.get?_push_size _ rfl,rfl,rfl⟩,fun b hb=>?_,q⟩
  have e:b=s1.heap.objs.size:=by simpa using hb
  subst e
  exact I1.fpOk (Nat.le_refl _) (I1.hok.fresh (Nat.le_refl _))
end
section
variable {K:Frag}{H H1 H':Hp}{a:Addr}{xs:List V}{σ:St}
abbrev HH (J:It)(g:TG)(tb:TS)(D:Ends)(σ:St)(H:Hp):Prop:=∃W:Nat->Nat->St->Hp->Prop,(∃m,W 0 m σ H)/\∀i m σ H,W i m σ H->
   (J.stop i H/\D.nx σ H)\/(J.go i H/\∃N:St->Hp->Prop,(∀σ' H',N σ' H'->∃m',m' < m/\W (i + 1) m' σ' H')/\∀x H',J.yld i H x H'->g x σ H' fun σ2 H2=>tb {D with nx:=N,ct:=N,bk:=D.nx} σ2 H2)
theorem DF (s:ax H1 H')(hq:hX K H1 a xs\/gJ K H1 a xs):hX K H' a xs\/gJ K H' a xs:=hq.elim (fun q=>.inl (s.seq q)) fun q=>.inr (q.grow s.grow)
theorem DC {g:TG}{tb:TS}{D:Ends}(hq:hX K H1 a xs\/gJ K H1 a xs)(Pv:Nat->St->Hp->Prop)(h0:Pv 0 σ H)(hl:∀i σ H',Pv i σ H'->ax H1 H')
  (hs:∀i x σ H,xs[i]? =some x->Pv i σ H->g x σ H fun σ2 H2=>tb {D with nx:=Pv (i + 1),ct:=Pv (i + 1),bk:=D.nx} σ2 H2) (hd:∀σ H,Pv xs.length σ H->D.nx σ H) :
  (hX K H a xs/\HH (Ae K a) g tb D σ H)\/(gJ K H a xs/\HH (EB K a) g tb D σ H):=
 hq.elim (fun q=>.inl ⟨(hl _ _ _ h0).seq q,vX Pv h0 (fun i σ H' _ p=>(hl i σ H' p).seq q) hs hd⟩) fun q=>.inr ⟨q.grow (hl _ _ _ h0).grow,Eg Pv h0 (fun i σ H' _ p=>q.grow (hl i σ H' p).grow) hs hd⟩
def y7 (J:It)(own:Nat)(ixs:List Nat)(g:TG)(tt:TT)(te:TE)(Q:VK)(D:Addr)(σ:St)(H:Hp):Prop:=∃W:Nat->Nat->St->Hp->Prop,(∃m,W 0 m (dH own ixs σ) (upd H D (.lst [])))/\∀i m σ' H',W i m σ' H'->
   (J.stop i H'/\(∃acc,H' D=some (.lst acc))/\Q (.ref D) H')\/
   (J.go i H'/\∃N:St->Hp->Prop,(∀σ2 H2,N σ2 H2->∃m',m' < m/\W (i + 1) m' σ2 H2)/\∀x H2,J.yld i H' x H2->fD g tt te D x σ' H2 N)
structure wc (own:Nat)(ixs:List Nat)(wi:TI)(g:TG)(tt:TT)(te:TE)(σ:St)(H:Hp)(Q:VK):Prop where
 out:wi σ H fun J H1=>∀D,H1 D=none->y7 J own ixs g tt te Q D σ H1
theorem wR {own:Nat}{ixs:List Nat}{wi:TI}{g:TG}{tt:TT}{te:TE}{Q:VK}(h:wi σ H fun J H1=>∀D,H1 D=none->y7 J own ixs g tt te Q D σ H1):wc own ixs wi g tt te σ H Q:=⟨h⟩
theorem tq {X:Cx}{NB:List Str}{own:Nat}{ixs:List Nat}{scope:Scope}{tg iter elt:Expr}{ifs:List Expr}{wi:TI}{g:TG}{tt:TT}{te:TE}{pos:Pos}(hc:X.calm=true)(S:dz X NB own ixs scope)(hi:PI X tg iter wi)
  (hg:∀C ex s3 H3 pn,PG (jN X NB scope C ex s3 H3 pn) tg g) (ht:∀C ex s3 H3 pn,Cb (jN X NB scope C ex s3 H3 pn) ifs tt) (he:∀C ex s3 H3 pn,PE (jN X NB scope C ex s3 H3 pn) elt te)
  (hs:∀x,foldedSetIterable iter X.env x=pure x:=by intro _;rfl):PE X (.ListComp elt [⟨tg,iter,ifs,0⟩] scope pos) (wc own ixs wi g tt te):=
 fun pins s σ H Q I h=>vm hc S hi hg ht he hs pins s σ H Q I h.out
section
variable {own:Nat}{ixs:List Nat}{g:TG}{tt:TT}{te:TE}{Q:VK}{D:Addr}
theorem Ek (Pv:Nat->St->Hp->Prop)(h0:Pv 0 (dH own ixs σ) (upd H D (.lst [])))(hl:∀i σ H,i<=xs.length->Pv i σ H->hX K H a xs)
  (hs:∀i x σ H,xs[i]? =some x->Pv i σ H->fD g tt te D x σ H (Pv (i + 1))) (hd:∀σ H,Pv xs.length σ H->(∃acc,H D=some (.lst acc))/\Q (.ref D) H):y7 (Ae K a) own ixs g tt te Q D σ H:=zW Pv h0 hl hs hd
theorem wg {lo:Int}{n:Nat}(Pv:Nat->St->Hp->Prop)(h0:Pv 0 (dH own ixs σ) (upd H D (.lst [])))
  (hs:∀i σ H,i < n->Pv i σ H->fD g tt te D (.int (lo + i)) σ H (Pv (i + 1))) (hd:∀σ H,Pv n σ H->(∃acc,H D=some (.lst acc))/\Q (.ref D) H):y7 (zE lo n) own ixs g tt te Q D σ H:=xT Pv h0 hs hd
end
theorem vK {i:Nat}{te:TE}{D:Addr}{x:V}{N:St->Hp->Prop}(h:te (σ.set i (some x)) H fun v H5=>∃acc,H5 D=some (.lst acc)/\acc.length < sizeLine/\N (σ.set i (some x)) (upd H5 D (.lst (acc ++ [v])))):fD (mr i) E2 te D x σ H N:=by
 unfold fD mr E2
 exact qW h
theorem AO {i j:Nat}{x y:V}{Q:St->Hp->Prop}(h:gJ K H a [x,y])(q:Q ((σ.set i (some x)).set j (some y)) H):Dy K 2 (p4 (mr i) (p4 (mr j) DD)) (.ref a) σ H Q:=⟨a,_,rfl,h,rfl,x,_,rfl,y,_,rfl,rfl,q⟩
theorem JL {c A B:Prop}[Decidable c](h:c)(a:A):if c then A else B:=by rw[if_pos h];exact a
theorem Jy {c A B:Prop}[Decidable c](h:¬c)(b:B):if c then A else B:=by rw[if_neg h];exact b
theorem take_snoc {α:Type}{l:List α}{i:Nat}{x:α}(h:l[i]? =some x):l.take (i + 1)=l.take i ++ [x]:=by
 rw[take_add_one,h];rfl
theorem take_all {α:Type}(l:List α):l.take l.length=l:=take_of_length_le (Nat.le_refl _)
end
theorem hG (n:Nat):(OM.cN n).length=n * n:=by unfold OM.cN;simp
theorem DW {n i:Nat}(h:i < n * n):(OM.cN n)[i]? =some (((i / n:Nat):Int),((i % n:Nat):Int)):=by
 unfold OM.cN
 rw[getElem?_map,getElem?_range h];rfl
theorem Ko {n:Nat}(h:n<=8):n * n<=64:=Nat.mul_le_mul h h
section
variable {P:Program}{w:World}{K:Frag}{mg:Str->Option Value}{base:Heap}
def yc (K:Frag):Sp:=fun vs H Q _=>∃n:Nat,vs= [.int n]/\1<=n/\n<=8/\∀H' l ws,ax H H'->H l=none->H' l=some (.lst ws)->aW K H' ws (OM.cN n)->Q (.ref l) H'
theorem DG:aJ ["many"] ["many"] (av kK):=⟨rfl,rfl,rfl,by decide +kernel,rfl,by decide +kernel,by decide +kernel⟩
theorem Iv:(["number","many"]:List Str).Nodup:=by decide +kernel
theorem Ck {f:Addr}{fd:FuncData}(F:Fn K mg "every_pair" kK ["many"] f fd)(B:Bt mg):gP P w K mg base E1 1 f fd ["many"] (yc K):=by
 refine F.F.ok DG (fun vs H Q E h=>?_) (fun cdv A outer s H vs Q E hr h=>?_)
 ·obtain⟨n,rfl,_⟩:=h;rfl
 ·obtain⟨n,rfl,h1,h8,k⟩:=h
  refine⟨_,jl (nW (tq (NB:=["number","many"]) (own:=1) (ixs:=[0]) rfl (ou (by kernel_rfl)) (l5 rfl B.range (aX (rX jc (pv 0) (pv 0)) bM))
   (fun C ex s3 H3 pn=>de (i:=0) Iv rfl (Or.inl rfl) (hf:=Or.inr rfl)) (fun C ex s3 H3 pn=>tM)
   (fun C ex s3 H3 pn=>xV (aX (rX m8 (pv 0) (pv 1)) (aX (rX mP (pv 0) (pv 1)) bM))))),?_⟩
  have hn:=Ko h8
  have e0:((n:Int) * (n:Int))=((n * n:Nat):Int):=by rw[Int.natCast_mul]
  refine wR ⟨_,rfl,_,rfl,_,_,rfl,rfl,.inl ⟨by omega,by omega⟩,_,rfl,by rw[e0];omega,by rw[e0];omega,fun D hD=>?_⟩
  rw[e0,Int.toNat_natCast]
  refine wg (fun i σ' H'=>(∃v,σ'= [v,some (.int n)])/\ax H H'/\∃vs,H' D=some (.lst vs)/\aW K H' vs ((OM.cN n).take i)) ⟨⟨none,rfl⟩,(ax.refl H).put hD,[],aC,.nil⟩ ?_ ?_
  ·rintro i σ' H' hi ⟨⟨v,rfl⟩,s1,vs,hv,hp⟩
   have hn0:(0:Int) < (n:Int):=by omega
   refine vK ⟨_,rfl,_,rfl,_,_,rfl,rfl,⟨hn0,by omega⟩,_,rfl,_,rfl,_,_,rfl,rfl,hn0,by show 2<=sizeLine;rw[sizeLine_eq];omega,fun p hp0=>?_⟩
   have hpD:D≠p:=aO hv hp0
   have hl:=hp.len
   refine⟨vs,by rw[aE hpD];exact hv,?_,⟨_,rfl⟩,?_,vs ++ [.ref p],aC,?_⟩
   ·rw[hl,length_take,sizeLine_eq];rw[hG];omega
   ·exact (s1.put (s1.free hp0)).put hD
   ·rw[take_snoc (DW hi)]
    have g1:iU H' (upd H' p (.tup [.int ((0 + (i:Int)) / n),.int ((0 + (i:Int)) % n)])):=iU.new hp0
    have g2:∀o,iU (upd H' p (.tup [.int ((0 + (i:Int)) / n),.int ((0 + (i:Int)) % n)])) (upd (upd H' p (.tup [.int ((0 + (i:Int)) / n),.int ((0 + (i:Int)) % n)])) D o):=fun o=>iU.list (by rw[aE hpD];exact hv)
    refine aW.snoc ?_ (hp.grow (g1.trans (g2 _)))
    refine (gJ.grow ?_ (g2 _))
    refine .inl (.inl ?_)
    rw[aC,Int.zero_add];rfl
  ·rintro σ' H' ⟨_,s1,vs,hv,hp⟩
   refine⟨⟨_,hv⟩,k H' D vs s1 hD hv ?_⟩
   rw[<-hG n,take_all] at hp
   exact hp
end
end RO
end
namespace RO
open PySem L2
structure TabAt (n:Nat)(M:OM.Tb)(L:Addr)(r:Nat->Addr)(H:Hp):Prop where
 top:H L=some (.lst ((List.range n).map fun i=>V.ref (r i)))
 row:∀i,i < n->H (r i)=some (.lst ((List.range n).map fun j=>V.bl (M i j)))
 inj:∀i j,i < n->j < n->r i=r j->i=j
 ne:∀i,i < n->r i≠L
theorem yO {n x:Nat}(h:x < n):qN n (x:Int)=some x:=by
 unfold qN;rw[if_pos (by omega),if_pos (by omega)];simp
theorem Gm {α:Type}{xs:List α}{x:Nat}(h:x < xs.length):jT xs (x:Int)=xs[x]?:=by
 unfold jT;rw[yO h];rfl
theorem gX {f:Nat->V}{n x:Nat}(h:x < n):jT ((List.range n).map f) (x:Int)=some (f x):=by
 rw[Gm (by simpa using h),getElem?_map,getElem?_range h];rfl
theorem rM {f:Nat->V}{n x:Nat}(h:x < n):qN ((List.range n).map f).length (x:Int)=some x:=by
 rw[length_map,length_range];exact yO h
theorem ze {f:Nat->V}{n y:Nat}{v:V}:((List.range n).map f).set y v=(List.range n).map fun j=>if j=y then v else f j:=by
 apply ext_getElem?
 intro i
 by_cases hi:i < n
 ·by_cases e:y=i
  ·subst e;simp[List.getElem?_set,hi]
  ·have e':¬i=y:=fun z=>e z.symm
   simp[List.getElem?_set,hi,e,e']
 ·rw[getElem?_eq_none (by simp;omega),getElem?_eq_none (by simp;omega)]
section
variable {n:Nat}{M:OM.Tb}{L:Addr}{r:Nat->Addr}{H H':Hp}
theorem TabAt.set (T:TabAt n M L r H){x y:Nat}(hx:x < n):TabAt n (M.set x y) L r (upd H (r x) (.lst (((List.range n).map fun j=>V.bl (M x j)).set y (.bl true)))):=by
 refine⟨by rw[aE (T.ne x hx).symm];exact T.top,fun i hi=>?_,T.inj,T.ne⟩
 by_cases e:i=x
 ·subst e
  rw[aC,ze]
  refine congrArg _ (congrArg _ (map_congr_left fun j _=>?_))
  unfold OM.Tb.set
  by_cases c:j=y
  ·simp[c]
  ·simp[c]
 ·rw[aE (fun z=>e (T.inj i x hi hx z)),T.row i hi]
  refine congrArg _ (congrArg _ (map_congr_left fun j _=>?_))
  unfold OM.Tb.set;simp[e]
theorem TabAt.same (T:TabAt n M L r H)(s:ax H H'):TabAt n M L r H':=⟨s _ _ T.top,fun i hi=>s _ _ (T.row i hi),T.inj,T.ne⟩
end
theorem uD {n:Nat}{ps:List (Int×Int)}(w:OM.Wn n ps){p:Int×Int}(h:p∈ps):∃u v:Nat,p=((u:Int),(v:Int))/\u < n/\v < n:=by
 obtain⟨x,y⟩:=p
 have q:=w _ h
 simp only at q
 exact⟨x.toNat,y.toNat,by rw[Int.toNat_of_nonneg q.1.1,Int.toNat_of_nonneg q.2.1],by omega,by omega⟩
theorem jG {M0 M:OM.Tb}{m:Nat}{D D':Nat->Nat->Prop}(P:OM.Phase M0 M m D)(h:∀a b,D a b↔D' a b):OM.Phase M0 M m D':=fun a b=>by rw[P a b,h a b]
theorem lX {l:List (Int×Int)}{u v a b:Nat}:(((a:Int),(b:Int))∈l\/(a=u/\b=v))↔((a:Int),(b:Int))∈l ++ [((u:Int),(v:Int))]:=by
 rw[mem_append,mem_singleton,Prod.mk.injEq]
 constructor
 ·rintro (h | ⟨h1,h2⟩)
  ·exact .inl h
  ·exact .inr ⟨by omega,by omega⟩
 ·rintro (h | ⟨h1,h2⟩)
  ·exact .inl h
  ·exact .inr ⟨by omega,by omega⟩
theorem Ea {M:OM.Tb}{u v a b:Nat}:M.set u v a b=true↔M a b=true\/(a=u/\b=v):=by
 unfold OM.Tb.set
 by_cases c:a=u/\b=v
 ·simp[c]
 ·rw[if_neg c];exact⟨.inl,fun h=>h.resolve_right c⟩
theorem Iz (n:Nat)(x:V):(List.replicate n [x]).flatten=(List.range n).map fun _=>x:=by
 rw[List.flatten_replicate_singleton,List.map_const',length_range]
section
variable {P:Program}{w:World}{K:Frag}{mg:Str->Option Value}{base:Heap}
def Co (K:Frag):Sp:=fun vs H Q _=>∃(n:Nat) (a:Addr) (xs:List V) (ps:List (Int×Int)),vs= [.int n,.ref a]/\1<=n/\n<=8/\(hX K H a xs\/gJ K H a xs)/\aW K H xs ps/\OM.Wn n ps/\
 ∀H' t ws,ax H H'->H t=none->H' t=some (.tup ws)->aW K H' ws (OM.bR n (OM.Tr (OM.Mem ps)))->Q (.ref t) H'
theorem hJ:aJ ["many","pairs","corners","leads","a","b","middle"] ["many","pairs"] (av nG):=⟨rfl,rfl,rfl,by decide +kernel,rfl,by decide +kernel,by decide +kernel⟩
theorem IA:(["start","many"]:List Str).Nodup:=by decide +kernel
theorem Gw:(["a","b","leads"]:List Str).Nodup:=by decide +kernel
set_option maxHeartbeats 1000000 in
theorem Ad {f g:Addr}{fd gd:FuncData}(F:Fn K mg "closed" nG ["many","pairs"] f fd)(G:Fn K mg "every_pair" kK ["many"] g gd)(GE:gP P w K mg base E1 1 g gd ["many"] (yc K))(B:Bt mg):gP P w K mg base E1 2 f fd ["many","pairs"] (Co K):=by
 refine F.F.ok hJ (fun vs H Q E h=>?_) (fun cdv A outer s H vs Q E hr h=>?_)
 ·obtain⟨n,a,xs,ps,rfl,_⟩:=h;rfl
 ·obtain⟨n,a,xs,ps,rfl,h1,h8,hq,hp,wn,k⟩:=h
  refine⟨_,iW (qD (i:=2) hJ.nd rfl (Or.inl rfl) (o6 GE hr rfl G.mg G.F.kp G.b .nil HE (aX (pv 0) bM)))
   (iW (qD (i:=3) hJ.nd rfl (Or.inr rfl) (tq (NB:=["start","many"]) (own:=1) (ixs:=[0]) rfl (ou (by kernel_rfl)) (l5 rfl B.range (aX (pv 0) bM))
    (fun C ex s3 H3 pn=>de (i:=0) IA rfl (Or.inl rfl) (hf:=Or.inr rfl)) (fun C ex s3 H3 pn=>tM) (fun C ex s3 H3 pn=>rX Bi (AL (aX yL bM)) (pv 1))))
   (iW (tK PassesOwn.never rfl (FI (pv 1)) (pU rfl (dP (de (i:=4) hJ.nd rfl (Or.inl rfl)) (dP (de (i:=5) hJ.nd rfl (Or.inl rfl)) nF)))
    (jl (pX yL (uK (my iE (pv 3) (pv 4) (fun _ _=>rfl)) (pv 5) set_list))))
   (iW (tK PassesOwn.never rfl (l5 rfl B.range (aX (pv 0) bM)) (de (i:=6) hJ.nd rfl (Or.inl rfl))
    (jl (tK PassesOwn.never rfl (yJ (pv 2)) (pU rfl (dP (de (i:=4) hJ.nd rfl (Or.inl rfl)) (dP (de (i:=5) hJ.nd rfl (Or.inl rfl)) nF)))
     (jl (EF (PW.pt (BS (wG (my iE (my iE (pv 3) (pv 4) (fun _ _=>rfl)) (pv 6) (fun _ _=>rfl))) (y0 (wG (my iE (my iE (pv 3) (pv 6) (fun _ _=>rfl)) (pv 5) (fun _ _=>rfl))))))
      (jl (pX yL (uK (my iE (pv 3) (pv 4) (fun _ _=>rfl)) (pv 5) set_list))) yS)))))
   (jl (nW (iO c5 rfl B.tuple (by decide +kernel) (aX (tq (NB:=["a","b","leads"]) (own:=2) (ixs:=[3]) rfl (ou (by kernel_rfl)) (yJ (pv 2))
    (fun C ex s3 H3 pn=>GI K 0 1 Gw rfl rfl rfl rfl rfl rfl)
    (fun C ex s3 H3 pn=>yD (wG (my (Kx K) (my (Kx K) (pv 2) (pv 0) (fun _ _=>rfl)) (pv 1) (fun _ _=>rfl)))) (fun C ex s3 H3 pn=>xV (aX (pv 0) (aX (pv 1) bM)))) bM))))))),?_⟩
  have hn:=Ko h8
  have hn0:(0:Int)<=(n:Int):=by omega
  refine⟨_,rfl,n,rfl,h1,h8,fun H1 c ws s1 hc0 hc hw=>?_⟩
  have hwl:ws.length=n * n:=by rw[hw.len,hG]
  have gw:OM.Wn n (OM.cN n):=fun p hp=>OM.bh.mp hp
  refine wR ?_
  refine⟨_,rfl,n,rfl,by omega,by omega,fun D hD=>?_⟩
  rw[Int.toNat_natCast]
  refine wg (fun i σ' H'=>(∃v,σ'= [v,some (.int n)])/\ax H1 H'/\∃r:Nat->Addr,H' D=some (.lst ((List.range i).map fun k=>V.ref (r k)))/\
   (∀k,k < i->H' (r k)=some (.lst ((List.range n).map fun _=>V.bl false))/\H1 (r k)=none/\r k≠D)/\∀j k,j < i->k < i->r j=r k->j=k)
   ?_ ?_ ?_
  ·exact⟨⟨none,rfl⟩,(ax.refl H1).put hD,fun _=>0,aC,fun k hk=>absurd hk (Nat.not_lt_zero _),fun j k hj=>absurd hj (Nat.not_lt_zero _)⟩
  ·rintro i σ' H' hi ⟨⟨v,rfl⟩,s2,r,hr0,hr1,hr2⟩
   refine vK ⟨by show 1<=sizeLine;rw[sizeLine_eq];omega,fun p hp0=>⟨_,rfl,p,n,[.bl false],rfl,rfl,aC,by omega,by omega,by show 1 * (n:Int).toNat<=sizeLine;rw[sizeLine_eq];omega,fun q hq0=>?_⟩⟩
   have hqp:q≠p:=by intro e;subst e;rw[aC] at hq0;cases hq0
   have hq1:H' q=none:=by rw[aE hqp] at hq0;exact hq0
   have hDp:D≠p:=aO hr0 hp0
   have hDq:D≠q:=aO hr0 hq1
   rw[Int.toNat_natCast,Iz]
   refine⟨_,by rw[aE hDq,aE hDp];exact hr0,by rw[length_map,length_range,sizeLine_eq];omega,⟨_,rfl⟩,((s2.put (s2.free hp0)).put (s2.free hq1)).put hD,fun k=>if k=i then q else r k,?_,fun k hk=>?_,fun j k hj hk e=>?_⟩
   ·have e:(List.range i).map (fun k=>V.ref (r k))=(List.range i).map (fun k=>V.ref (if k=i then q else r k)):=map_congr_left fun k hk=>by
     have:=mem_range.mp hk
     rw[if_neg (by omega)]
    rw[aC,List.range_succ,map_append,e]
    simp
   ·dsimp only
    by_cases e:k=i
    ·rw[if_pos e]
     exact⟨by rw[aE hDq.symm,aC],s2.free hq1,hDq.symm⟩
    ·rw[if_neg e]
     obtain⟨a1,a2,a3⟩:=hr1 k (by omega)
     exact⟨by rw[aE a3,aE (aO a1 hq1),aE (aO a1 hp0)];exact a1,a2,a3⟩
   ·dsimp only at e
    by_cases ej:j=i
    ·by_cases ek:k=i
     ·omega
     ·rw[if_pos ej,if_neg ek] at e
      exact absurd e.symm (aO (hr1 k (by omega)).1 hq1)
    ·by_cases ek:k=i
     ·rw[if_neg ej,if_pos ek] at e
      exact absurd e (aO (hr1 j (by omega)).1 hq1)
     ·rw[if_neg ej,if_neg ek] at e
      exact hr2 j k (by omega) (by omega) e
  rintro σ2 H2 ⟨_,s2,r,hr0,hr1,hr2⟩
  refine⟨⟨_,hr0⟩,?_⟩
  have sep:∀i,i < n->H1 (r i)=none:=fun i hi=>(hr1 i hi).2.1
  have T0:TabAt n (fun _ _=>false) D r H2:=⟨hr0,fun i hi=>(hr1 i hi).1,hr2,fun i hi=>(hr1 i hi).2.2⟩
  refine⟨_,rfl,a,xs,rfl,DC (H1:=H1) (DF s1 hq) (fun i σ' H'=>(∃x y,σ'= [some (.int n),some (.ref a),some (.ref c),some (.ref D),x,y,none])/\ax H1 H'/\∃M,TabAt n M D r H'/\∀u v:Nat,M u v=true↔((u:Int),(v:Int))∈ps.take i)
   ⟨⟨none,none,rfl⟩,s2,_,T0,fun u v=>by simp⟩ (fun i σ' H' q=>q.2.1) ?_ ?_⟩
  ·rintro i x σ' H' hx ⟨⟨_,_,rfl⟩,s3,M,T,hM⟩
   obtain⟨p,hpi,b,rfl,hb⟩:=(hp.same (s1.trans s3)).at hx
   obtain⟨u,v,rfl,hu,hv⟩:=uD wn (mem_of_getElem? hpi)
   refine AO hb ?_
   refine⟨_,rfl,_,rfl,D,_,u,_,rfl,rfl,.inl (.inl T.top),gX hu,_,rfl,r u,_,v,v,rfl,rfl,T.row u hu,rM hv,⟨_,_,rfl⟩,s3.put (sep u hu),_,T.set hu,fun x y=>?_⟩
   rw[take_snoc hpi,<-lX,Ea,hM]
  rintro σ3 H3 ⟨⟨x3,y3,rfl⟩,s3,M3,T3,hM3⟩
  rw[hp.len,take_all] at hM3
  refine⟨_,rfl,n,rfl,by omega,by omega,?_⟩
  rw[Int.toNat_natCast]
  refine Ac (fun m σ' H'=>(∃x y z,σ'= [some (.int n),some (.ref a),some (.ref c),some (.ref D),x,y,z])/\ax H1 H'/\∃M,TabAt n M D r H'/\OM.Tab n ps M/\OM.Dp M m)
   ⟨⟨_,_,_,rfl⟩,s3,M3,T3,⟨fun a b h=>by have:=wn _ ((hM3 a b).mp h);simp only at this;omega,fun a b h=>(hM3 a b).mpr h,fun a b h=>.one ((hM3 a b).mp h)⟩,fun k a b hk=>absurd hk (Nat.not_lt_zero _)⟩ ?_ ?_
  ·rintro m σ' H' hm ⟨⟨_,_,_,rfl⟩,s4,M,T,TT,Th⟩
   rw[Int.zero_add]
   refine⟨_,rfl,c,rfl,⟨ws,.inl (.inl (s4 _ _ hc))⟩,vX (xs:=ws) (fun i σ' H'=>(∃x y,σ'= [some (.int n),some (.ref a),some (.ref c),some (.ref D),x,y,some (.int m)])/\ax H1 H'/\∃M',TabAt n M' D r H'/\OM.Phase M M' m fun u v=>((u:Int),(v:Int))∈(OM.cN n).take i)
    ⟨⟨_,_,rfl⟩,s4,M,T,jG (OM.Phase.start M m) fun a b=>by simp⟩ (fun i σ' H' _ q=>.inl (.inl (q.2.1 _ _ hc))) ?_ ?_⟩
   ·rintro i x σ' H' hx ⟨⟨_,_,rfl⟩,s5,M',T',Ph⟩
    obtain⟨p,hpi,b,rfl,hb⟩:=(hw.same s5).at hx
    obtain⟨u,v,rfl,hu,hv⟩:=uD gw (mem_of_getElem? hpi)
    refine AO hb ?_
    have st:=Ph.step u v
    refine⟨_,rfl,_,rfl,D,_,u,_,rfl,rfl,.inl (.inl T'.top),gX hu,_,rfl,r u,_,m,_,rfl,rfl,.inl (.inl (T'.row u hu)),gX hm,_,rfl,?_⟩
    by_cases c1:M' u m=true
    ·refine JL c1 ?_
     refine⟨_,rfl,_,rfl,D,_,m,_,rfl,rfl,.inl (.inl T'.top),gX hm,_,rfl,r m,_,v,_,rfl,rfl,.inl (.inl (T'.row m hm)),gX hv,_,rfl,?_⟩
     by_cases c2:M' m v=true
     ·refine JL c2 ?_
      rw[if_pos ⟨c1,c2⟩] at st
      refine⟨_,rfl,_,rfl,D,_,u,_,rfl,rfl,.inl (.inl T'.top),gX hu,_,rfl,r u,_,v,v,rfl,rfl,T'.row u hu,rM hv,⟨_,_,rfl⟩,s5.put (sep u hu),_,T'.set hu,jG st fun a b=>?_⟩
      rw[take_snoc hpi];exact lX
     ·refine Jy c2 ?_
      rw[if_neg fun z=>c2 z.2] at st
      refine⟨⟨_,_,rfl⟩,s5,_,T',jG st fun a b=>?_⟩
      rw[take_snoc hpi];exact lX
    ·refine Jy c1 ?_
     rw[if_neg fun z=>c1 z.1] at st
     refine qX ⟨⟨_,_,rfl⟩,s5,_,T',jG st fun a b=>?_⟩
     rw[take_snoc hpi];exact lX
   ·rintro σ' H' ⟨⟨_,_,rfl⟩,s5,M',T',Ph⟩
    rw[hw.len,take_all] at Ph
    have dn:=Ph.done (n:=n) (fun a b ha hb=>OM.bh.mpr ⟨⟨by simp,by simp;omega⟩,by simp,by simp;omega⟩) TT.inn Th
    exact⟨⟨_,_,_,rfl⟩,s5,M',T',TT.phase Ph,dn.1⟩
  rintro σ4 H4 ⟨⟨x4,y4,z4,rfl⟩,s4,M,T,TT,Th⟩
  refine wR ⟨_,rfl,c,rfl,⟨ws,.inl (.inl (s4 _ _ hc))⟩,fun D' hD'=>Ek (xs:=ws) (fun i σ' H'=>(∃x y,σ'= [x,y,some (.ref D)])/\ax H4 H'/\∃vs,H' D'=some (.lst vs)/\aW K H' vs (((OM.cN n).take i).filter fun p=>M p.1.toNat p.2.toNat))
   ⟨⟨_,_,rfl⟩,(ax.refl H4).put hD',[],aC,.nil⟩ (fun i σ' H' _ q=>.inl (.inl (q.2.1 _ _ (s4 _ _ hc)))) ?_ ?_⟩
  ·rintro i x σ' H' hx ⟨⟨_,_,rfl⟩,s5,vs,hv,hpv⟩
   obtain⟨p,hpi,b,rfl,hb⟩:=(hw.same (s4.trans s5)).at hx
   obtain⟨u,v,rfl,hu,hv'⟩:=uD gw (mem_of_getElem? hpi)
   refine AO hb ?_
   have T':=T.same s5
   refine⟨_,rfl,_,rfl,D,_,u,_,rfl,rfl,.inl (.inl T'.top),gX hu,_,rfl,r u,_,v,_,rfl,rfl,.inl (.inl (T'.row u hu)),gX hv',_,rfl,?_⟩
   by_cases c1:M u v=true
   ·refine JL c1 ?_
    refine⟨_,rfl,_,rfl,by show 2<=sizeLine;rw[sizeLine_eq];omega,fun p hp0=>?_⟩
    have hpD:D'≠p:=aO hv hp0
    refine⟨vs,by rw[aE hpD];exact hv,?_,⟨_,_,rfl⟩,(s5.put (s5.free hp0)).put hD',_,aC,?_⟩
    ·rw[hpv.len]
     refine Nat.lt_of_le_of_lt (length_filter_le ..) ?_
     rw[length_take,hG,sizeLine_eq];omega
    ·rw[take_snoc hpi,List.filter_append,List.filter_cons_of_pos (by simpa using c1),List.filter_nil]
     have g1:iU H' (upd H' p (.tup [.int u,.int v])):=iU.new hp0
     have g2:∀o,iU (upd H' p (.tup [.int u,.int v])) (upd (upd H' p (.tup [.int u,.int v])) D' o):=fun o=>iU.list (by rw[aE hpD];exact hv)
     refine aW.snoc ?_ (hpv.grow (g1.trans (g2 _)))
     exact gJ.grow (.inl (.inl aC)) (g2 _)
   ·refine Jy c1 ?_
    refine⟨⟨_,_,rfl⟩,s5,vs,hv,?_⟩
    rw[take_snoc hpi,List.filter_append,List.filter_cons_of_neg (by simpa using c1),List.filter_nil,append_nil]
    exact hpv
  ·rintro σ' H' ⟨_,s5,vs,hv,hpv⟩
   rw[hw.len,take_all] at hpv
   refine⟨⟨_,hv⟩,D',vs,rfl,.inl ⟨.inl (.inl hv),fun t ht=>?_⟩⟩
   have sA:ax H H':=(s1.trans s4).trans s5
   refine k _ t vs (sA.put (sA.free ht)) (sA.free ht) aC ?_
   have e:((OM.cN n).filter fun p=>M p.1.toNat p.2.toNat)=OM.bR n (OM.Tr (OM.Mem ps)):=by
    unfold OM.bR
    refine filter_congr fun p hp=>?_
    obtain⟨u,v,rfl,hu,hv⟩:=uD gw hp
    have:=TT.all wn Th u v
    simp only[Int.toNat_natCast]
    rw[Bool.eq_iff_iff,this]
    simp
   rw[e] at hpv
   exact hpv.grow (iU.new ht)
end
end RO
namespace RO
open PySem L2 RM
section
variable {P:Program}{w:World}{K:Frag}{mg:Str->Option Value}{base:Heap}{ca:Str->Addr}
theorem KH {k:Nat}{f:Addr}{fd:FuncData}{ps:List Str}{sp:Sp}(F:gP P w K mg base E1 k f fd ps sp):gP P w K mg base (oZ P w) k f fd ps sp:=
 ⟨F.len,fun A outer s H args us vs Q E hr he hb hv hs=>codeAny_mono (F.run A outer s H args us vs Q E hr he hb hv hs) fun r s' h=>by
  cases r with
  |ok x=>cases x <;> exact h
  |error e=>exact h.elim⟩
theorem wN {G H:Hp}(s:ax G H){ws:List V}{ps:List Pr}(h:aW K H ws ps):aW K (mH G H) ws ps:=Paired.mapP h fun v p ⟨a,e,q⟩=>⟨a,e,ng s q⟩
theorem pH {ds:List D}(h:du ds≠.bad):∃(n:Nat) (d:D) (ps:List Pr),ds= [.int n,d]/\ji d=some (ps.map aq)/\1<=n/\n<=8/\OM.Wn n ps/\du ds=.ok (.tuple ((OM.bR n (OM.Tr (OM.Mem ps))).map aq)) false:=by
 unfold du at h
 split at h
 ·rename_i n d
  cases q:ji d with
  |none=>rw[q] at h;exact absurd rfl h
  |some es=>
   rw[q] at h
   dsimp only at h
   cases q2:eB es with
   |none=>rw[q2] at h;exact absurd rfl h
   |some ps=>
    rw[q2] at h
    dsimp only at h
    by_cases c:1<=n/\n<=8/\OM.Wn n.toNat ps
    ·have e:((n.toNat:Nat):Int)=n:=by omega
     refine⟨n.toNat,d,ps,by rw[e],by rw[q,iN q2],by omega,by omega,c.2.2,?_⟩
     unfold du
     dsimp only
     rw[q]
     dsimp only
     rw[q2]
     dsimp only
     rw[if_pos c]
    ·rw[if_neg c] at h;exact absurd rfl h
 ·exact absurd rfl h
theorem xY {f g:Addr}{fd gd:FuncData}(F:i5 K mg "closed" nG ["many","pairs"] f fd)(E:i5 K mg "every_pair" kK ["many"] g gd)(B:jg mg):cE P w K mg base ca "closed" ["many","pairs"] 3 du:=by
 refine⟨⟨f,fd,F.mg,F.F.kp,F.b,((KH (Ad F E (Ck E B) B)).mono (by decide)).imp ?_⟩,fun ds h=>?_⟩
 ·rintro vs H Q X ⟨G,ds,s,hl,r,h⟩
  have hb:du ds≠.bad:=fun z=>by rw[z] at h;exact h
  obtain⟨n,d,ps,rfl,hd,h1,h8,wn,e⟩:=pH hb
  rw[e] at h
  cases r with
  |cons r1 r=>
   cases r with
   |cons r2 r=>
    cases r
    cases r1
    obtain⟨a,xs,rfl,hq,hr⟩:=(mV.seq (B:=none) (G:=G) (H:=G) (.inl r2) hd (ax.refl _))
    refine⟨n,a,xs,ps,rfl,h1,h8,hq.elim (fun q=>.inl (s.seq q)) (fun q=>.inr (q.grow s.grow)),(hr.pairs).grow s.grow,wn,fun H' t ws hh ht ht' hp=>?_⟩
    have s2:=s.trans hh
    refine h (.ref t) (mH G H') H' hh sM (wz s2) (fun b m hb=>by rw[yU hh m];exact hb) ?_
    exact .tup (ng s2 (.inl (.inl ht'))) (aW.rps (wN s2 hp))
 ·obtain⟨n,d,ps,rfl,_⟩:=pH h
  rfl
end
end RO
section
namespace RO
open PySem L2 RM
def yH (K:Frag):Sp:=fun vs H Q _=>∃(a:Addr) (ns:List Int),vs= [.ref a]/\hX K H a (ns.map V.int)/\∀H',ax H H'->Q (.bl true) H'
theorem GR {K:Frag}{ca:Str->Addr}(vs:List V)(H:Hp)(Q:VK)(E:XK)(h:yH K vs H Q E):CJ K ca 1 Fg vs H Q E:=by
 obtain⟨a,ns,rfl,hS,q⟩:=h
 refine⟨H,[cM ns],ax.refl _,rfl,.cons (.scr hS) .nil,?_⟩
 rw[HM]
 intro v G' H' s1 s2 s3 s4 fv
 have fv:Rp K G' v (.bool true):=fv
 cases fv
 exact q H' s1
theorem xq:aZ "is_whole" RQ.kP ["thing"]:=fun _ _ _ _ _ _=>Ai fun _=>rfl
theorem wU:aZ "is_below" RQ.km ["thing","bound"]:=fun _ _ _ _ _ _=>ln2 fun _ _=>rfl
theorem zL:aZ "is_many" RQ.l8 ["thing"]:=fun _ _ _ _ _ _=>Ai fun _=>rfl
theorem zv:aZ "is_pair" RQ.l6 ["thing","many"]:=fun _ _ _ _ _ _=>ln2 fun _ _=>rfl
theorem uI:aZ "every_pair" RQ.fN ["many"]:=fun _ _ _ _ _ _=>Ai fun _=>rfl
theorem BW:aZ "closed" nG ["many","pairs"]:=fun _ _ _ _ _ _=>ln2 fun _ _=>rfl
theorem wK:aZ "has_ring" RQ.kC ["pairs"]:=fun _ _ _ _ _ _=>Ai fun _=>rfl
theorem xw:aZ "is_order" RQ.kl ["thing"]:=fun _ _ _ _ _ _=>Ai fun _=>rfl
theorem uj:aZ "need_order" RQ.iy ["thing"]:=fun _ _ _ _ _ _=>Ai fun _=>rfl
theorem ve:aZ "are_apart" RQ.jv ["order","a","b"]:=fun _ _ _ _ _ _=>GF fun _ _ _=>rfl
theorem tO:aZ "with_thing" RQ.iC ["placed","thing"]:=fun _ _ _ _ _ _=>ln2 fun _ _=>rfl
theorem rb:aZ "masks_ahead" RQ.gM ["order"]:=fun _ _ _ _ _ _=>Ai fun _=>rfl
theorem rF:aZ "free_things" RQ.gC ["masks","placed"]:=fun _ _ _ _ _ _=>ln2 fun _ _=>rfl
theorem vg:aZ "row_along" RQ.jA ["masks","late"]:=fun _ _ _ _ _ _=>ln2 fun _ _=>rfl
theorem zz:aZ "is_turn" RQ.l0 ["thing","order"]:=fun _ _ _ _ _ _=>ln2 fun _ _=>rfl
theorem uZ:aZ "are_turns" RQ.jx ["thing","order"]:=fun _ _ _ _ _ _=>ln2 fun _ _=>rfl
theorem xI:aZ "leads_on" RQ.k6 ["order","turn","other"]:=fun _ _ _ _ _ _=>GF fun _ _ _=>rfl
theorem wO:aZ "is_ahead" RQ.kQ ["masks","a","b"]:=fun _ _ _ _ _ _=>GF fun _ _ _=>rfl
theorem uY:aZ "is_barred" RQ.jt ["masks","turn"]:=fun _ _ _ _ _ _=>ln2 fun _ _=>rfl
theorem xm:aZ "put_turn" RQ.k8 ["masks","turn"]:=fun _ _ _ _ _ _=>ln2 fun _ _=>rfl
theorem vk:aZ "ring_with" RQ.jn ["order","put","turn"]:=fun _ _ _ _ _ _=>GF fun _ _ _=>rfl
theorem xP:aZ "together" RQ.kT ["order","some"]:=fun _ _ _ _ _ _=>ln2 fun _ _=>rfl
theorem vB:aZ "_law_cell" RQ.jq ["script","k"]:=fun _ _ _ _ _ _=>ln2 fun _ _=>rfl
theorem xM:aZ "_law_mix" RQ.gr ["cell","k"]:=fun _ _ _ _ _ _=>ln2 fun _ _=>rfl
theorem xU:aZ "_law_box" RQ.kF ["script","k"]:=fun _ _ _ _ _ _=>ln2 fun _ _=>rfl
theorem uX:aZ "_law_take" RQ.ju ["box","many"]:=fun _ _ _ _ _ _=>ln2 fun _ _=>rfl
theorem sW:aZ "_law_whole" RQ.iK ["thing"]:=fun _ _ _ _ _ _=>Ai fun _=>rfl
theorem o4:aZ "_law_mixed_up" RQ.dW ["box","some"]:=fun _ _ _ _ _ _=>ln2 fun _ _=>rfl
theorem rf:aZ "_law_closed" RQ.gF ["pairs"]:=fun _ _ _ _ _ _=>Ai fun _=>rfl
theorem uG:aZ "_law_order" RQ.iF ["box","most"]:=fun _ _ _ _ _ _=>ln2 fun _ _=>rfl
theorem sP:aZ "_law_apart" RQ.iH ["order","a","b"]:=fun _ _ _ _ _ _=>GF fun _ _ _=>rfl
theorem ug:aZ "_law_turns" RQ.iG ["order"]:=fun _ _ _ _ _ _=>Ai fun _=>rfl
theorem we:aZ "_law_fits" RQ.jk ["order","row"]:=fun _ _ _ _ _ _=>ln2 fun _ _=>rfl
theorem xB:aZ "_law_row" RQ.kx ["box","order"]:=fun _ _ _ _ _ _=>ln2 fun _ _=>rfl
theorem rA:aZ "_law_is_row" RQ.gB ["thing","many"]:=fun _ _ _ _ _ _=>ln2 fun _ _=>rfl
theorem uR:aZ "_law_told" RQ.jz ["many","rows"]:=fun _ _ _ _ _ _=>ln2 fun _ _=>rfl
theorem pM:aZ "_law_is_turn" RQ.fE ["order","thing"]:=fun _ _ _ _ _ _=>ln2 fun _ _=>rfl
theorem td:aZ "_law_leads" RQ.iL ["order","one","other"]:=fun _ _ _ _ _ _=>GF fun _ _ _=>rfl
theorem qI:aZ "_law_is_ring" RQ.fA ["thing","order"]:=fun _ _ _ _ _ _=>ln2 fun _ _=>rfl
theorem ud:aZ "_law_crown" RQ.iJ ["box"]:=fun _ _ _ _ _ _=>Ai fun _=>rfl
theorem oq:aZ "_law_any_order" RQ.dJ ["box","most"]:=fun _ _ _ _ _ _=>ln2 fun _ _=>rfl
theorem uv:aZ "_law_right" RQ.iA ["found","order","some"]:=fun _ _ _ _ _ _=>GF fun _ _ _=>rfl
theorem all_mk {l:PySem.W.OpenLaw}{w:World}{K:Frag}{h:Heap}{mg:Str->Option Value}{fa f43 x0 x1:Addr}(X:K.In h)(G:h.Ns mainGlobals mg)(hfa:mg "law"=some (.ref fa))
  {od43 an43:Option Addr} {sl43:Array (Option Value)} {oc43 kV43 dc43 pm43 cd43 ct43:Value} {tMOST_THINGS:Tok}
  (F1:Fo K mg "is_whole" RQ.kP ["thing"])
  (F2:Fo K mg "is_below" RQ.km ["thing","bound"])
  (F3:Fo K mg "is_many" RQ.l8 ["thing"])
  (F4:Fo K mg "is_pair" RQ.l6 ["thing","many"])
  (F5:Fo K mg "every_pair" RQ.fN ["many"])
  (F6:Fo K mg "closed" nG ["many","pairs"])
  (F7:Fo K mg "has_ring" RQ.kC ["pairs"])
  (F8:Fo K mg "is_order" RQ.kl ["thing"])
  (F9:Fo K mg "need_order" RQ.iy ["thing"])
  (F10:Fo K mg "are_apart" RQ.jv ["order","a","b"])
  (F11:Fo K mg "with_thing" RQ.iC ["placed","thing"])
  (F12:Fo K mg "masks_ahead" RQ.gM ["order"])
  (F13:Fo K mg "free_things" RQ.gC ["masks","placed"])
  (F14:Fo K mg "row_along" RQ.jA ["masks","late"])
  (F15:Fo K mg "is_turn" RQ.l0 ["thing","order"])
  (F16:Fo K mg "are_turns" RQ.jx ["thing","order"])
  (F17:Fo K mg "leads_on" RQ.k6 ["order","turn","other"])
  (F18:Fo K mg "is_ahead" RQ.kQ ["masks","a","b"])
  (F19:Fo K mg "is_barred" RQ.jt ["masks","turn"])
  (F20:Fo K mg "put_turn" RQ.k8 ["masks","turn"])
  (F21:Fo K mg "ring_with" RQ.jn ["order","put","turn"])
  (F22:Fo K mg "together" RQ.kT ["order","some"])
  (F23:Fo K mg "_law_cell" RQ.jq ["script","k"])
  (F24:Fo K mg "_law_mix" RQ.gr ["cell","k"])
  (F25:Fo K mg "_law_box" RQ.kF ["script","k"])
  (F26:Fo K mg "_law_take" RQ.ju ["box","many"])
  (F27:Fo K mg "_law_whole" RQ.iK ["thing"])
  (F28:Fo K mg "_law_mixed_up" RQ.dW ["box","some"])
  (F29:Fo K mg "_law_closed" RQ.gF ["pairs"])
  (F30:Fo K mg "_law_order" RQ.iF ["box","most"])
  (F31:Fo K mg "_law_apart" RQ.iH ["order","a","b"])
  (F32:Fo K mg "_law_turns" RQ.iG ["order"])
  (F33:Fo K mg "_law_fits" RQ.jk ["order","row"])
  (F34:Fo K mg "_law_row" RQ.kx ["box","order"])
  (F35:Fo K mg "_law_is_row" RQ.gB ["thing","many"])
  (F36:Fo K mg "_law_told" RQ.jz ["many","rows"])
  (F37:Fo K mg "_law_is_turn" RQ.fE ["order","thing"])
  (F38:Fo K mg "_law_leads" RQ.iL ["order","one","other"])
  (F39:Fo K mg "_law_is_ring" RQ.fA ["thing","order"])
  (F40:Fo K mg "_law_crown" RQ.iJ ["box"])
  (F41:Fo K mg "_law_any_order" RQ.dJ ["box","most"])
  (F42:Fo K mg "_law_right" RQ.iA ["found","order","some"])
  (a43:PySem.W.nsIn K mainGlobals "law"=some (some (.ref f43))) (l43:K.lookup f43=some ⟨oc43,od43,.func (PySem.W.fnOf "law" "law" (jo RQ.mB) (df RQ.mB) (av RQ.mB) .none kV43 dc43 pm43 an43 cd43 ct43),sl43⟩) (c43:PySem.W.codeIn K cd43 "law"=true) (k43:PySem.W.keepIn K (.ref f43)=true)
  (zB:JG K=true)
  (yMOST_THINGS:PySem.W.nsIn K mainGlobals "MOST_THINGS"=some (some (.int 8 tMOST_THINGS)))
  (m0:PySem.W.nsIn K mainGlobals "NoOrder"=some (some (.ref x0)))
  (e0:PySem.W.excIn K x0 [.type "ValueError",.type "Exception",.type "BaseException",.type "object"] "ValueError.__new__"=true)
  (m1:PySem.W.nsIn K mainGlobals "NoTurns"=some (some (.ref x1)))
  (e1:PySem.W.excIn K x1 [.type "ValueError",.type "Exception",.type "BaseException",.type "object"] "ValueError.__new__"=true)
  :∃fd:FuncData,(∀(s:Shared) (v:Value),BindsTo s fd ⟨[v],[]⟩ [("script",v)])/\∀base:Heap,K.In base->base.Ns mainGlobals mg->gP l.prog w K mg base (oZ l.prog w) 7 fa fd ["script"] (yH K):=by
 have e:=hfa.symm.trans (PySem.W.mg_of X G a43)
 cases e
 have B:jg mg:=Hm X G zB
 have jO:=PySem.W.mg_of X G yMOST_THINGS
 obtain⟨f1,d1,cm⟩:=F1.ex
 obtain⟨f2,d2,eM⟩:=F2.ex
 obtain⟨f3,d3,iQ⟩:=F3.ex
 obtain⟨f4,d4,cw⟩:=F4.ex
 obtain⟨f5,d5,m9⟩:=F5.ex
 obtain⟨f6,d6,jW⟩:=F6.ex
 obtain⟨f7,d7,gf⟩:=F7.ex
 obtain⟨f8,d8,gq⟩:=F8.ex
 obtain⟨f9,d9,dM⟩:=F9.ex
 obtain⟨f10,d10,eV⟩:=F10.ex
 obtain⟨f11,d11,aH⟩:=F11.ex
 obtain⟨f12,d12,c8⟩:=F12.ex
 obtain⟨f13,d13,cZ⟩:=F13.ex
 obtain⟨f14,d14,fg⟩:=F14.ex
 obtain⟨f15,d15,iP⟩:=F15.ex
 obtain⟨f16,d16,fm⟩:=F16.ex
 obtain⟨f17,d17,eR⟩:=F17.ex
 obtain⟨f18,d18,b9⟩:=F18.ex
 obtain⟨f19,d19,fq⟩:=F19.ex
 obtain⟨f20,d20,fW⟩:=F20.ex
 obtain⟨f21,d21,fw⟩:=F21.ex
 obtain⟨f22,d22,dZ⟩:=F22.ex
 obtain⟨f23,d23,eT⟩:=F23.ex
 obtain⟨f24,d24,gu⟩:=F24.ex
 obtain⟨f25,d25,fZ⟩:=F25.ex
 obtain⟨f26,d26,aB⟩:=F26.ex
 obtain⟨f27,d27,bI⟩:=F27.ex
 obtain⟨f28,d28,aM⟩:=F28.ex
 obtain⟨f29,d29,c6⟩:=F29.ex
 obtain⟨f30,d30,dD⟩:=F30.ex
 obtain⟨f31,d31,dA⟩:=F31.ex
 obtain⟨f32,d32,bJ⟩:=F32.ex
 obtain⟨f33,d33,fo⟩:=F33.ex
 obtain⟨f34,d34,gj⟩:=F34.ex
 obtain⟨f35,d35,c7⟩:=F35.ex
 obtain⟨f36,d36,fj⟩:=F36.ex
 obtain⟨f37,d37,cK⟩:=F37.ex
 obtain⟨f38,d38,dF⟩:=F38.ex
 obtain⟨f39,d39,cI⟩:=F39.ex
 obtain⟨f40,d40,dG⟩:=F40.ex
 obtain⟨f41,d41,b6⟩:=F41.ex
 obtain⟨f42,d42,dE⟩:=F42.ex
 have U43:=xX (st:=RQ.mB) l43 c43 k43
 have Hd:i5 K mg "law" RQ.mB ["script"] fa _:=⟨PySem.W.mg_of X G a43,U43,U43.binds (ps:=["script"]) fun _ _ _ _ _ _=>Ai fun _=>rfl⟩
 obtain⟨ca,hca⟩:∃ca:Str->Addr,ca "NoOrder"=x0/\ca "NoTurns"=x1:=⟨fun s=>if s="NoOrder" then x0 else if s="NoTurns" then x1 else 0,by first |rfl |decide |simp,by first |rfl |decide |simp⟩
 have ke:Exc K mg ca "NoOrder":=⟨by rw[hca.1];exact PySem.W.mg_of X G m0,by rw[hca.1];exact e0⟩
 have jV:Exc K mg ca "NoTurns":=⟨by rw[hca.2];exact PySem.W.mg_of X G m1,by rw[hca.2];exact e1⟩
 refine⟨PySem.W.fnOf "law" "law" (jo RQ.mB) (df RQ.mB) (av RQ.mB) .none kV43 dc43 pm43 an43 cd43 ct43,fun s v=>.of_eq rfl,fun base _ _=>?_⟩
 have gx:=(RQ.tZ (P:=l.prog) (w:=w) (base:=base) (ca:=ca) cm B).imp yG
 have i8:=(RQ.sS (P:=l.prog) (w:=w) (base:=base) (ca:=ca) eM B gx).imp Dw
 have nU:=(RQ.uT (P:=l.prog) (w:=w) (base:=base) (ca:=ca) iQ B gx jO).imp GA
 have ya:=RQ.oJ (P:=l.prog) (w:=w) (base:=base) (ca:=ca) cw B i8
 have j5:=(RQ.oJ (P:=l.prog) (w:=w) (base:=base) (ca:=ca) cw B i8).imp GU
 have Dl:=RQ.pQ (P:=l.prog) (w:=w) (base:=base) (ca:=ca) m9 B
 have pP:=xY (P:=l.prog) (w:=w) (base:=base) (ca:=ca) jW m9 B
 have mS:=(RQ.sX (P:=l.prog) (w:=w) (base:=base) (ca:=ca) gf B).imp Gz
 have mX:=(RQ.tv (P:=l.prog) (w:=w) (base:=base) (ca:=ca) gq B nU j5 pP mS).imp wH
 have k7:=(RQ.pF (P:=l.prog) (w:=w) (base:=base) (ca:=ca) dM B mX ke).imp DK
 have lK:=RQ.qV (P:=l.prog) (w:=w) (base:=base) (ca:=ca) eV B
 have bf:=RQ.qd (P:=l.prog) (w:=w) (base:=base) (ca:=ca) aH B
 have jR:=RQ.oP (P:=l.prog) (w:=w) (base:=base) (ca:=ca) c8 B bf
 have jK:=RQ.oV (P:=l.prog) (w:=w) (base:=base) (ca:=ca) cZ B bf
 have lA:=RQ.q8 (P:=l.prog) (w:=w) (base:=base) (ca:=ca) fg B jK bf
 have om:=RQ.wd (P:=l.prog) (w:=w) (base:=base) (ca:=ca) iP B ya lK
 have lB:=RQ.qZ (P:=l.prog) (w:=w) (base:=base) (ca:=ca) fm B om
 have kW:=RQ.sO (P:=l.prog) (w:=w) (base:=base) (ca:=ca) eR B
 have fX:=RQ.tj (P:=l.prog) (w:=w) (base:=base) (ca:=ca) b9 B bf
 have lL:=RQ.rh (P:=l.prog) (w:=w) (base:=base) (ca:=ca) fq B fX
 have mK:=RQ.uB (P:=l.prog) (w:=w) (base:=base) (ca:=ca) fW B fX bf
 have ly:=RQ.rl (P:=l.prog) (w:=w) (base:=base) (ca:=ca) fw B kW
 have kL:=RQ.tI (P:=l.prog) (w:=w) (base:=base) (ca:=ca) dZ B k7 lB jR lL ly mK lA jV
 have lG:=RQ.qR (P:=l.prog) (w:=w) (base:=base) (ca:=ca) eT B
 have mJ:=RQ.sV (P:=l.prog) (w:=w) (base:=base) (ca:=ca) gu B
 have mC:=RQ.uq (P:=l.prog) (w:=w) (base:=base) (ca:=ca) fZ B lG mJ
 have aP:=RQ.rB (P:=l.prog) (w:=w) (base:=base) aB B
 have dw:=RQ.qx (P:=l.prog) (w:=w) (base:=base) (ca:=ca) bI B
 have bz:=RQ.nv (P:=l.prog) (w:=w) (base:=base) aM B aP
 have jP:=RQ.oU (P:=l.prog) (w:=w) (base:=base) (ca:=ca) c6 B
 have ku:=RQ.p6 (P:=l.prog) (w:=w) (base:=base) (ca:=ca) dD B jP aP bz
 have kU:=RQ.qe (P:=l.prog) (w:=w) (base:=base) (ca:=ca) dA B
 have dB:=RQ.pL (P:=l.prog) (w:=w) (base:=base) (ca:=ca) bJ B kU
 have lV:=RQ.qY (P:=l.prog) (w:=w) (base:=base) (ca:=ca) fo B
 have mM:=RQ.tT (P:=l.prog) (w:=w) (base:=base) gj B aP
 have jH:=RQ.oQ (P:=l.prog) (w:=w) (base:=base) (ca:=ca) c7 B dw
 have lT:=RQ.rH (P:=l.prog) (w:=w) (base:=base) (ca:=ca) fj B
 have ja:=RQ.n0 (P:=l.prog) (w:=w) (base:=base) (ca:=ca) cK B dw dB
 have ky:=RQ.pO (P:=l.prog) (w:=w) (base:=base) (ca:=ca) dF B
 have jd:=RQ.ot (P:=l.prog) (w:=w) (base:=base) (ca:=ca) cI B ja ky
 have kR:=RQ.qr (P:=l.prog) (w:=w) (base:=base) dG B aP bz
 have gi:=RQ.mW (P:=l.prog) (w:=w) (base:=base) (ca:=ca) b6 B lT aP kR bz ku
 have kJ:=RQ.qB (P:=l.prog) (w:=w) (base:=base) (ca:=ca) dE B jd jH lV
 have Ip:=RQ.C6 (P:=l.prog) (w:=w) (base:=base) (ca:=ca) Hd B mC dB kL kJ gi mM aP
 exact gP.imp (sp:=CJ K ca 1 Fg) Ip GR
theorem walk {l:PySem.W.OpenLaw}{q:Program}{loose:List Str}{XP:(Str->Option Value)->Heap->Prop}{YP:World->Heap->Prop}{d:DefRec}{K:Params->Frag}(hn:l.most=some 63)(hdf:d.params.defaults= [])(hi:PyProof.Rows.importsNone q=true)
  (hY:∀(w:World) (h:Heap),YP w h->(K w.params).In h)
  (F:∀(w:World) (mg:Str->Option Value) (fa:Addr) (h:Heap),(K w.params).In h->h.Ns mainGlobals mg->mg d.name=some (.ref fa)->
   ∃fd:FuncData,(∀(s:Shared) (u:Value),BindsTo s fd ⟨[u],[]⟩ [("script",u)])/\∀base:Heap,(K w.params).In base->base.Ns mainGlobals mg->gP l.prog w (K w.params) mg base (oZ l.prog w) 7 fa fd ["script"] (yH (K w.params))) :
  PySem.W.WalkO q loose XP YP l.row.toRowW d [] (fun f vs=>PySem.call f vs):=
 L2.CZ (n:=63) (k:=7) (x:="script") (CX:=fun w=>oZ l.prog w) (sp:=fun w=>yH (K w.params)) hn (by decide) hdf hi ⟨rfl,by decide,by decide,rfl⟩ hY F (fun _ _ a ns hl _ hS=>⟨a,ns,rfl,hS,fun _ _=>rfl⟩) fun _ _ _ _ _ z=>by
  obtain⟨_,_,_,_,_,_,_,_,_,z⟩:=z
  exact z
end RO
namespace HD
noncomputable def vw:PySem.Program:=PySem.W.view PySem.Challenge.pw_rowsorder_k25_turns_together [1,2,3,4,5,6,8,9,10,12,13,14,15,16,18,19,20,21,23,24,25,26,27,28,29,30,32,33,34,35,36,37,38,39,40,41,42,43,44,45,46,47,48,49,50,51,52]
theorem Ho:PySem.Challenge.rw_rowsorder_k25_turns_together.wellSaid=true:=by kernel_rfl
end HD
local macro_rules | `(tactic|o_head $H)=>`(tactic| (
 refine PySem.W.holds_open (q:=HD.vw) (loose:=[]) (Xt:=fun s=>PySem.W.xlAt HD.vw [] s && PySem.W.recOk (PySem.W.RowW.records _) s) (XP:=PySem.W.XL HD.vw []) (Yf:=PySem.W.Hook.obs $H) (Ya:=PySem.W.Hook.val $H) (YP:=PySem.W.Hook.says $H) (N:=3976) ?hl (PySem.W.Hook.of $H) (PySem.W.Hook.keeps $H) (fun s e=>PySem.W.xl_of s (Bool.and_eq_true_iff.mp e).1) PySem.W.XL.keeps (by rfl) (by rfl) (by rfl) (fun s e=>PySem.W.recFacts_of (Bool.and_eq_true_iff.mp e).2) (by rfl) (by first |assumption |decide +kernel) (by decide +kernel) ⟨rfl,rfl,rfl,rfl,rfl,by decide +kernel⟩ ?hw ?hc
 case hl=>exact HD.Eo (by kernel_rfl) (by kernel_rfl) (fun s=>by kernel_rfl) (fun w os=>by kernel_rfl)))
open PySem PySem.W PyProof.Rows L2
set_option maxRecDepth 100000 in
set_option maxHeartbeats 0 in
theorem PySem.Challenge.cw_rowsorder_k25_turns_together_holds : PySem.Challenge.rw_rowsorder_k25_turns_together.Holds := by
 w_on;(refine holds_law HD.Ho fun Ho=>?_);k_head;(case hw=>w_witness2)
 k_fill
 refine RO.walk (l:=PySem.Challenge.rw_rowsorder_k25_turns_together) rfl rfl ?hi (fun w h Y=>PySem.W.kIn_of Y) ?F
 case hi=>kernel_rfl
 case F=>
  intro w mg fa h KX G hmg
  refine' RO.all_mk KX G hmg ?F1 ?F2 ?F3 ?F4 ?F5 ?F6 ?F7 ?F8 ?F9 ?F10 ?F11 ?F12 ?F13 ?F14 ?F15 ?F16 ?F17 ?F18 ?F19 ?F20 ?F21 ?F22 ?F23 ?F24 ?F25 ?F26 ?F27 ?F28 ?F29 ?F30 ?F31 ?F32 ?F33 ?F34 ?F35 ?F36 ?F37 ?F38 ?F39 ?F40 ?F41 ?F42 ?a43 ?l43 ?c43 ?k43 ?zB ?yMOST_THINGS ?m0 ?e0 ?m1 ?e1
  case F1=>refine' bB KX G RO.xq ?a ?l ?c ?k;(case a=>k_is);(case l=>k_is);(case c=>k_is);(case k=>k_is)
  case F2=>refine' bB KX G RO.wU ?a ?l ?c ?k;(case a=>k_is);(case l=>k_is);(case c=>k_is);(case k=>k_is)
  case F3=>refine' bB KX G RO.zL ?a ?l ?c ?k;(case a=>k_is);(case l=>k_is);(case c=>k_is);(case k=>k_is)
  case F4=>refine' bB KX G RO.zv ?a ?l ?c ?k;(case a=>k_is);(case l=>k_is);(case c=>k_is);(case k=>k_is)
  case F5=>refine' bB KX G RO.uI ?a ?l ?c ?k;(case a=>k_is);(case l=>k_is);(case c=>k_is);(case k=>k_is)
  case F6=>refine' bB KX G RO.BW ?a ?l ?c ?k;(case a=>k_is);(case l=>k_is);(case c=>k_is);(case k=>k_is)
  case F7=>refine' bB KX G RO.wK ?a ?l ?c ?k;(case a=>k_is);(case l=>k_is);(case c=>k_is);(case k=>k_is)
  case F8=>refine' bB KX G RO.xw ?a ?l ?c ?k;(case a=>k_is);(case l=>k_is);(case c=>k_is);(case k=>k_is)
  case F9=>refine' bB KX G RO.uj ?a ?l ?c ?k;(case a=>k_is);(case l=>k_is);(case c=>k_is);(case k=>k_is)
  case F10=>refine' bB KX G RO.ve ?a ?l ?c ?k;(case a=>k_is);(case l=>k_is);(case c=>k_is);(case k=>k_is)
  case F11=>refine' bB KX G RO.tO ?a ?l ?c ?k;(case a=>k_is);(case l=>k_is);(case c=>k_is);(case k=>k_is)
  case F12=>refine' bB KX G RO.rb ?a ?l ?c ?k;(case a=>k_is);(case l=>k_is);(case c=>k_is);(case k=>k_is)
  case F13=>refine' bB KX G RO.rF ?a ?l ?c ?k;(case a=>k_is);(case l=>k_is);(case c=>k_is);(case k=>k_is)
  case F14=>refine' bB KX G RO.vg ?a ?l ?c ?k;(case a=>k_is);(case l=>k_is);(case c=>k_is);(case k=>k_is)
  case F15=>refine' bB KX G RO.zz ?a ?l ?c ?k;(case a=>k_is);(case l=>k_is);(case c=>k_is);(case k=>k_is)
  case F16=>refine' bB KX G RO.uZ ?a ?l ?c ?k;(case a=>k_is);(case l=>k_is);(case c=>k_is);(case k=>k_is)
  case F17=>refine' bB KX G RO.xI ?a ?l ?c ?k;(case a=>k_is);(case l=>k_is);(case c=>k_is);(case k=>k_is)
  case F18=>refine' bB KX G RO.wO ?a ?l ?c ?k;(case a=>k_is);(case l=>k_is);(case c=>k_is);(case k=>k_is)
  case F19=>refine' bB KX G RO.uY ?a ?l ?c ?k;(case a=>k_is);(case l=>k_is);(case c=>k_is);(case k=>k_is)
  case F20=>refine' bB KX G RO.xm ?a ?l ?c ?k;(case a=>k_is);(case l=>k_is);(case c=>k_is);(case k=>k_is)
  case F21=>refine' bB KX G RO.vk ?a ?l ?c ?k;(case a=>k_is);(case l=>k_is);(case c=>k_is);(case k=>k_is)
  case F22=>refine' bB KX G RO.xP ?a ?l ?c ?k;(case a=>k_is);(case l=>k_is);(case c=>k_is);(case k=>k_is)
  case F23=>refine' bB KX G RO.vB ?a ?l ?c ?k;(case a=>k_is);(case l=>k_is);(case c=>k_is);(case k=>k_is)
  case F24=>refine' bB KX G RO.xM ?a ?l ?c ?k;(case a=>k_is);(case l=>k_is);(case c=>k_is);(case k=>k_is)
  case F25=>refine' bB KX G RO.xU ?a ?l ?c ?k;(case a=>k_is);(case l=>k_is);(case c=>k_is);(case k=>k_is)
  case F26=>refine' bB KX G RO.uX ?a ?l ?c ?k;(case a=>k_is);(case l=>k_is);(case c=>k_is);(case k=>k_is)
  case F27=>refine' bB KX G RO.sW ?a ?l ?c ?k;(case a=>k_is);(case l=>k_is);(case c=>k_is);(case k=>k_is)
  case F28=>refine' bB KX G RO.o4 ?a ?l ?c ?k;(case a=>k_is);(case l=>k_is);(case c=>k_is);(case k=>k_is)
  case F29=>refine' bB KX G RO.rf ?a ?l ?c ?k;(case a=>k_is);(case l=>k_is);(case c=>k_is);(case k=>k_is)
  case F30=>refine' bB KX G RO.uG ?a ?l ?c ?k;(case a=>k_is);(case l=>k_is);(case c=>k_is);(case k=>k_is)
  case F31=>refine' bB KX G RO.sP ?a ?l ?c ?k;(case a=>k_is);(case l=>k_is);(case c=>k_is);(case k=>k_is)
  case F32=>refine' bB KX G RO.ug ?a ?l ?c ?k;(case a=>k_is);(case l=>k_is);(case c=>k_is);(case k=>k_is)
  case F33=>refine' bB KX G RO.we ?a ?l ?c ?k;(case a=>k_is);(case l=>k_is);(case c=>k_is);(case k=>k_is)
  case F34=>refine' bB KX G RO.xB ?a ?l ?c ?k;(case a=>k_is);(case l=>k_is);(case c=>k_is);(case k=>k_is)
  case F35=>refine' bB KX G RO.rA ?a ?l ?c ?k;(case a=>k_is);(case l=>k_is);(case c=>k_is);(case k=>k_is)
  case F36=>refine' bB KX G RO.uR ?a ?l ?c ?k;(case a=>k_is);(case l=>k_is);(case c=>k_is);(case k=>k_is)
  case F37=>refine' bB KX G RO.pM ?a ?l ?c ?k;(case a=>k_is);(case l=>k_is);(case c=>k_is);(case k=>k_is)
  case F38=>refine' bB KX G RO.td ?a ?l ?c ?k;(case a=>k_is);(case l=>k_is);(case c=>k_is);(case k=>k_is)
  case F39=>refine' bB KX G RO.qI ?a ?l ?c ?k;(case a=>k_is);(case l=>k_is);(case c=>k_is);(case k=>k_is)
  case F40=>refine' bB KX G RO.ud ?a ?l ?c ?k;(case a=>k_is);(case l=>k_is);(case c=>k_is);(case k=>k_is)
  case F41=>refine' bB KX G RO.oq ?a ?l ?c ?k;(case a=>k_is);(case l=>k_is);(case c=>k_is);(case k=>k_is)
  case F42=>refine' bB KX G RO.uv ?a ?l ?c ?k;(case a=>k_is);(case l=>k_is);(case c=>k_is);(case k=>k_is)
  case a43=>k_is
  case l43=>k_is
  case c43=>k_is
  case k43=>k_is
  case zB=>kernel_rfl
  case yMOST_THINGS=>k_is
  case m0=>k_is
  case e0=>kernel_rfl
  case m1=>k_is
  case e1=>kernel_rfl
end
