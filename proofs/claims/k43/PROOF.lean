import PyProof.Rows.All
import Wide.All
import OpenK.AllK
import Wide.FinOn
import Lean
import PyProof.EqAt
import PyProof.EqKinds
import PyProof.TupleCall
import PySem.SetOps
import PyProof.SetKind
import PyProof.TupleKey
import PyProof.DictKinds
import PyProof.Rows.SetFrom
import PyProof.WalksMore
import KE.KSortTup
import PyProof.CollectWalk
import PyProof.ExcArgsOwn
import PyProof.Rows.CountFlat
import PyProof.Rows.SeqMore2
import PyProof.Rows.FStr
import PyProof.Rows.StrWeight2
import PyProof.Rows.StrNews
import PyProof.StrLawsTight
import PyProof.ExcBaseAll.ValueError
import PyProof.ZipIter
import PyProof.CallFns
import PyProof.Draws
import PyProof.EnumMake
import PyProof.SetRoads
import PyProof.Rows.SortWalk
import PyProof.SeqI3
import PyProof.Rows.SortShell
import PyProof.Rows.Range3
import KE.KStateDown
import PyProof.Rows.SumAny
import PyProof.ListRange
import PyProof.MaxThree
import PyProof.IsiH_list
import PyProof.RaisesAny
import KE.KDictOf
import PyProof.Rows.BitMore
import PySem.Challenge.RW_rowsorder_k43_case_papers_told
set_option Elab.async false
set_option linter.all false
set_option maxRecDepth 100000
set_option maxHeartbeats 1000000
def M9:=@List.getElem?_eq_getElem
def Na:=@Nat.le_refl
def Nb:=@List.length_map
def Nc:=@if_pos
def Nd:=@PySem.Heap.get?_push_of_some
def Nf:=@PySem.wpAny_bind
def Ng:=@List.getElem?_eq_some_iff
def Nh:=@List.mem_cons
def Ni:=@decide_eq_true
def Nj:=@Bool.false_ne_true
def Nk:=@if_neg
def Nl:=@PySem.Heap.lt_size
def Nm:=@List.getElem?_map
def Nn:=@List.mem_cons_of_mem
def Np:=@List.mem_cons_self
def Nq:=@List.mem_filter
def Nr:=@List.getD_eq_getElem?_getD
def Nt:=@List.size_toArray
def Nu:=@PySem.Heap.get?_push_size
def Nw:=@List.mem_of_getElem?
def Nx:=@decide_eq_false
def Ny:=@Bool.and_eq_true
def Nz:=@List.mem_append
def NA:=@List.getElem?_set_ne
def NC:=@decide_eq_true_eq
def ND:=@List.getElem?_set_self
def NF:=@List.length_append
def NG:=@List.mem_singleton
def NH:=@List.mem_append_right
def NI:=@List.getElem?_append_left
def NJ:=@PySem.wpAny_pure
def NK:=@PySem.boot_len
def NL:=@Nat.lt_irrefl
def NM:=@Nat.lt_of_lt_of_le
def NN:=@List.mem_map
def NO:=@List.getElem?_append_right
def NP:=@Int.toNat_natCast
def NQ:=@List.all_eq_true
def NR:=@List.mem_range
def NS:=@Bool.eq_iff_iff
def NT:=@List.map_append
def NU:=@List.length_take
def NV:=@PySem.sizeLine_eq
def NW:=@List.not_mem_nil
def NX:=@List.length_replicate
def NY:=@List.length_singleton
def NZ:=@List.length_filter_le
def N0:=@Nat.ne_of_lt
def N1:=@List.length_cons
def N2:=@List.nodup_cons
def N3:=@Nat.zero_le
def N4:=@PySem.W.kia_one
def N5:=@List.mem_iff_getElem?
def N6:=@PySem.mem_of_lookup
def N7:=@List.replicate_succ
def N8:=@Nat.le_trans
def N9:=@PySem.wpAny_truthy_bool
def Oa:=@List.length_range
def Ob:=@PySem.Heap.get?_update_other
def Oc:=@Bool.false_eq_true
def Od:=@List.eq_of_mem_replicate
def Oe:=@List.getElem?_replicate
def Of:=@PySem.wpAny_mono
def Og:=@Int.zero_add
def Oh:=@decide_eq_decide
def Oi:=@List.length_set
def Oj:=@Bool.or_eq_true
def Ol:=@if_true
def Om:=@List.nodup_iff_pairwise_ne
def Oo:=@PySem.F.plain_min_loop
def Oq:=@List.getElem?_eq_none
def Ot:=@List.getElem_mem
def Ou:=@Nat.zero_add
def Ov:=@if_false
def Ow:=@List.flatten_cons
def Ox:=@PyProof.Rows.callWith_type1
def Oy:=@List.append_nil
def Oz:=@List.map_congr_left
def OA:=@PySem.SeqAt.canLay_of_shaped
def OB:=@List.map_cons
def OC:=@List.any_cons
def OD:=@or_false
def OE:=@Nat.lt_or_ge
def OF:=@List.set_eq_of_length_le
def OG:=@List.append_assoc
def OH:=@of_decide_eq_true
def OI:=@PySem.wpAny_holding
def OJ:=@Array.toList_append
def OK:=@Nat.mul_le_mul
def OL:=@Array.getD_eq_getD_getElem?
def ON:=@PySem.wpAny_passesOwn
def OO:=@PySem.Value.isInt_shape
def OP:=@PySem.wpAny_pyIter_list
def OQ:=@List.mem_append_left
def OR:=@List.mem_iff_getElem
def OS:=@PySem.Heap.size_push
def OT:=@List.length_drop
def OU:=@List.getElem?_range
def OV:=@PySem.F.plainAttrs_list
def OW:=@PySem.wpAny_Call_Name_kw
def OX:=@PySem.wpAny_pyIter_tuple
def OY:=@Int.emod_nonneg
def OZ:=@Int.emod_lt_of_pos
def O0:=@List.pairwise_map
def O1:=@Nat.le_of_lt
def O2:=@PySem.Heap.get?_update_self
def O3:=@PySem.wpAny_tryCatch
def O4:=@Nat.eq_of_testBit_eq
def O5:=@Array.getElem?_eq_some_iff
def O6:=@PySem.W.mg_of
def O7:=@List.pairwise_iff_getElem
def O8:=@List.drop_eq_getElem_cons
def O9:=@List.getLast?_eq_getElem?
def Pa:=@List.mem_filterMap
def Pb:=@PySem.F.args_tuple_add_2
def Pe:=@List.length_erase_of_mem
def Pf:=@List.Pairwise.imp_of_mem
def Pg:=@Nat.lt_trans
def Pj:=@List.all_map
def Pk:=@PySem.Obj.data_mapFields
def Pl:=@List.map_replicate
def Pn:=@List.map_map
def Po:=@PySem.AutoSeq1.wpAny_loadPart'
def Pp:=@PySem.wpAny_setField
def Pq:=@PySem.wpAny_pyIter_enum
def Pu:=@List.filter_congr
def Pw:=@List.idxOf_append
open List (lookup_cons all_cons drop_length set_set)
open PySem.W (Frag)
open PySem.PyData (int)
section
set_option Elab.async false
namespace L2
open PySem PySem.Spec PyProof.Rows
abbrev Key:=Sum Int Str
def Bo:Key->Value->Bool
 | .inl k,v=>Value.isInt k v
 | .inr x,v=>Value.isStrOf x v
def LU (w:World):Key->Int
 | .inl k=>hashInt k
 | .inr x=>hashStr w x
theorem cA:∀{k:Key} {v:Value},Bo k v=true->(∃i t,k=Sum.inl i/\v=Value.int i t)\/(∃x t,k=Sum.inr x/\v=Value.str x t)
 | .inl i,v,h=>by
  obtain⟨t,e⟩:=OO (k:=i) (v:=v) h
  exact .inl ⟨i,t,rfl,e⟩
 | .inr x,v,h=>by
  obtain⟨t,e⟩:=Value.isStrOf_shape (x:=x) (v:=v) h
  exact .inr ⟨x,t,rfl,e⟩
def Iv (a b:Int):decide ((Sum.inl a:Key)=Sum.inl b)=(a == b):=by
 by_cases e:a=b
 ·subst e;simp
 ·have h:¬(Sum.inl a:Key)=Sum.inl b:=λq=>e (Sum.inl.inj q)
  rw[Nx h]
  exact (beq_eq_false_iff_ne.mpr e).symm
def Ik (a b:Str):decide ((Sum.inr a:Key)=Sum.inr b)=decide (a=b):=by
 by_cases e:a=b
 ·subst e;simp
 ·have h:¬(Sum.inr a:Key)=Sum.inr b:=λq=>e (Sum.inr.inj q)
  rw[Nx h,Nx e]
def Hs (a:Int)(b:Str):decide ((Sum.inl a:Key)=Sum.inr b)=false:=Nx (λq=>nomatch q)
def IC (a:Str)(b:Int):decide ((Sum.inr a:Key)=Sum.inl b)=false:=Nx (λq=>nomatch q)
def mB (prog:Program)(w:World):PySem.KeyKind prog w Key where
 is:=Bo
 hash:=LU w
 inj:=λv a b ha hb=>by
  rcases cA ha with⟨i,t,rfl,rfl⟩ | ⟨x,t,rfl,rfl⟩
  ·rcases cA hb with⟨j,u,rfl,e⟩ | ⟨y,u,rfl,e⟩
   ·injection e with e1 _;rw[e1]
   ·exact nomatch e
  ·rcases cA hb with⟨j,u,rfl,e⟩ | ⟨y,u,rfl,e⟩
   ·exact nomatch e
   ·injection e with e1 _;rw[e1]
 byValue:=λk v h=>by
  rcases cA h with⟨i,t,rfl,rfl⟩ | ⟨x,t,rfl,rfl⟩ <;> rfl
 pyHash:=λhv h=>by
  rcases cA hv with⟨i,t,rfl,rfl⟩ | ⟨x,t,rfl,rfl⟩
  ·exact wpAny_pyHash_int h
  ·exact wpAny_pyHash_str h
 eqBool:=λhu hv h=>by
  rcases cA hu with⟨i,t,rfl,rfl⟩ | ⟨x,t,rfl,rfl⟩
  ·rcases cA hv with⟨j,u,rfl,rfl⟩ | ⟨y,u,rfl,rfl⟩
   ·rw[Iv] at h;exact wpAny_eqBool_int h
   ·rw[Hs] at h;exact SeqAt.EqAt.int_str i t y u _ _ _ _ h
  ·rcases cA hv with⟨j,u,rfl,rfl⟩ | ⟨y,u,rfl,rfl⟩
   ·rw[IC] at h;exact SeqAt.EqAt.str_int x t j u _ _ _ _ h
   ·rw[Ik] at h;exact wpAny_eqBool_str h
 «strs»:=λk x t v h=>by
  rcases cA h with⟨i,u,rfl,e⟩ | ⟨y,u,rfl,e⟩
  ·exact nomatch e
  ·injection e with e1 _
   subst e1
   cases v <;> rfl
inductive V where
 |non |bl (b:Bool) |int (i:Int) |str (x:Str) |byt (b:Array UInt8) |flt (b:UInt64) |ref (a:Addr) |ty (n:String)
 deriving DecidableEq
def RelV:V->Value->Prop
 | .non,u=>u=Value.none
 | .bl b,u=>u=Value.bool b
 | .int i,u=>∃t,u=Value.int i t
 | .str x,u=>∃t,u=Value.str x t
 | .byt b,u=>∃t,u=Value.bytes b t
 | .flt b,u=>∃t,u=Value.float b t
 | .ref a,u=>u=Value.ref a
 | .ty n,u=>u=Value.type n
abbrev Vals:List V->List Value->Prop:=Paired RelV
def Vals.length {xs:List V}{us:List Value}(r:Vals xs us):xs.length=us.length:=Paired.length r
theorem Vals.get:∀{xs:List V} {us:List Value} {i:Nat} {x:V},Vals xs us->xs[i]? =some x->∃u,us[i]? =some u/\RelV x u
 |_,_,_,_,.nil,e=>by simp at e
 |_,_,0,_,.cons r _,e=>by simp at e;subst e;exact⟨_,rfl,r⟩
 |_,_,i + 1,x,.cons _ t,e=>by
  obtain⟨u,h1,h2⟩:=Vals.get (i:=i) (x:=x) t (by simpa using e)
  exact⟨u,by simpa using h1,h2⟩
theorem Vals.set {x:V}{u:Value}(r:RelV x u):∀{xs:List V} {us:List Value} (i:Nat),Vals xs us->Vals (xs.set i x) (us.set i u)
 |_,_,_,.nil=>.nil
 |_,_,0,.cons _ t=>.cons r t
 |_,_,i + 1,.cons q t=>.cons q (Vals.set r i t)
theorem Vals.append:∀{xs ys:List V} {us ws:List Value},Vals xs us->Vals ys ws->Vals (xs ++ ys) (us ++ ws)
 |_,_,_,_,.nil,s=>s
 |_,_,_,_,.cons r t,s=>.cons r (Vals.append t s)
theorem Vals.take:∀{xs:List V} {us:List Value} (n:Nat),Vals xs us->Vals (xs.take n) (us.take n)
 |_,_,0,_=>.nil
 |_,_,_ + 1,.nil=>.nil
 |_,_,n + 1,.cons r t=>.cons r (Vals.take n t)
theorem Vals.drop:∀{xs:List V} {us:List Value} (n:Nat),Vals xs us->Vals (xs.drop n) (us.drop n)
 |_,_,0,r=>r
 |_,_,_ + 1,.nil=>.nil
 |_,_,n + 1,.cons _ t=>Vals.drop n t
def CM:Option V->Option Value->Prop
 |some v,some u=>RelV v u
 |none,none=>True
 |_,_=>False
def KV {κ:Type}:List (κ×V)->List (κ×Value)->Prop:=Paired λ(p:κ×V) (q:κ×Value)=>p.1=q.1/\RelV p.2 q.2
def kV:Key->V
 | .inl i=>.int i
 | .inr x=>.str x
inductive HO where
 |lst (xs:List V)
 |tup (xs:List V)
 |dK (kvs:List (Key×V)) |dT (kvs:List (List Key×V))
 |set (S:Int->Bool) (n:Nat)
 |ins (C dx:Addr) (fs:List (Str×V))
 |own (x:Addr)
 |xd (fs:List (Str×V))
 |met (f x:Addr)
 |iu (lo hi:Int)
 |aY (o:Obj) (u:HO)
 |tbl (ps:Array Value)
 |ext (φ:Heap->Prop)
abbrev Hp:=Addr->Option HO
def upd (H:Hp)(a:Addr)(o:HO):Hp:=λb=>if b=a then some o else H b
def aC {H:Hp}{a:Addr}{o:HO}:upd H a o a=some o:=by unfold upd;rw[Nc rfl]
def aB {H:Hp}{a b:Addr}{o:HO}(h:b≠a):upd H a o b=H b:=by unfold upd;rw[Nk h]
def FH {H:Hp}{a b:Addr}{o u:HO}(h:H a=some o)(h':H b=some u)(d:o≠u):a≠b:=by
 intro e;subst e;rw[h] at h';exact d (Option.some.inj h')
def aO {H:Hp}{a b:Addr}{o:HO}(h:H a=some o)(h':H b=none):a≠b:=by
 intro e;subst e;rw[h] at h';cases h'
section
variable (P:Program)(w:World)
def r6 (h:Heap)(a:Addr)(items:Array Value):Prop:=∃o,h.get? a=some o/\o.cls=.type "tuple"/\∃n,o.data=.seq items n/\o.dict=none
def r6.isTup {h:Heap}{a:Addr}{items:Array Value}(x:r6 h a items):IsTup h a items:=let ⟨o,e,c,n,d,_⟩:=x;⟨o,e,c,n,d⟩
def r6.new (h:Heap)(items:Array Value):r6 (h.push {cls:=.type "tuple",data:=.seq items}) h.objs.size items:=⟨_,Nu _ rfl,rfl,_,rfl,rfl⟩
def cW (H:Hp)(h:Heap)(a:Addr):HO->Prop
 | .lst xs=>xs.length<=sizeLine/\∃(its:List Value) (n:Nat),Vals xs its/\h.get? a=some {cls:=.type "list",data:=.seq its.toArray n}
 | .tup xs=>xs.length<=sizeLine/\∃its:List Value,Vals xs its/\r6 h a its.toArray
 | .dK kvs=>kvs.length<=sizeLine/\(a == sysModules)=false/\∃vs,KV kvs vs/\h.DictOf (mB P w) a vs
 | .dT kvs=>kvs.length<=sizeLine/\(a == sysModules)=false/\∃xs:List (List Key×Addr×Value),
   Paired (λ(p:List Key×V) (q:List Key×Addr×Value)=>p.1=q.1/\(H q.2.1=some (.tup (p.1.map kV))\/∃o,H q.2.1=some (.aY o (.tup (p.1.map kV))))/\RelV p.2 q.2.2) kvs xs/\
   ∃o es ep,h.get? a=some o/\o.ExactDict/\o.data=.dict es ep/\es.toList=xs.map (entryOfKey (tupleKind (mB P w)))/\(xs.map (·.1)).Nodup
 | .set S n=>h.SetOf (intKind P w) a S n
 | .ins C dx fs=>H dx=some (.own a)/\fs.length<=1000/\dx≠a/\h.get? a=some (PySem.W.instObj C dx)/\
   ∃mA,h.Ns1 dx mA/\(∀f,CM (fs.lookup f) (mA f))/\PySem.Within mA (fs.map (·.1))
 | .own _=>∃o,h.get? a=some o
 | .xd fs=>∃mA,h.Ns1 a mA/\∀f,CM (fs.lookup f) (mA f)
 | .iu lo hi=>∃t u v,h.get? a=some {cls:=.type "range",data:=.fields #[.int lo t,.int hi u,.int 1 v]}
 | .aY o u=>h.get? a=some o/\cW H h a u
 | .tbl ps=>h.get? a=some {cls:=.none,data:=.fields ps}
 | .met f x=>h.get? a=some (PySem.W.methodObj (.ref f) (.ref x))
 | .ext φ=>φ h/\(∃o,h.get? a=some o)/\∀h1 h2:Heap,φ h1->(∀o,h1.get? a=some o->h2.get? a=some o)->φ h2
def mU (H:Hp)(h:Heap):Prop:=∀a o,H a=some o->cW P w H h a o
end
section
variable {P:Program}{w:World}{H H':Hp}{h h':Heap}{a:Addr}{o:HO}
theorem cW.lt (x:cW P w H h a o):a < h.objs.size:=by
 cases o with
 |lst xs=>obtain⟨_,_,_,_,e⟩:=x;exact Nl e
 |tup xs=>obtain⟨_,_,_,p⟩:=x;exact p.isTup.lt
 |dK kvs=>obtain⟨_,_,_,_,o,_,_,e,_⟩:=x;exact Nl e
 |dT kvs=>obtain⟨_,_,_,_,o,_,_,e,_⟩:=x;exact Nl e
 |set S n=>obtain⟨o,_,_,_,e,_⟩:=x;exact Nl e
 |ins C dx fs=>obtain⟨_,_,_,e,_⟩:=x;exact Nl e
 |own y=>obtain⟨_,e⟩:=x;exact Nl e
 |xd fs=>obtain⟨_,⟨_,_,_,e,_⟩,_⟩:=x;exact Nl e
 |iu lo hi=>obtain⟨_,_,_,e⟩:=x;exact Nl e
 |aY ob u=>obtain⟨e,_⟩:=x;exact Nl e
 |tbl ps=>exact Nl (show h.get? a=some _ from x)
 |met f y=>exact Nl (show h.get? a=some _ from x)
 |ext φ=>obtain⟨_,⟨_,e⟩,_⟩:=x;exact Nl e
theorem Paired.mapP {α β:Type}{F G:α->β->Prop}:∀{l₁:List α} {l₂:List β},Paired F l₁ l₂->(∀a b,F a b->G a b)->Paired G l₁ l₂
 |_,_,.nil,_=>.nil
 |_,_,.cons r t,f=>.cons (f _ _ r) (Paired.mapP t f)
theorem cW.stay (x:cW P w H h a o)(k:∀b u,(b=a\/H b=some (.own a))->h.get? b=some u->h'.get? b=some u)
  (ho:∀b,H b=some (.own a)->H' b=some (.own a)) (ht:∀b xs,(H b=some (.tup xs)\/∃o,H b=some (.aY o (.tup xs)))->(H' b=some (.tup xs)\/∃o,H' b=some (.aY o (.tup xs)))):cW P w H' h' a o:=by
 induction o with
 |lst xs=>obtain⟨z,its,n,r,e⟩:=x;exact⟨z,its,n,r,k _ _ (.inl rfl) e⟩
 |tup xs=>obtain⟨z,its,r,ob,e,c⟩:=x;exact⟨z,its,r,ob,k _ _ (.inl rfl) e,c⟩
 |dK kvs=>obtain⟨z,y,vs,r,ob,es,ep,e,c⟩:=x;exact⟨z,y,vs,r,ob,es,ep,k _ _ (.inl rfl) e,c⟩
 |dT kvs=>
  obtain⟨z,y,xs,r,ob,es,ep,e,c⟩:=x
  exact⟨z,y,xs,Paired.mapP r λp q z=>⟨z.1,ht _ _ z.2.1,z.2.2⟩,ob,es,ep,k _ _ (.inl rfl) e,c⟩
 |set S n=>obtain⟨ob,es,ep,t,e,c⟩:=x;exact⟨ob,es,ep,t,k _ _ (.inl rfl) e,c⟩
 |ins C dx fs=>
  obtain⟨d,z,ne,e,mA,⟨od,es,ep,e2,c⟩,r⟩:=x
  exact⟨ho _ d,z,ne,k _ _ (.inl rfl) e,mA,⟨od,es,ep,k _ _ (.inr d) e2,c⟩,r⟩
 |own y=>obtain⟨ob,e⟩:=x;exact⟨ob,k _ _ (.inl rfl) e⟩
 |xd fs=>obtain⟨mA,⟨od,es,ep,e,c⟩,r⟩:=x;exact⟨mA,⟨od,es,ep,k _ _ (.inl rfl) e,c⟩,r⟩
 |iu lo hi=>obtain⟨t,u,v,e⟩:=x;exact⟨t,u,v,k _ _ (.inl rfl) e⟩
 |aY ob u ih=>obtain⟨e,q⟩:=x;exact⟨k _ _ (.inl rfl) e,ih q⟩
 |tbl ps=>
  have e:h.get? a=some {cls:=.none,data:=.fields ps}:=x
  show h'.get? a=some {cls:=.none,data:=.fields ps}
  exact k a _ (.inl rfl) e
 |met f y=>
  have e:h.get? a=some (PySem.W.methodObj (.ref f) (.ref y)):=x
  show h'.get? a=some (PySem.W.methodObj (.ref f) (.ref y))
  exact k a _ (.inl rfl) e
 |ext φ=>obtain⟨p,⟨o,e⟩,st⟩:=x;exact⟨st _ _ p λo q=>k _ _ (.inl rfl) q,⟨o,k _ _ (.inl rfl) e⟩,st⟩
def mU.lt (x:mU P w H h)(e:H a=some o):a < h.objs.size:=(x a o e).lt
theorem mU.fresh (x:mU P w H h)(e:h.objs.size<=a):H a=none:=by
 cases q:H a with
 |none=>rfl
 |some u=>exact absurd (NM (x.lt q) e) (NL _)
def mU.kept (x:mU P w H h)(k:∀b u,h.get? b=some u->h'.get? b=some u):mU P w H h':=λa o e=>
 (x a o e).stay (λb u _ q=>k b u q) (λ_ q=>q) λ_ _ q=>q
def mU.laid (x:mU P w H h)(k:∀b u,h.get? b=some u->h'.get? b=some u)(hp:h.objs.size<=a)(new:cW P w (upd H a o) h' a o):mU P w (upd H a o) h':=λb u e=>by
 have hn:=x.fresh hp
 by_cases hb:b=a
 ·subst hb;rw[aC] at e;cases e;exact new
 ·rw[aB hb] at e
  exact (x b u e).stay (λc v _ q=>k c v q) (λc q=>by rw[aB (aO q hn)];exact q) λc xs q=>q.imp (λq=>by rw[aB (aO q hn)];exact q) λ⟨o,q⟩=>⟨o,by rw[aB (aO q hn)];exact q⟩
end
def Rd (H:Hp)(a:Addr)(u:HO):Prop:=H a=some u\/∃o,H a=some (.aY o u)
def Rd.ok {P:Program}{w:World}{H:Hp}{h:Heap}{a:Addr}{u:HO}(r:Rd H a u)(x:mU P w H h):cW P w H h a u:=by
 rcases r with r | ⟨o,r⟩
 ·exact x a u r
 ·obtain⟨_,q⟩:=x a _ r
  exact q
def Lf:Option HO->Prop
 |some (.lst _)=>True
 |some (.dK _)=>True
 |some (.dT _)=>True
 |some (.set _ _)=>True
 |some (.ins _ _ _)=>True
 |some (.ext _)=>True
 |_=>False
section
variable {P:Program}{w:World}{H:Hp}{h h':Heap}{x e:Addr}{o':HO}
def mU.write (ok:mU P w H h)(mu:Lf (H x))(he:e=x\/H e=some (.own x))(k:∀b u,b≠e->h.get? b=some u->h'.get? b=some u)(heo:∃u,h'.get? e=some u)
  (new:cW P w (upd H x o') h' x o'):mU P w (upd H x o') h':=λb u q=>by
 have nown:∀c y,H c=some (.own y)->c≠x:=λc y r z=>by subst z;rw[r] at mu;exact mu
 have ntup:∀c xs,H c=some (.tup xs)->c≠x:=λc xs r z=>by subst z;rw[r] at mu;exact mu
 by_cases hb:b=x
 ·subst hb;rw[aC] at q;cases q;exact new
 ·rw[aB hb] at q
  by_cases hbe:b=e
  ·have q':H b=some (.own x):=by
    rcases he with z |z
    ·exact absurd (hbe.trans z) hb
    ·rw[hbe];exact z
   rw[q] at q';cases q'
   obtain⟨v,hv⟩:=heo
   exact⟨v,by rw[hbe];exact hv⟩
  ·refine (ok b u q).stay (λc v hc r=>k c v ?_ r) (λc r=>by rw[aB (nown c b r)];exact r) λc xs r=>r.imp (λr=>by rw[aB (ntup c xs r)];exact r) λ⟨o,r⟩=>⟨o,by rw[aB (λz=>by subst z;rw[r] at mu;exact mu)];exact r⟩
   rcases hc with rfl |hc
   ·exact hbe
   ·rintro rfl
    rcases he with z |z
    ·exact nown c b hc z
    ·rw[hc] at z;cases z;exact hb rfl
end
structure Un (fs ex:List Addr)(H H':Hp)(h h':Heap):Prop where
 keep:∀b o,h.get? b=some o->H b=none->b∉fs->b∉ex->h'.get? b=some o
 slot:∀b o,h.get? b=some o->H b=none->b∈fs->b∉ex->∃sl,h'.get? b=some {o with slots:=sl}
 free:∀b o,h.get? b=some o->H b=none->b∉ex->H' b=none
 there:∀b o,h.get? b=some o->b∉ex->∃o',h'.get? b=some o'
 tups:∀b xs,H b=some (.tup xs)->H' b=some (.tup xs)
 frzs:∀b o u,H b=some (.aY o u)->H' b=some (.aY o u)
 tbls:∀b ps,H b=some (.tbl ps)->∃more,H' b=some (.tbl (ps ++ more))
section
variable {fs fs' ex ex':List Addr}{H H1 H2:Hp}{h h1 h2 h':Heap}{a x e:Addr}{o:HO}
def Un.any (u:Un fs ex H H1 h h1){b:Addr}{ob:Obj}(q:h.get? b=some ob)(n:H b=none)(hx:b∉ex):∃sl,h1.get? b=some {ob with slots:=sl}:=by
 by_cases hb:b∈fs
 ·exact u.slot b ob q n hb hx
 ·exact⟨ob.slots,u.keep b ob q n hb hx⟩
def Un.kept (k:∀b u,h.get? b=some u->h'.get? b=some u):Un fs ex H H h h':=
 ⟨λb ob q _ _ _=>k b ob q,λb ob q _ _ _=>⟨ob.slots,k b ob q⟩,λ_ _ _ n _=>n,λb ob q _=>⟨ob,k b ob q⟩,λ_ _ q=>q,λ_ _ _ q=>q,λ_ ps q=>⟨#[],by rw[q];simp⟩⟩
def Un.refl:Un fs ex H H h h:=Un.kept λ_ _ q=>q
def Un.laid (k:∀b u,h.get? b=some u->h'.get? b=some u)(hp:h.objs.size<=a)(hn:H a=none):Un fs ex H (upd H a o) h h' where
 keep:=λb u q _ _ _=>k b u q
 slot:=λb u q _ _ _=>⟨u.slots,k b u q⟩
 free:=λb u q n _=>by rw[aB (N0 (NM (Nl q) hp))];exact n
 there:=λb u q _=>⟨u,k b u q⟩
 tups:=λb xs q=>by rw[aB (aO q hn)];exact q
 frzs:=λb u xs q=>by rw[aB (aO q hn)];exact q
 tbls:=λb ps q=>⟨#[],by rw[aB (aO q hn),q];simp⟩
def Un.write (mu:Lf (H x))(he:e=x\/H e=some (.own x))(k:∀b u,b≠e->h.get? b=some u->h'.get? b=some u)(heo:∃u,h'.get? e=some u):Un fs ex H (upd H x o) h h':=by
 have hx:∀b,H b=none->b≠x:=λb n z=>by subst z;rw[n] at mu;exact mu
 have hb:∀b,H b=none->b≠e:=λb n z=>by
  subst z
  rcases he with r |r
  ·exact hx b n r
  ·rw[n] at r;cases r
 have hm:∀b u,H b=some u->¬Lf (some u)->b≠x:=λb u q nm z=>by subst z;rw[q] at mu;exact nm mu
 refine⟨λb u q n _ _=>k b u (hb b n) q,λb u q n _ _=>⟨u.slots,k b u (hb b n) q⟩,λb u q n _=>by rw[aB (hx b n)];exact n,λb u q _=>?_,
  λb xs q=>by rw[aB (hm b _ q λz=>z)];exact q,λb u xs q=>by rw[aB (hm b _ q λz=>z)];exact q,λb ps q=>⟨#[],by rw[aB (hm b _ q λz=>z),q];simp⟩⟩
 by_cases hbe:b=e
 ·subst hbe;exact heo
 ·exact⟨u,k b u hbe q⟩
end
def K3 (h:Heap)(H:Hp):List Addr:=(List.range h.objs.size).filter λa=>(H a).isSome
def rS (h:Heap)(H:Hp):Heap:=PySem.W.hideAll h (K3 h H)
def zY (h:Heap)(H:Hp):(rS h H).objs.size=h.objs.size:=PySem.W.hideAll_size _ _
def Cz {h:Heap}{H:Hp}{b:Addr}{o:Obj}(e:h.get? b=some o)(n:H b=none):(rS h H).get? b=some o:=
 PySem.W.hideAll_get _ e λhm=>by
  have q:(H b).isSome=true:=(Nq.mp hm).2
  rw[n] at q;simp at q
theorem EL {h:Heap}{H:Hp}{b:Addr}{o:Obj}(e:(rS h H).get? b=some o):h.get? b=some o/\H b=none:=by
 have e':h.get? b=some o:=PySem.W.of_hideAll (K3 h H) e
 refine⟨e',?_⟩
 cases q:H b with
 |none=>rfl
 |some x=>
  have hm:b∈K3 h H:=Nq.mpr ⟨NR.mpr (Nl e'),by simp[q]⟩
  have z:(rS h H).get? b=none:=PySem.W.hideAll_none (K3 h H) hm
  rw[z] at e;cases e
def D8 (g h:Heap)(L:Addr):List (Addr×Obj):=(List.range h.objs.size).filterMap λa=>if a=L\/(g.get? a).isSome=true then none else (h.get? a).map λo=>(a,o)
def rest (g h:Heap)(L d:Addr):List (Addr×Obj):=(D8 g h L).filter λp=>decide (p.1≠d)
structure Mod (K:Frag)(mg:Str->Option Value)(base:Heap):Prop where
 kin:K.In base
 glob:base.Ns mainGlobals mg
 blt:∃mb,base.Ns builtinsNs mb/\∀x:Str,x≠"__name__"->mb x=bootBuiltins x
 nolimit:base.NoLimit
 sys:∃mm,base.Ns sysModules mm
structure Cx where
 prog:Program
 w:World
 K:Frag
 mg:Str->Option Value
 base:Heap
 A:Around
 N:List Str
 s₀:Shared
 H₀:Hp
 env:Env
 outer:List Env
 stack:List Env
 ex:List Addr
 fn:Str->Bool
 calm:Bool
 pn:List (Addr×Obj)
 xe:Value->Shared->Prop
def nC (l:List Env):List Addr:=l.filterMap (·.frame)
abbrev Cx.fs (X:Cx):List Addr:=nC X.outer
def y7 (sc:Scope)(x:Str):Prop:=sc.names.lookup x=some .local\/sc.names.lookup x=some .cell\/sc.names.lookup x=some .free
def Loc (sc:Scope)(x:Str):Prop:=sc.names.lookup x=some .local\/sc.names.lookup x=some .cell
def Look (env:Env)(h:Heap)(m:Str->Option Value)(x:Str)(u:Value):Prop:=
 (env.kindOf x=some .local/\m x=some u)\/((env.kindOf x=some .cell\/env.kindOf x=some .free)/\∃c,env.cells.lookup x=some c/\h.IsCell c (some u))
structure Cx.Ok (X:Cx):Prop where
 mod:Mod X.K X.mg X.base
 kind:X.env.scope.kind=.function
 glob:X.env.globals=mainGlobals
 blt:X.env.builtins=builtinsNs
 above:X.s₀.heap.objs.size<=X.env.locals
 inj:∀x y c,X.env.cells.lookup x=some c->X.env.cells.lookup y=some c->x=y
 has:∀x,(X.env.kindOf x=some .cell\/X.env.kindOf x=some .free)->∃c,X.env.cells.lookup x=some c
 cab:∀x c,X.fn x=true->X.env.cells.lookup x=some c->X.s₀.heap.objs.size<=c
 hd:X.calm=true->X.A.handled=none
 frames:X.A.frames=some X.stack
 stk:X.stack=X.outer\/(X.stack=X.env :: X.outer/\X.env.frame=some X.env.locals)
 exf:∀b∈X.ex,b≠X.env.locals/\∀x c,X.env.cells.lookup x=some c->c≠b
 bs:∀b o,X.base.get? b=some o->X.s₀.heap.get? b=some o/\X.H₀ b=none
 bsz:X.base.objs.size<=X.s₀.heap.objs.size
 noex:∀b o,X.base.get? b=some o->b∉X.ex
 exfs:∀b∈X.ex,b∉X.fs
 funs:X.s₀.heap.FunFrames X.base X.outer
 frf:∀b∈X.fs,X.H₀ b=none
structure Inv (X:Cx)(pins:List (Addr×Obj))(σ:List (Option V))(H:Hp)(s:Shared):Prop where
 ok:X.Ok
 os:s.os=X.s₀.os
 bare:AllBare s.gens
 base:Un X.fs X.ex X.H₀ H X.s₀.heap s.heap
 loc:∃m,s.heap.Ns X.env.locals m/\∀(i:Nat) (x:Str) (v:V),X.N[i]? =some x->σ[i]? =some (some v)->y7 X.env.scope x->∃u,RelV v u/\Look X.env s.heap m x u
 cell:∀x c,X.env.cells.lookup x=some c->∃v,s.heap.IsCell c v
 free:H X.env.locals=none
 freeC:∀x c,X.env.cells.lookup x=some c->H c=none
 pin:∀p∈X.pn ++ pins,s.heap.get? p.1=some p.2/\H p.1=none/\p.1≠X.env.locals/\p.1∉X.fs/\∀v,p.2.data≠.cell v
 hok:mU X.prog X.w H s.heap
 len:σ.length=X.N.length
section
variable {X:Cx}{pins:List (Addr×Obj)}{σ:List (Option V)}{H H':Hp}{s:Shared}{h':Heap}
def Cx.Ok.nofr (ok:X.Ok){b:Addr}{o:Obj}(e:X.base.get? b=some o):b∉X.fs:=λhb=>by
 have:=(ok.funs.mem hb).1
 rw[e] at this;cases this
def Inv.bs (I:Inv X pins σ H s):∀b o,X.base.get? b=some o->s.heap.get? b=some o/\H b=none:=λb o e=>
 ⟨I.base.keep b o (I.ok.bs b o e).1 (I.ok.bs b o e).2 (I.ok.nofr e) (I.ok.noex b o e),I.base.free b o (I.ok.bs b o e).1 (I.ok.bs b o e).2 (I.ok.noex b o e)⟩
def Inv.bk (I:Inv X pins σ H s):∀b o,X.base.get? b=some o->s.heap.get? b=some o:=λb o e=>(I.bs b o e).1
def Inv.mod (I:Inv X pins σ H s):Mod X.K X.mg X.base:=I.ok.mod
def Inv.kIn (I:Inv X pins σ H s):X.K.In s.heap:=I.ok.mod.kin.keeps I.bk
def Inv.lt (I:Inv X pins σ H s):X.env.locals < s.heap.objs.size:=let ⟨_,hn,_⟩:=I.loc;hn.lt
def Inv.sz (I:Inv X pins σ H s):X.s₀.heap.objs.size<=s.heap.objs.size:=N8 I.ok.above (O1 I.lt)
def Inv.nofs (I:Inv X pins σ H s){a:Addr}(h:s.heap.objs.size<=a):a∉X.fs:=λhb=>by
 obtain⟨_,o,ho,_⟩:=I.ok.funs.mem hb
 exact absurd (NM (Nl ho) (N8 I.sz h)) (NL _)
def Inv.cne (I:Inv X pins σ H s):∀x c,X.env.cells.lookup x=some c->c≠X.env.locals:=λx c e z=>by
 obtain⟨v,o,ho,hd⟩:=I.cell x c e
 obtain⟨m,⟨o',es,ep,ho',hd',_⟩,_⟩:=I.loc
 rw[z,ho'] at ho;cases ho;rw[hd'] at hd;cases hd
def Inv.funs (I:Inv X pins σ H s):s.heap.FunFrames X.base X.outer:=by
 have all:∀(l:List Env),(∀b∈nC l,b∈X.fs)->X.s₀.heap.FunFrames X.base l->s.heap.FunFrames X.base l:=by
  intro l
  induction l with
  |nil=>intro _ _;trivial
  |cons env r ih=>
   intro hs hl
   obtain⟨hk,⟨L,o,hf,hn,ho,hd⟩,hr⟩:=hl
   have hL:L∈X.fs:=hs L (by unfold nC;rw[List.filterMap_cons,hf];exact Np)
   obtain⟨sl,e⟩:=I.base.slot L o ho (I.ok.frf L hL) hL λz=>I.ok.exfs L z hL
   exact⟨hk,⟨L,_,hf,hn,e,hd⟩,ih (λb hb=>hs b (by unfold nC;rw[List.filterMap_cons,hf];exact Nn _ hb)) hr⟩
 exact all X.outer (λ_ hb=>hb) I.ok.funs
def Inv.stack (I:Inv X pins σ H s):s.heap.FunFrames X.base X.stack:=by
 rcases I.ok.stk with e | ⟨e,hf⟩
 ·rw[e];exact I.funs
 ·rw[e]
  obtain⟨m,hn,_⟩:=I.loc
  refine .cons (by rw[I.ok.kind];decide) hf hn ?_ I.funs
  exact Heap.get?_none_of_le (N8 I.ok.bsz I.ok.above)
def Inv.stkSub (I:Inv X pins σ H s):∀b∈nC X.stack,b∈X.env.locals :: X.fs:=λb hb=>by
 rcases I.ok.stk with e | ⟨e,hf⟩
 ·rw[e] at hb;exact Nn _ hb
 ·rw[e] at hb
  unfold nC at hb
  rw[List.filterMap_cons,hf] at hb
  exact hb
def Inv.stkFree (I:Inv X pins σ H s):∀b∈nC X.stack,H b=none:=λb hb=>by
 rcases Nh.mp (I.stkSub b hb) with e |hb
 ·rw[e];exact I.free
 ·obtain⟨_,o,ho,_⟩:=I.ok.funs.mem hb
  exact I.base.free b o ho (I.ok.frf b hb) λz=>I.ok.exfs b z hb
def Inv.step {g':Array GenState}{t':Nat}{d':Drawn}{ch:List Addr}(I:Inv X pins σ H s)
  (hch:∀b∈ch,(b∈X.ex\/X.s₀.heap.objs.size<=b)/\b≠X.env.locals/\(∀x c,X.env.cells.lookup x=some c->c≠b)/\∀p∈X.pn ++ pins,p.1≠b)
  (keep:∀b o,b≠X.env.locals->b∉X.fs->b∉ch->s.heap.get? b=some o->H b=none->h'.get? b=some o)
  (slot:∀b o,b≠X.env.locals->b∈X.fs->b∉ch->s.heap.get? b=some o->H b=none->∃sl,h'.get? b=some {o with slots:=sl}) (free:∀b o,b∉ch->s.heap.get? b=some o->H b=none->H' b=none)
  (there:∀b o,b∉ch->s.heap.get? b=some o->∃o',h'.get? b=some o')
  (tups:∀b xs,H b=some (.tup xs)->H' b=some (.tup xs)) (frzs:∀b o u,H b=some (.aY o u)->H' b=some (.aY o u)) (tbls:∀b ps,H b=some (.tbl ps)->∃more,H' b=some (.tbl (ps ++ more)))
  (ns:∀m,s.heap.Ns X.env.locals m->h'.Ns X.env.locals m) (hok:mU X.prog X.w H' h') (hg:AllBare g') :
  Inv X pins σ H' {s with heap:=h',gens:=g',drawn:=d',toks:=t'}:=by
 have neL:∀b o,X.s₀.heap.get? b=some o->b≠X.env.locals:=λb o e=>N0 (NM (Nl e) I.ok.above)
 have neC:∀b o,X.s₀.heap.get? b=some o->b∉X.ex->b∉ch:=λb o e hx hb=>by
  rcases (hch b hb).1 with z |z
  ·exact hx z
  ·exact absurd (NM (Nl e) z) (NL _)
 have cellK:∀x c,X.env.cells.lookup x=some c->∀v,s.heap.IsCell c v->h'.IsCell c v:=λx c e v ⟨o,ho,hd⟩=>by
  have nch:c∉ch:=λz=>(hch c z).2.2.1 x c e rfl
  by_cases hc:c∈X.fs
  ·obtain⟨sl,q⟩:=slot c o (I.cne x c e) hc nch ho (I.freeC x c e)
   exact⟨_,q,hd⟩
  ·exact⟨o,keep c o (I.cne x c e) hc nch ho (I.freeC x c e),hd⟩
 refine⟨I.ok,I.os,hg,⟨λb o e n hb hx=>?_,λb o e n hb hx=>?_,λb o e n hx=>?_,λb o e hx=>?_,λb xs e=>tups b xs (I.base.tups b xs e),λb o xs e=>frzs b o xs (I.base.frzs b o xs e),λb ps e=>?_⟩,?_,λx c e=>?_,?_,λx c e=>?_,λp hp=>?_,hok,I.len⟩
 ·exact keep b o (neL b o e) hb (neC b o e hx) (I.base.keep b o e n hb hx) (I.base.free b o e n hx)
 ·obtain⟨sl,e1⟩:=I.base.slot b o e n hb hx
  obtain⟨sl',e2⟩:=slot b _ (neL b o e) hb (neC b o e hx) e1 (I.base.free b o e n hx)
  exact⟨sl',e2⟩
 ·obtain⟨o',e1⟩:=I.base.there b o e hx
  exact free b o' (neC b o e hx) e1 (I.base.free b o e n hx)
 ·obtain⟨o',e1⟩:=I.base.there b o e hx
  exact there b o' (neC b o e hx) e1
 ·obtain⟨m1,e1⟩:=I.base.tbls b ps e
  obtain⟨m2,e2⟩:=tbls b _ e1
  exact⟨m1 ++ m2,by rw[e2,Array.append_assoc]⟩
 ·obtain⟨m,hn,hl⟩:=I.loc
  refine⟨m,ns m hn,λi x v e1 e2 e3=>?_⟩
  obtain⟨u,r,l⟩:=hl i x v e1 e2 e3
  refine⟨u,r,?_⟩
  rcases l with l | ⟨k,c,e,z⟩
  ·exact .inl l
  ·exact .inr ⟨k,c,e,cellK x c e _ z⟩
 ·obtain⟨v,z⟩:=I.cell x c e
  exact⟨v,cellK x c e v z⟩
 ·obtain⟨m,⟨o,_,_,ho,_⟩,_⟩:=I.loc
  exact free _ o (λz=>(hch _ z).2.1 rfl) ho I.free
 ·obtain⟨v,o,ho,hd⟩:=I.cell x c e
  exact free c o (λz=>(hch c z).2.2.1 x c e rfl) ho (I.freeC x c e)
 ·obtain⟨e,n,ne,nf,d⟩:=I.pin p hp
  have nch:p.1∉ch:=λz=>(hch p.1 z).2.2.2 p hp rfl
  exact⟨keep p.1 p.2 ne nf nch e n,free p.1 p.2 nch e n,ne,nf,d⟩
def Inv.un {t':Nat}(I:Inv X pins σ H s)(u:Un X.fs [] H H' s.heap h')(hok:mU X.prog X.w H' h'):Inv X pins σ H' {s with heap:=h',toks:=t'}:=by
 obtain⟨m,⟨o,es,ep,ho,r⟩,_⟩:=id I.loc
 obtain⟨sl,hL⟩:=u.any ho I.free (by simp)
 exact I.step (g':=s.gens) (d':=s.drawn) (ch:=[]) (λ_ z=>nomatch z) (λb o _ hb _ e n=>u.keep b o e n hb (by simp)) (λb o _ hb _ e n=>u.slot b o e n hb (by simp)) (λb o _ e n=>u.free b o e n (by simp)) (λb o _ e=>u.there b o e (by simp)) u.tups u.frzs u.tbls (λm' hm=>by
  obtain⟨o',es',ep',ho',r'⟩:=hm
  rw[ho] at ho';cases ho'
  exact⟨_,es',ep',hL,r'⟩) hok I.bare
def Inv.call {g':Array GenState}{t':Nat}{d':Drawn}{ch:List Addr}(I:Inv X pins σ H s)(u:Un (nC X.stack) ch H H' s.heap h')(hok:mU X.prog X.w H' h')(hg:AllBare g')
  (hch:∀b∈ch,(b∈X.ex\/X.s₀.heap.objs.size<=b)/\b≠X.env.locals/\(∀x c,X.env.cells.lookup x=some c->c≠b)/\∀p∈X.pn ++ pins,p.1≠b) :
  Inv X pins σ H' {s with heap:=h',gens:=g',drawn:=d',toks:=t'}:=by
 obtain⟨m,⟨o,es,ep,ho,r⟩,_⟩:=id I.loc
 obtain⟨sl,hL⟩:=u.any ho I.free λz=>(hch _ z).2.1 rfl
 exact I.step (ch:=ch) hch (λb o hL hb hc e n=>u.keep b o e n (λz=>(Nh.mp (I.stkSub b z)).elim hL hb) hc) (λb o _ _ hc e n=>u.any e n hc) (λb o hc e n=>u.free b o e n hc) (λb o hc e=>u.there b o e hc) u.tups u.frzs u.tbls (λm' hm=>by
  obtain⟨o',es',ep',ho',r'⟩:=hm
  rw[ho] at ho';cases ho'
  exact⟨_,es',ep',hL,r'⟩) hok hg
def Inv.turned {t':Nat}{it:Addr}(I:Inv X pins σ H s)(k:∀b o,b≠it->s.heap.get? b=some o->h'.get? b=some o)(hn:H it=none)(hL:it≠X.env.locals)
  (h1:it∈X.ex\/X.s₀.heap.objs.size<=it) (h2:∀x c,X.env.cells.lookup x=some c->c≠it) (h3:∀p∈X.pn ++ pins,p.1≠it):Inv X pins σ H {s with heap:=h',toks:=t'}:=by
 have nit:∀b u,H b=some u->b≠it:=λb u e z=>by rw[z,hn] at e;cases e
 refine I.step (g':=s.gens) (d':=s.drawn) (ch:=[it]) (λb hb=>?_) (λb o _ _ hc e _=>k b o (λz=>hc (by simp[z])) e) (λb o _ _ hc e _=>⟨o.slots,k b o (λz=>hc (by simp[z])) e⟩) (λ_ _ _ _ n=>n)
  (λb o hc e=>⟨o,k b o (λz=>hc (by simp[z])) e⟩) (λ_ _ e=>e) (λ_ _ _ e=>e) (λb ps e=>⟨#[],by rw[e];simp⟩) (λm hm=>?_) (λb u e=>?_) I.bare
 ·have e:b=it:=by simpa using hb
  subst e
  exact⟨h1,hL,h2,h3⟩
 ·obtain⟨o,es,ep,ho,r⟩:=hm
  exact⟨o,es,ep,k _ o (Ne.symm hL) ho,r⟩
 ·refine (I.hok b u e).stay (λc v hc q=>k c v ?_ q) (λ_ q=>q) λ_ _ q=>q
  rcases hc with z |z
  ·rw[z];exact nit b u e
  ·exact nit c _ z
def Inv.tok (I:Inv X pins σ H s)(t:Nat):Inv X pins σ H {s with toks:=t}:=I.un (h':=s.heap) (t':=t) Un.refl I.hok
def Inv.kept {t':Nat}(I:Inv X pins σ H s)(k:∀b u,s.heap.get? b=some u->h'.get? b=some u):Inv X pins σ H {s with heap:=h',toks:=t'}:=I.un (Un.kept k) (I.hok.kept k)
def Inv.laid {a:Addr}{o:HO}{t':Nat}(I:Inv X pins σ H s)(k:∀b u,s.heap.get? b=some u->h'.get? b=some u)(hp:s.heap.objs.size<=a)(new:cW X.prog X.w (upd H a o) h' a o) :
  Inv X pins σ (upd H a o) {s with heap:=h',toks:=t'}:=I.un (Un.laid k hp (I.hok.fresh hp)) (I.hok.laid k hp new)
def Inv.write {x e:Addr}{o:HO}{t':Nat}(I:Inv X pins σ H s)(mu:Lf (H x))(he:e=x\/H e=some (.own x))(k:∀b u,b≠e->s.heap.get? b=some u->h'.get? b=some u)(heo:∃u,h'.get? e=some u)
  (new:cW X.prog X.w (upd H x o) h' x o):Inv X pins σ (upd H x o) {s with heap:=h',toks:=t'}:=I.un (Un.write mu he k heo) (I.hok.write mu he k heo new)
def Inv.pins_of {pins':List (Addr×Obj)}(I:Inv X pins σ H s)(h:∀p∈pins',s.heap.get? p.1=some p.2/\H p.1=none/\p.1≠X.env.locals/\p.1∉X.fs/\∀v,p.2.data≠.cell v):Inv X pins' σ H s:=
 ⟨I.ok,I.os,I.bare,I.base,I.loc,I.cell,I.free,I.freeC,λp hp=>(Nz.mp hp).elim (λz=>I.pin p (OQ _ z)) (h p),I.hok,I.len⟩
def vU {N:List Str}(hN:N.Nodup){i j:Nat}{x:Str}(a:N[i]? =some x)(b:N[j]? =some x):i=j:=by
 obtain⟨h1,e1⟩:=Ng.mp a
 obtain⟨h2,e2⟩:=Ng.mp b
 exact (List.getElem_inj hN).mp (e1.trans e2.symm)
def tL {M:Model}{A:Around}{E:Value->Shared->Prop}{i:Nat}{x:Str}{v:V}{u:Value}{Q:Unit->Shared->Prop}(I:Inv X pins σ H s)(hN:X.N.Nodup)(hi:X.N[i]? =some x)(hx:Loc X.env.scope x)(r:RelV v u)
  (h:∀s',Inv X pins (σ.set i (some v)) H s'->(∃a,Heap.SameBut a s.heap s'.heap/\(a=X.env.locals\/X.env.cells.lookup x=some a))->Q () s') (hf:X.fn x=true\/X.env.scope.names.lookup x=some .local:=by first |exact .inl rfl |exact .inr rfl |assumption):wpAny M A (storeName X.env x u) Q E s:=by
 obtain⟨m,hn,hl⟩:=id I.loc
 have hcls:(X.env.scope.kind == .class || (X.env.scope.kind == .module && X.env.locals != X.env.globals))=false:=by rw[I.ok.kind];rfl
 have hiσ:i < σ.length:=by rw[I.len];exact (Ng.mp hi).1
 have cne:=I.cne
 have tracked:∀{a:Addr} {h':Heap},(∃o,s.heap.get? a=some o/\H a=none)->Heap.SameBut a s.heap h'->mU X.prog X.w H h':=λ{a h'} ha hs b ob e=>by
  obtain⟨_,_,hfree⟩:=ha
  refine (I.hok b ob e).stay (λc w' hc q=>(hs.2 c ?_).trans q) (λ_ q=>q) λ_ _ q=>q
  rintro rfl
  rcases hc with rfl |hc
  ·rw[hfree] at e;cases e
  ·rw[hfree] at hc;cases hc
 rcases hx with hk |hk
 ·refine wpAny_storeName_local hk hn (λh' hn' hs=>?_) hcls
  obtain⟨oL,_,_,hoL,_⟩:=id hn
  refine h _ ⟨I.ok,I.os,I.bare,⟨λb o e n hb hx=>?_,λb o e n hb hx=>?_,I.base.free,λb o e hx=>?_,I.base.tups,I.base.frzs,I.base.tbls⟩,⟨_,hn',λj y v' e1 e2 e3=>?_⟩,λy c e=>?_,I.free,I.freeC,λp hp=>?_,tracked ⟨oL,hoL,I.free⟩ hs,by simpa using I.len⟩ ⟨_,hs,.inl rfl⟩
  ·exact (hs.2 b (N0 (NM (Nl e) I.ok.above))).trans (I.base.keep b o e n hb hx)
  ·obtain⟨sl,e1⟩:=I.base.slot b o e n hb hx
   exact⟨sl,(hs.2 b (N0 (NM (Nl e) I.ok.above))).trans e1⟩
  ·obtain⟨o',e1⟩:=I.base.there b o e hx
   exact⟨o',(hs.2 b (N0 (NM (Nl e) I.ok.above))).trans e1⟩
  ·by_cases hj:j=i
   ·subst hj
    rw[hi] at e1;cases e1
    rw[ND hiσ] at e2
    cases e2
    exact⟨u,r,.inl ⟨hk,by simp⟩⟩
   ·rw[NA (Ne.symm hj)] at e2
    obtain⟨u',r',q⟩:=hl j y v' e1 e2 e3
    refine⟨u',r',?_⟩
    rcases q with⟨k,e⟩ | ⟨k,c,e,z⟩
    ·refine .inl ⟨k,?_⟩
     have:y≠x:=λe=>hj (vU hN e1 (e▸hi))
     simp[this,e]
    ·exact .inr ⟨k,c,e,z.sameBut hs (cne y c e)⟩
  ·obtain⟨w',z⟩:=I.cell y c e
   exact⟨w',z.sameBut hs (cne y c e)⟩
  ·obtain⟨e,n,ne,nf,d⟩:=I.pin p hp
   exact⟨(hs.2 p.1 ne).trans e,n,ne,nf,d⟩
 ·have hfn:X.fn x=true:=by
   rcases hf with z |z
   ·exact z
   ·rw[z] at hk;cases hk
  obtain⟨c,hc⟩:=I.ok.has x (.inl hk)
  obtain⟨w',z⟩:=I.cell x c hc
  refine wpAny_storeName_cell I.ok.kind hk hc z (λh' hc' hs=>?_)
  obtain⟨oc,hoc,hocd⟩:=id z
  refine h {s with heap:=h'} ⟨I.ok,I.os,I.bare,⟨λb o e n hb hx=>?_,λb o e n hb hx=>?_,I.base.free,λb o e hx=>?_,I.base.tups,I.base.frzs,I.base.tbls⟩,⟨m,hn.sameBut hs (Ne.symm (cne x c hc)),λj y v' e1 e2 e3=>?_⟩,λy c' e=>?_,I.free,I.freeC,λp hp=>?_,tracked ⟨oc,hoc,I.freeC x c hc⟩ hs,by simpa using I.len⟩ ⟨c,hs,.inr hc⟩
  ·exact (hs.2 b (N0 (NM (Nl e) (I.ok.cab x c hfn hc)))).trans (I.base.keep b o e n hb hx)
  ·obtain⟨sl,e1⟩:=I.base.slot b o e n hb hx
   exact⟨sl,(hs.2 b (N0 (NM (Nl e) (I.ok.cab x c hfn hc)))).trans e1⟩
  ·obtain⟨o',e1⟩:=I.base.there b o e hx
   exact⟨o',(hs.2 b (N0 (NM (Nl e) (I.ok.cab x c hfn hc)))).trans e1⟩
  ·by_cases hj:j=i
   ·subst hj
    rw[hi] at e1;cases e1
    rw[ND hiσ] at e2
    cases e2
    exact⟨u,r,.inr ⟨.inl hk,c,hc,hc'⟩⟩
   ·rw[NA (Ne.symm hj)] at e2
    obtain⟨u',r',q⟩:=hl j y v' e1 e2 e3
    refine⟨u',r',?_⟩
    rcases q with q | ⟨k,c',e,z'⟩
    ·exact .inl q
    ·refine .inr ⟨k,c',e,z'.sameBut hs ?_⟩
     rintro rfl
     exact hj (vU hN e1 (I.ok.inj _ _ _ e hc▸hi))
  ·by_cases hcc:c'=c
   ·subst hcc;exact⟨_,hc'⟩
   ·obtain⟨w2,z2⟩:=I.cell y c' e
    exact⟨w2,z2.sameBut hs hcc⟩
  ·obtain⟨e,n,ne,nf,d⟩:=I.pin p hp
   refine⟨(hs.2 p.1 ?_).trans e,n,ne,nf,d⟩
   intro q
   rw[q,hoc] at e
   have q':oc=p.2:=Option.some.inj e
   exact d w' (by rw[<-q'];exact hocd)
def wH {M:Model}{A:Around}{E:Value->Shared->Prop}{i:Nat}{x:Str}{v:V}{u:Value}{Q:Unit->Shared->Prop}(I:Inv X pins σ H s)(hN:X.N.Nodup)(hi:X.N[i]? =some x)(hx:Loc X.env.scope x)(r:RelV v u)
  (h:∀s',Inv X pins (σ.set i (some v)) H s'->Q () s') (hf:X.fn x=true\/X.env.scope.names.lookup x=some .local:=by first |exact .inl rfl |exact .inr rfl |assumption):wpAny M A (storeName X.env x u) Q E s:=
 tL I hN hi hx r (λs' I' _=>h s' I') hf
def Inv.call' {s':Shared}{ch:List Addr}(I:Inv X pins σ H s)(ho:s'.os=s.os)(u:Un (nC X.stack) ch H H' s.heap s'.heap)(hok:mU X.prog X.w H' s'.heap)(hg:AllBare s'.gens)
  (hch:∀b∈ch,(b∈X.ex\/X.s₀.heap.objs.size<=b)/\b≠X.env.locals/\(∀x c,X.env.cells.lookup x=some c->c≠b)/\∀p∈X.pn ++ pins,p.1≠b):Inv X pins σ H' s':=by
 obtain⟨h',g',d',t',o'⟩:=s'
 have e:o'=s.os:=ho
 subst e
 exact I.call (g':=g') (t':=t') (d':=d') u hok hg hch
end
abbrev XK:=Value->Option Addr->Hp->Prop
abbrev St:=List (Option V)
abbrev VK:=V->Hp->Prop
abbrev TE:=St->Hp->VK->Prop
abbrev TT:=St->Hp->(Bool->Hp->Prop)->Prop
abbrev TA:=St->Hp->(List V->Hp->Prop)->Prop
structure Ends where
 nx:St->Hp->Prop
 rt:VK
 bk:St->Hp->Prop:=λ_ _=>False
 ct:St->Hp->Prop:=λ_ _=>False
abbrev TS:=Ends->St->Hp->Prop
def EP (X:Cx)(pins:List (Addr×Obj))(σ:St)(Q:VK)(u:Value)(s':Shared):Prop:=∃v H',Inv X pins σ H' s'/\RelV v u/\Q v H'
def TP (X:Cx)(pins:List (Addr×Obj))(σ:St)(Q:Bool->Hp->Prop)(b:Bool)(s':Shared):Prop:=∃H',Inv X pins σ H' s'/\Q b H'
def AP (X:Cx)(pins:List (Addr×Obj))(σ:St)(Q:List V->Hp->Prop)(us:List Value)(s':Shared):Prop:=∃vs H',Inv X pins σ H' s'/\Vals vs us/\Q vs H'
def SP (X:Cx)(pins:List (Addr×Obj))(D:Ends)(f:Flow)(s':Shared):Prop:=
 match f with
 | .next=>∃σ' H',Inv X pins σ' H' s'/\D.nx σ' H'
 | .brk=>∃σ' H',Inv X pins σ' H' s'/\D.bk σ' H'
 | .cont=>∃σ' H',Inv X pins σ' H' s'/\D.ct σ' H'
 | .ret u=>∃v σ' H',Inv X pins σ' H' s'/\RelV v u/\D.rt v H'
def PE (X:Cx)(e:Expr)(t:TE):Prop:=
 ∀(pins:List (Addr×Obj)) (s:Shared) (σ:St) (H:Hp) (Q:VK),Inv X pins σ H s->t σ H Q->wpAny (model X.prog X.w) X.A (eval e X.env) (EP X pins σ Q) X.xe s
def PT (X:Cx)(e:Expr)(t:TT):Prop:=
 ∀(pins:List (Addr×Obj)) (s:Shared) (σ:St) (H:Hp) (Q:Bool->Hp->Prop),Inv X pins σ H s->t σ H Q->wpAny (model X.prog X.w) X.A (isTrue e X.env (eval e X.env)) (TP X pins σ Q) X.xe s
def PW (X:Cx)(e:Expr)(t:TT):Prop:=
 ∀(whole:Sem Value) (pins:List (Addr×Obj)) (s:Shared) (σ:St) (H:Hp) (Q:Bool->Hp->Prop),Inv X pins σ H s->t σ H Q->wpAny (model X.prog X.w) X.A (isTrue e X.env whole) (TP X pins σ Q) X.xe s
def PW.pt {X:Cx}{e:Expr}{t:TT}(h:PW X e t):PT X e t:=h _
def PA (X:Cx)(es:List Expr)(t:TA):Prop:=
 ∀(pos:Pos) (pins:List (Addr×Obj)) (s:Shared) (σ:St) (H:Hp) (Q:List V->Hp->Prop),Inv X pins σ H s->t σ H Q->wpAny (model X.prog X.w) X.A (spliced (backTo pos (starEach es X.env))) (AP X pins σ Q) X.xe s
def PS (X:Cx)(st:Stmt)(t:TS):Prop:=
 ∀(pins:List (Addr×Obj)) (s:Shared) (σ:St) (H:Hp) (D:Ends),Inv X pins σ H s->t D σ H->wpAny (model X.prog X.w) X.A (exec st X.env) (SP X pins D) X.xe s
def rO (X:Cx)(st:List Stmt)(t:TS):Prop:=
 ∀(pins:List (Addr×Obj)) (s:Shared) (σ:St) (H:Hp) (D:Ends),Inv X pins σ H s->t D σ H->wpAny (model X.prog X.w) X.A (execs st X.env) (SP X pins D) X.xe s
def cK {α:Type}{t:Sem α}{Q Q':α->Shared->Prop}{M:Model}{A:Around}{E:Value->Shared->Prop}{s:Shared}(h:wpAny M A t Q E s)(hQ:∀a s,Q a s->Q' a s):wpAny M A t Q' E s:=Of h hQ λ_ _ x=>x
section
variable {X:Cx}
def bin {a b:Expr}{ta tb:TE}(ha:PE X a ta)(hb:PE X b tb){pins:List (Addr×Obj)}{s:Shared}{σ:St}{H:Hp}{R:V->V->Hp->Prop}(I:Inv X pins σ H s)(h:ta σ H λx H1=>tb σ H1 λy H2=>R x y H2)
  {α:Type} {Q:α->Shared->Prop} {f:Value->Value->Sem α}
  (hf:∀v u s2 x y H2,Inv X pins σ H2 s2->RelV x v->RelV y u->R x y H2->wpAny (model X.prog X.w) X.A (f v u) Q X.xe s2) :
  wpAny (model X.prog X.w) X.A (eval a X.env) (λv s₁=>wpAny (model X.prog X.w) X.A (eval b X.env) (λu s₂=>wpAny (model X.prog X.w) X.A (f v u) Q X.xe s₂) X.xe s₁) X.xe s:=by
 refine cK (ha pins s σ H _ I h) λv s1 ⟨x,H1,I1,r1,q1⟩=>?_
 refine cK (hb pins s1 σ H1 _ I1 q1) λu s2 ⟨y,H2,I2,r2,q2⟩=>?_
 exact hf v u s2 x y H2 I2 r1 r2 q2
def D3 (i:Nat):TE:=λσ H Q=>∃v,σ[i]? =some (some v)/\Q v H
def tC (v:V):TE:=λ_ H Q=>Q v H
def ki {i:Nat}{x:Str}{pos:Pos}(hN:X.N[i]? =some x)(hv:y7 X.env.scope x)(hd:(x == ("__debug__":Str))=false:=by decide)(hcd:(x == ("__classdict__":Str))=false:=by decide):PE X (.Name x pos) (D3 i):=by
 intro pins s σ H Q I h
 obtain⟨v,e,h⟩:=h
 obtain⟨m,hn,hl⟩:=I.loc
 obtain⟨u,r,l⟩:=hl i x v hN e hv
 have fin:EP X pins σ Q u s:=⟨v,H,I,r,h⟩
 rcases l with⟨hk,hm⟩ | ⟨hk,c,hc,hcell⟩
 ·exact wpAny_Name (wpAny_loadName_local I.ok.kind hk hn hm fin) hd
 ·rcases hk with hk |hk
  ·exact wpAny_Name (wpAny_loadName_cell I.ok.kind hk hc hcell fin) hd
  ·exact wpAny_Name (wpAny_loadName_free I.ok.kind hk hc hcell fin hcd) hd
def xD {i j pos}:PE X (.Constant (.int i) j pos) (tC (.int i)):=λ_ _ _ H _ I h=>wpAny_Constant_int ⟨.int i,H,I.tok _,⟨_,rfl⟩,h⟩
def yR {b j pos}:PE X (.Constant (.bool b) j pos) (tC (.bl b)):=λ_ _ _ H _ I h=>Constant_bool ⟨.bl b,H,I,rfl,h⟩
def GX {j pos}:PE X (.Constant .none j pos) (tC .non):=λ_ _ _ H _ I h=>Constant_none ⟨.non,H,I,rfl,h⟩
def HQ {x j pos}:PE X (.Constant (.str x) j pos) (tC (.str x)):=λ_ _ _ H _ I h=>Calls.Constant_str ⟨.str x,H,I.tok _,⟨_,rfl⟩,h⟩
def Gl (X:Cx)(x:Str):Prop:=X.env.kindOf x=some .globalImplicit
def uM {E:Value->Shared->Prop}{pins:List (Addr×Obj)}{s:Shared}{σ:St}{H:Hp}{x:Str}{u:Value}{pos:Pos}{Q:Value->Shared->Prop}(I:Inv X pins σ H s)(hg:Gl X x)(hm:X.mg x=some u)(h:Q u s)
  (hd:(x == ("__debug__":Str))=false:=by decide):wpAny (model X.prog X.w) X.A (eval (.Name x pos) X.env) Q E s:=
 Calls.Name_function_global I.ok.kind hg (Calls.loadGlobal_global (by rw[I.ok.glob];exact I.mod.glob.keeps I.bk) hm h) hd
def lX {E:Value->Shared->Prop}{pins:List (Addr×Obj)}{s:Shared}{σ:St}{H:Hp}{x:Str}{u:Value}{pos:Pos}{Q:Value->Shared->Prop}(I:Inv X pins σ H s)(hg:Gl X x)(hm:X.mg x=none)(hv:bootBuiltins x=some u)(h:Q u s)
  (hn:x≠"__name__":=by decide) (hd:(x == ("__debug__":Str))=false:=by decide):wpAny (model X.prog X.w) X.A (eval (.Name x pos) X.env) Q E s:=by
 obtain⟨mb,h1,h2⟩:=I.mod.blt
 exact Calls.Name_function_global I.ok.kind hg (Calls.loadGlobal_builtin (by rw[I.ok.glob];exact I.mod.glob.keeps I.bk) hm (by rw[I.ok.blt];exact h1.keeps I.bk) ((h2 x hn).trans hv) h) hd
def ES {x:Str}{v:V}{u:Value}{pos:Pos}(hg:Gl X x)(hm:X.mg x=some u)(r:RelV v u)(hd:(x == ("__debug__":Str))=false:=by decide):PE X (.Name x pos) (tC v):=
 λ_ _ _ H _ I h=>uM I hg hm ⟨v,H,I,r,h⟩ hd
def E7 {x:Str}{v:V}{u:Value}{pos:Pos}(hg:Gl X x)(hm:X.mg x=none)(hv:bootBuiltins x=some u)(r:RelV v u)(hn:x≠"__name__":=by decide)(hd:(x == ("__debug__":Str))=false:=by decide):PE X (.Name x pos) (tC v):=
 λ_ _ _ H _ I h=>lX I hg hm hv ⟨v,H,I,r,h⟩ hn hd
variable {a b:Expr}{ta tb:TE}{pos:Pos}
def PC (X:Cx)(op:CmpOp)(a b:Expr)(t:TE):Prop:=
 ∀(pins:List (Addr×Obj)) (s:Shared) (σ:St) (H:Hp) (Q:VK),Inv X pins σ H s->t σ H Q->
  wpAny (model X.prog X.w) X.A (eval a X.env) (λv s₁=>wpAny (model X.prog X.w) X.A (eval b X.env) (λu s₂=>wpAny (model X.prog X.w) X.A (compareOp op v u) (EP X pins σ Q) X.xe s₂) X.xe s₁) X.xe s
def xh (b:Expr){op:CmpOp}(h:op≠.In)(h2:op≠.NotIn):behindInMarks op b=false:=by
 have e1:(op == CmpOp.In)=false:=by cases op <;> first |rfl |exact absurd rfl h
 have e2:(op == CmpOp.NotIn)=false:=by cases op <;> first |rfl |exact absurd rfl h2
 cases b <;> simp[behindInMarks,e1,e2]
def Mk (ta:TE):TE:=λσ H Q=>ta σ H λx H1=>Q (.bl (decide (x=.non))) H1
def KJ (ta:TE):TE:=λσ H Q=>ta σ H λx H1=>Q (.bl (!decide (x=.non))) H1
theorem RelV.none_iff {x:V}{v:Value}(r:RelV x v):(v == Value.none)=decide (x=.non):=by
 cases x with
 |non=>cases r;rfl
 |bl _=>cases r;rfl
 |int _=>obtain⟨t,rfl⟩:=r;rfl
 |str _=>obtain⟨t,rfl⟩:=r;rfl
 |byt _=>obtain⟨t,rfl⟩:=r;rfl
 |flt _=>obtain⟨t,rfl⟩:=r;rfl
 |ref _=>cases r;rfl
 |ty _=>cases r;rfl
def Gz {j pos'}(ha:PE X a ta):PC X .Is a (.Constant .none j pos') (Mk ta):=by
 intro pins s σ H Q I h
 refine cK (ha pins s σ H _ I h) λv s1 ⟨x,H1,I1,r1,q1⟩=>?_
 exact Constant_none (is_none_gen ⟨.bl _,H1,I1,by rw[r1.none_iff];rfl,q1⟩)
def Fi {j pos'}(ha:PE X a ta):PC X .IsNot a (.Constant .none j pos') (KJ ta):=by
 intro pins s σ H Q I h
 refine cK (ha pins s σ H _ I h) λv s1 ⟨x,H1,I1,r1,q1⟩=>?_
 exact Constant_none (isnot_none_gen ⟨.bl _,H1,I1,by rw[r1.none_iff];rfl,q1⟩)
def tB (t:TE):TT:=λσ H Q=>t σ H λx H1=>∃c,x=.bl c/\Q c H1
def GB {op:CmpOp}{t:TE}(h:PC X op a b t)(h1:behindInMarks op b=false:=by first |exact xh _ (by decide) (by decide) |rfl):PE X (.Compare a [op] [b] pos) t:=λpins s σ H Q I hw=>wpAny_Compare1 (h pins s σ H Q I hw) h1
def G7 {op:CmpOp}{t:TE}(h:PC X op a b t)(h1:behindInMarks op b=false:=by first |exact xh _ (by decide) (by decide) |rfl):PT X (.Compare a [op] [b] pos) (tB t):=by
 intro pins s σ H Q I hw
 refine wpAny_isTrue_Compare1 (cK (h pins s σ H _ I hw) λv s1 h1=>cK h1 λu s2 h2=>cK h2 λc s3 ⟨x,H1,I1,r1,q1⟩=>?_) h1
 obtain⟨d,rfl,q⟩:=q1
 cases r1
 exact N9 ⟨H1,I1,q⟩
def yf {e:Expr}{t:TE}(h:PE X e t)(he:∀whole,isTrue e X.env whole=(do let v <-whole;standAt e.pos;holding [v] (truthy v)):=by intro _;rfl):PT X e (tB t):=by
 intro pins s σ H Q I hw
 refine isTrue_plain (cK (h pins s σ H _ I hw) λv s1 ⟨x,H1,I1,r1,q1⟩=>?_) (he _)
 obtain⟨d,rfl,q⟩:=q1
 cases r1
 exact N9 ⟨H1,I1,q⟩
variable {tA tB':TT}{rest:List Expr}
def Mh (t u:TT):TT:=λσ H Q=>t σ H λc H1=>if c=true then u σ H1 Q else Q false H1
def M1 (t u:TT):TT:=λσ H Q=>t σ H λc H1=>if c=true then Q true H1 else u σ H1 Q
def LA (t:TT):TT:=λσ H Q=>t σ H λc H1=>Q (!c) H1
theorem zK (ha:PT X a tA):PW X (.BoolOp .And [a] pos) tA:=by
 intro wh pins s σ H Q I h
 refine isTrue_and (cK (ha pins s σ H Q I h) λc s1 e=>?_)
 cases c with
 |true=>exact isTrue_and_nil e
 |false=>exact e
theorem GF (ha:PT X a tA):PW X (.BoolOp .Or [a] pos) tA:=by
 intro wh pins s σ H Q I h
 refine isTrue_or (cK (ha pins s σ H Q I h) λc s1 e=>?_)
 cases c with
 |false=>exact isTrue_or_nil e
 |true=>exact e
theorem Cd (ha:PT X a tA)(hb:PW X (.BoolOp .And (b :: rest) pos) tB'):PW X (.BoolOp .And (a :: b :: rest) pos) (Mh tA tB'):=by
 intro wh pins s σ H Q I h
 refine isTrue_and (cK (ha pins s σ H _ I h) λc s1 ⟨H1,I1,q1⟩=>?_)
 cases c with
 |true=>exact hb wh pins s1 σ H1 Q I1 q1
 |false=>exact⟨H1,I1,q1⟩
theorem Ju (ha:PT X a tA)(hb:PW X (.BoolOp .Or (b :: rest) pos) tB'):PW X (.BoolOp .Or (a :: b :: rest) pos) (M1 tA tB'):=by
 intro wh pins s σ H Q I h
 refine isTrue_or (cK (ha pins s σ H _ I h) λc s1 ⟨H1,I1,q1⟩=>?_)
 cases c with
 |true=>exact⟨H1,I1,q1⟩
 |false=>exact hb wh pins s1 σ H1 Q I1 q1
def Gy (ha:PT X a tA):PT X (.UnaryOp .Not a pos) (LA tA):=by
 intro pins s σ H Q I h
 exact isTrue_not (ha pins s σ H (λc H1=>Q (!c) H1) I h)
def KR (ta tb:TE):TE:=λσ H Q=>ta σ H λx H1=>∃c,x=.bl c/\if c=true then tb σ H1 Q else Q (.bl false) H1
def L6 (ta tb:TE):TE:=λσ H Q=>ta σ H λx H1=>∃c,x=.bl c/\if c=true then Q (.bl true) H1 else tb σ H1 Q
def Kq (ta:TE):TE:=λσ H Q=>ta σ H λx H1=>∃c,x=.bl c/\Q (.bl (!c)) H1
def IJ {op}{t:TE}(h:PE X a t):PE X (.BoolOp op [a] pos) t:=λpins s σ H Q I hw=>BoolOp_one (h pins s σ H Q I hw)
theorem GP (ha:PE X a ta)(hb:PE X (.BoolOp .And (b :: rest) pos) tb):PE X (.BoolOp .And (a :: b :: rest) pos) (KR ta tb):=by
 intro pins s σ H Q I h
 refine BoolOp_and (cK (ha pins s σ H _ I h) λv s1 ⟨x,H1,I1,r1,q1⟩=>?_)
 obtain⟨c,rfl,q1⟩:=q1
 cases r1
 refine N9 ?_
 cases c with
 |true=>exact hb pins s1 σ H1 Q I1 q1
 |false=>exact⟨.bl false,H1,I1,rfl,q1⟩
theorem Jp (ha:PE X a ta)(hb:PE X (.BoolOp .Or (b :: rest) pos) tb):PE X (.BoolOp .Or (a :: b :: rest) pos) (L6 ta tb):=by
 intro pins s σ H Q I h
 refine BoolOp_or (cK (ha pins s σ H _ I h) λv s1 ⟨x,H1,I1,r1,q1⟩=>?_)
 obtain⟨c,rfl,q1⟩:=q1
 cases r1
 refine N9 ?_
 cases c with
 |false=>exact hb pins s1 σ H1 Q I1 q1
 |true=>exact⟨.bl true,H1,I1,rfl,q1⟩
def GC (ha:PE X a ta):PE X (.UnaryOp .Not a pos) (Kq ta):=by
 intro pins s σ H Q I h
 refine UnaryOp_ (cK (ha pins s σ H _ I h) λv s1 ⟨x,H1,I1,r1,q1⟩=>?_)
 obtain⟨c,rfl,q1⟩:=q1
 cases r1
 exact not_of (N9 ⟨.bl (!c),H1,I1,rfl,q1⟩)
def MY (t:TT)(ta tb:TE):TE:=λσ H Q=>t σ H λc H1=>if c=true then ta σ H1 Q else tb σ H1 Q
theorem CF {c:Expr}(hc:PT X c tA)(ha:PE X a ta)(hb:PE X b tb):PE X (.IfExp c a b pos) (MY tA ta tb):=by
 intro pins s σ H Q I h
 refine wpAny_IfExp (cK (hc pins s σ H _ I h) λd s1 ⟨H1,I1,q1⟩=>?_)
 cases d with
 |true=>exact ha pins s1 σ H1 Q I1 q1
 |false=>exact hb pins s1 σ H1 Q I1 q1
end
def iM (K:Frag)(H:Hp)(a:Addr)(xs:List V):Prop:=
 Rd H a (.lst xs)\/
  ∃(o:Obj) (its:Array Value) (n:Nat),K.lookup a=some o/\o.cls=.type "list"/\o.dict=none/\o.data=.seq its n/\its.size<=sizeLine/\Vals xs its.toList
def gB (K:Frag)(H:Hp)(a:Addr)(xs:List V):Prop:=
 Rd H a (.tup xs)\/
  ∃(o:Obj) (its:Array Value) (n:Nat),K.lookup a=some o/\o.cls=.type "tuple"/\o.data=.seq its n/\its.size<=sizeLine/\Vals xs its.toList/\o.dict=none
def LN:Value->Option V
 | .none=>some .non
 | .bool b=>some (.bl b)
 | .int i _=>some (.int i)
 | .str x _=>some (.str x)
 | .bytes b _=>some (.byt b)
 | .float b _=>some (.flt b)
 | .ref a=>some (.ref a)
 | .type n=>some (.ty n)
 |_=>none
theorem RelV.abs {x:V}{u:Value}(r:RelV x u):LN u=some x:=by
 cases x with
 |non=>cases r;rfl
 |bl _=>cases r;rfl
 |int _=>obtain⟨t,rfl⟩:=r;rfl
 |str _=>obtain⟨t,rfl⟩:=r;rfl
 |byt _=>obtain⟨t,rfl⟩:=r;rfl
 |flt _=>obtain⟨t,rfl⟩:=r;rfl
 |ref _=>cases r;rfl
 |ty _=>cases r;rfl
def RelV.inj {x y:V}{u:Value}(r:RelV x u)(q:RelV y u):x=y:=Option.some.inj (r.abs.symm.trans q.abs)
theorem Vals.inj:∀{xs ys:List V} {us:List Value},Vals xs us->Vals ys us->xs=ys
 |_,_,_,.nil,.nil=>rfl
 |_,_,_,.cons r t,.cons r' t'=>by rw[r.inj r',Vals.inj t t']
section
variable {X:Cx}{pins:List (Addr×Obj)}{σ:St}{H:Hp}{s:Shared}{a:Addr}{xs ys:List V}
def Inv.list (I:Inv X pins σ H s)(h:iM X.K H a xs):∃its:List Value,Vals xs its/\PlainL s.heap a its.toArray/\xs.length<=sizeLine:=by
 rcases h with h | ⟨o,its,n,hk,hc,hd,hs,hz,r⟩
 ·obtain⟨z,its,n,r,e⟩:=h.ok I.hok
  exact⟨its,r,⟨_,n,e,rfl,rfl,rfl⟩,z⟩
 ·refine⟨its.toList,r,⟨o,n,I.kIn a o hk,hc,hd,by simpa using hs⟩,?_⟩
  have e:=r.length
  simp only[Array.length_toList] at e
  omega
def Inv.tuple (I:Inv X pins σ H s)(h:gB X.K H a xs):∃its:List Value,Vals xs its/\IsTup s.heap a its.toArray/\xs.length<=sizeLine:=by
 rcases h with h | ⟨o,its,n,hk,hc,hs,hz,r,_⟩
 ·obtain⟨z,its,r,p⟩:=h.ok I.hok
  exact⟨its,r,p.isTup,z⟩
 ·refine⟨its.toList,r,⟨o,I.kIn a o hk,hc,n,by simpa using hs⟩,?_⟩
  have e:=r.length
  simp only[Array.length_toList] at e
  omega
def Inv.list_inj (I:Inv X pins σ H s)(h:iM X.K H a xs)(h':iM X.K H a ys):xs=ys:=by
 obtain⟨its,r,⟨o,n,e,_,_,d⟩,_⟩:=I.list h
 obtain⟨its',r',⟨o',n',e',_,_,d'⟩,_⟩:=I.list h'
 rw[e] at e';cases e'
 rw[d] at d'
 injection d' with d1 _
 have:its=its':=by simpa using congrArg Array.toList d1
 subst this
 exact r.inj r'
def Inv.tuple_inj (I:Inv X pins σ H s)(h:gB X.K H a xs)(h':gB X.K H a ys):xs=ys:=by
 obtain⟨its,r,⟨o,e,_,n,d⟩,_⟩:=I.tuple h
 obtain⟨its',r',⟨o',e',_,n',d'⟩,_⟩:=I.tuple h'
 rw[e] at e';cases e'
 rw[d] at d'
 injection d' with d1 _
 have:its=its':=by simpa using congrArg Array.toList d1
 subst this
 exact r.inj r'
end
abbrev Cx.wish (X:Cx)(E:Value->Shared->Prop):Cx:={X with xe:=E}
abbrev Cx.nox (X:Cx):Cx:=X.wish λ_ _=>False
def Cx.Ok.wish {X:Cx}(ok:X.Ok)(E:Value->Shared->Prop):(X.wish E).Ok:=
 ⟨ok.mod,ok.kind,ok.glob,ok.blt,ok.above,ok.inj,ok.has,ok.cab,ok.hd,ok.frames,ok.stk,ok.exf,ok.bs,ok.bsz,ok.noex,ok.exfs,ok.funs,ok.frf⟩
def Cx.Ok.unwish {X:Cx}{E:Value->Shared->Prop}(ok:(X.wish E).Ok):X.Ok:=
 ⟨ok.mod,ok.kind,ok.glob,ok.blt,ok.above,ok.inj,ok.has,ok.cab,ok.hd,ok.frames,ok.stk,ok.exf,ok.bs,ok.bsz,ok.noex,ok.exfs,ok.funs,ok.frf⟩
section
variable {X:Cx}{pins:List (Addr×Obj)}{σ:St}{H:Hp}{s:Shared}{E:Value->Shared->Prop}
def Inv.wish (I:Inv X pins σ H s)(E:Value->Shared->Prop):Inv (X.wish E) pins σ H s:=⟨I.ok.wish E,I.os,I.bare,I.base,I.loc,I.cell,I.free,I.freeC,I.pin,I.hok,I.len⟩
def Inv.unwish (I:Inv (X.wish E) pins σ H s):Inv X pins σ H s:=⟨I.ok.unwish,I.os,I.bare,I.base,I.loc,I.cell,I.free,I.freeC,I.pin,I.hok,I.len⟩
theorem SP.unwish {D:Ends}{f:Flow}{s':Shared}(h:SP (X.wish E) pins D f s'):SP X pins D f s':=by
 cases f with
 |next=>obtain⟨σ',H',I,q⟩:=h;exact⟨σ',H',I.unwish,q⟩
 |brk=>obtain⟨σ',H',I,q⟩:=h;exact⟨σ',H',I.unwish,q⟩
 |cont=>obtain⟨σ',H',I,q⟩:=h;exact⟨σ',H',I.unwish,q⟩
 |ret u=>obtain⟨v,σ',H',I,r,q⟩:=h;exact⟨v,σ',H',I.unwish,r,q⟩
def rO.nox {st:List Stmt}{t:TS}(h:rO X.nox st t):rO X st t:=λpins s σ H D I hw=>
 Of (h pins s σ H D (I.wish _) hw) (λ_ _ q=>q.unwish) λ_ _ z=>False.elim z
end
section
variable {X:Cx}{st:Stmt}{rest:List Stmt}{t u:TS}{e:Expr}{te:TE}{pos:Pos}
def Kg:TS:=λD σ H=>D.nx σ H
def LJ (t u:TS):TS:=λD σ H=>t {D with nx:=u D} σ H
def zh:rO X [] Kg:=λ_ _ σ H _ I h=>wpAny_execs_nil ⟨σ,H,I,h⟩
theorem ju (h1:PS X st t)(h2:rO X rest u):rO X (st :: rest) (LJ t u):=by
 intro pins s σ H D I h
 refine wpAny_execs_cons (cK (h1 pins s σ H {D with nx:=u D} I h) λf s1 q=>?_)
 cases f with
 |next=>
  obtain⟨σ',H',I',q⟩:=q
  exact h2 pins s1 σ' H' D I' q
 |ret v=>exact q
 |brk=>exact q
 |cont=>exact q
theorem jL (h1:PS X st t):rO X [st] t:=by
 intro pins s σ H D I h
 refine wpAny_execs_cons (cK (h1 pins s σ H D I h) λf s1 q=>?_)
 cases f with
 |next=>exact wpAny_execs_nil q
 |ret v=>exact q
 |brk=>exact q
 |cont=>exact q
def Inv.quiet {pins:List (Addr×Obj)}{σ:St}{H:Hp}{s:Shared}(I:Inv X pins σ H s):interactive X.env=false:=by simp[interactive,I.ok.kind]
def KN (te:TE):TS:=λD σ H=>te σ H λ_ H1=>D.nx σ H1
def pZ (he:PE X e te)(hs:swapsWith e none pos.line X.env=pure false:=by rfl):PS X (.Expr e pos) (KN te):=by
 intro pins s σ H D I h
 exact wpAny_Expr_any (cK (he pins s σ H _ I h) λv s1 ⟨x,H1,I1,r1,q1⟩=>⟨σ,H1,I1,q1⟩) I.quiet hs
def LC (te:TE):TS:=λD σ H=>te σ H D.rt
def oB (he:PE X e te):PS X (.Return (some e) pos) (LC te):=by
 intro pins s σ H D I h
 exact wpAny_Return_some (cK (he pins s σ H _ I h) λv s1 ⟨x,H1,I1,r1,q1⟩=>⟨x,σ,H1,I1,r1,q1⟩)
def LP (c:TT)(t u:TS):TS:=λD σ H=>c σ H λb H1=>if b=true then t D σ H1 else u D σ H1
theorem FK {c:Expr}{a b:List Stmt}{tc:TT}(hc:PT X c tc)(ha:rO X a t)(hb:rO X b u):PS X (.If c a b pos) (LP tc t u):=by
 intro pins s σ H D I h
 refine wpAny_If (cK (hc pins s σ H _ I h) λd s1 ⟨H1,I1,q1⟩=>?_)
 cases d with
 |true=>exact ha pins s1 σ H1 D I1 q1
 |false=>exact hb pins s1 σ H1 D I1 q1
end
abbrev TG:=V->St->Hp->(St->Hp->Prop)->Prop
abbrev HX:=List V->St->Hp->(St->Hp->Prop)->Prop
def PG (X:Cx)(target:Expr)(t:TG):Prop:=
 ∀(pins:List (Addr×Obj)) (s:Shared) (σ:St) (H:Hp) (v:V) (u:Value) (Q:St->Hp->Prop),Inv X pins σ H s->RelV v u->t v σ H Q->
  wpAny (model X.prog X.w) X.A (assign target X.env u) (λ_ s'=>∃σ' H',Inv X pins σ' H' s'/\Q σ' H') X.xe s
def K1 (X:Cx)(ts:List Expr)(t:HX):Prop:=
 ∀(pins:List (Addr×Obj)) (s:Shared) (σ:St) (H:Hp) (vs:List V) (us:List Value) (Q:St->Hp->Prop),Inv X pins σ H s->Vals vs us->t vs σ H Q->
  wpAny (model X.prog X.w) X.A (assignInOrder ((assignEach ts X.env).map (·.2)) us) (λ_ s'=>∃σ' H',Inv X pins σ' H' s'/\Q σ' H') X.xe s
abbrev HG:=V->V->V->Hp->(Hp->Prop)->Prop
def B7 (X:Cx)(t:HG):Prop:=
 ∀(pins:List (Addr×Obj)) (s:Shared) (σ:St) (H:Hp) (o i v:V) (ov iv u:Value) (Q:Hp->Prop),Inv X pins σ H s->RelV o ov->RelV i iv->RelV v u->t o i v H Q->
  wpAny (model X.prog X.w) X.A (setItem ov iv u) (λ_ s'=>∃H',Inv X pins σ H' s'/\Q H') X.xe s
section
variable {X:Cx}{pos:Pos}
def mV (i:Nat):TG:=λv σ H Q=>Q (σ.set i (some v)) H
def dC {i:Nat}{x:Str}(hN:X.N.Nodup)(hi:X.N[i]? =some x)(hx:Loc X.env.scope x)(hf:X.fn x=true\/X.env.scope.names.lookup x=some .local:=by first |exact .inl rfl |exact .inr rfl |assumption):PG X (.Name x pos) (mV i):=by
 intro pins s σ H v u Q I r h
 exact wpAny_assign_Name (wH I hN hi hx r (λs' I'=>⟨_,H,I',h⟩) hf)
def EV:HX:=λvs σ H Q=>vs= []/\Q σ H
def qF (t:TG)(u:HX):HX:=λvs σ H Q=>∃v r,vs=v :: r/\t v σ H λσ' H'=>u r σ' H' Q
def nH:K1 X [] EV:=by
 intro pins s σ H vs us Q I r h
 obtain⟨e,h⟩:=h
 subst e
 cases r
 exact assignInOrder_nil ⟨σ,H,I,h⟩
theorem fg {e:Expr}{es:List Expr}{t:TG}{u:HX}(h1:PG X e t)(h2:K1 X es u)
  (hs:(assignEach (e :: es) X.env).map (·.2)=assign e X.env :: (assignEach es X.env).map (·.2):=by rfl):K1 X (e :: es) (qF t u):=by
 intro pins s σ H vs us Q I r h
 obtain⟨v,vr,e1,h⟩:=h
 subst e1
 cases r with
 |cons r rr=>
  rw[hs]
  refine assignInOrder_cons (cK (h1 pins s σ H _ _ _ I r h) λ_ s1 ⟨σ1,H1,I1,q1⟩=>?_)
  exact h2 pins s1 σ1 H1 _ _ Q I1 rr q1
def Fd (K:Frag)(n:Nat)(t:HX):TG:=λv σ H Q=>∃a xs,v=.ref a/\gB K H a xs/\xs.length=n/\t xs σ H Q
def qK {es:List Expr}{k:Nat}{t:HX}{n:Nat}(hc:X.calm=true)(h:K1 X es t)
  (hn:(assignEach es X.env).length=n:=by rfl) (hst:(assignEach es X.env).findIdx? (·.1)=none:=by rfl):PG X (.Tuple es k pos) (Fd X.K n t):=by
 intro pins s σ H v u Q I r hw
 obtain⟨a,xs,e1,hq,hl,hw⟩:=hw
 subst e1
 cases r
 obtain⟨its,rv,ht,hz⟩:=I.tuple hq
 refine assign_Tuple_tuple (I.ok.hd hc) ht (by simp[hn,<-hl,rv.length]) hst λh' hx=>?_
 have I1:Inv X pins σ H {s with heap:=h'}:=I.kept (t':=s.toks) λb o e=>hx b o (N0 (Nl e)) e
 exact h pins _ σ H xs _ Q I1 (by simpa using rv) hw
def Mq (to ti:TE)(t:HG):TG:=λv σ H Q=>to σ H λo H1=>ti σ H1 λi H2=>t o i v H2 λH3=>Q σ H3
def vg {o i:Expr}{to ti:TE}{t:HG}(ho:PE X o to)(hi:PE X i ti)(hs:B7 X t)
  (ha:∀v,assign (.Subscript o i pos) X.env v=(do
   let ov <-holding [v] (eval o X.env)
   let iv <-holding [v,ov] (eval i X.env)
   standAt pos
   holding [v,ov,iv] (setItem ov iv v)
   release [v,ov,iv] []):=by intro _;rfl):PG X (.Subscript o i pos) (Mq to ti t):=by
 intro pins s σ H v u Q I r h
 rw[ha]
 refine Nf (OI (cK (ho pins s σ H _ I h) λov s1 ⟨x,H1,I1,r1,q1⟩=>?_))
 refine Nf (OI (cK (hi pins s1 σ H1 _ I1 q1) λiv s2 ⟨y,H2,I2,r2,q2⟩=>?_))
 refine Nf (wpAny_standAt (Nf (OI (cK (hs pins s2 σ H2 x y v ov iv u _ I2 r1 r2 r q2) λ_ s3 ⟨H3,I3,q3⟩=>?_))))
 exact wpAny_release ⟨σ,H3,I3,q3⟩
def J9 (te:TE)(g:TG):TS:=λD σ H=>te σ H λx H1=>g x σ H1 D.nx
def rl {tg e:Expr}{te:TE}{g:TG}(he:PE X e te)(hg:PG X tg g)(hs:swapsWithSole [tg] e pos.line X.env=pure false:=by rfl)(hw:swappedStores [tg] e X.env=pure none:=by rfl)
  (h1:(assignEach [tg] X.env).map (·.2)= [assign tg X.env]:=by rfl):PS X (.Assign [tg] e pos) (J9 te g):=by
 intro pins s σ H D I h
 refine wpAny_Assign_stores (cK (he pins s σ H _ I h) λv s1 ⟨x,H1,I1,r1,q1⟩=>?_) hs hw
 rw[h1]
 exact cK (hg pins s1 σ H1 x v _ I1 r1 q1) λ_ s2 q=>q
def qd {i:Nat}{x:Str}{e:Expr}{te:TE}{pos':Pos}(hN:X.N.Nodup)(hi:X.N[i]? =some x)(hx:Loc X.env.scope x)(he:PE X e te)(hs:swapsWith e (some (.Name x pos')) pos.line X.env=pure false:=by rfl)(hf:X.fn x=true\/X.env.scope.names.lookup x=some .local:=by first |exact .inl rfl |exact .inr rfl |assumption) :
  PS X (.Assign [.Name x pos'] e pos) (J9 te (mV i)):=by
 intro pins s σ H D I h
 refine wpAny_Assign_Name (cK (he pins s σ H _ I h) λv s1 ⟨y,H1,I1,r1,q1⟩=>?_) hs
 exact wH I1 hN hi hx r1 (λs2 I2=>⟨_,H1,I2,q1⟩) hf
end
section
variable {X:Cx}{pos:Pos}
def IE (c:TT)(tb:TS):TS:=λD σ H=>∃W:Nat->St->Hp->Prop,(∃m,W m σ H)/\∀m σ H,W m σ H->
 c σ H λb H1=>if b=true then ∃N:St->Hp->Prop,(∀σ' H',N σ' H'->∃m',m' < m/\W m' σ' H')/\tb {D with nx:=N,ct:=N,bk:=D.nx} σ H1 else D.nx σ H1
theorem BH {c:Expr}{body:List Stmt}{tc:TT}{tb:TS}(hp:PassesOwn (model X.prog X.w) X.A X.env X.xe)(hc:PT X c tc)(hb:rO X body tb):PS X (.While c body [] pos) (IE tc tb):=by
 intro pins s σ H D I h
 obtain⟨W,⟨m0,w0⟩,turn⟩:=h
 refine wpAny_While (codeAny_whileLoop (λn s'=>∃σ' H',Inv X pins σ' H' s'/\W n σ' H') ?_ m0 ⟨σ,H,I,w0⟩)
 rintro n s1 ⟨σ1,H1,I1,w1⟩
 refine ON hp (cK (hc pins s1 σ1 H1 _ I1 (turn n σ1 H1 w1)) λb s2 ⟨H2,I2,q2⟩=>?_)
 cases b with
 |true=>
  obtain⟨N,hN,q2⟩:=q2
  rw[Nc rfl]
  refine ON hp (cK (hb pins s2 σ1 H2 _ I2 q2) λf s3 q3=>?_)
  cases f with
  |next=>
   obtain⟨σ3,H3,I3,n3⟩:=q3
   obtain⟨m',hm,w3⟩:=hN σ3 H3 n3
   exact⟨m',hm,σ3,H3,I3,w3⟩
  |cont=>
   obtain⟨σ3,H3,I3,n3⟩:=q3
   obtain⟨m',hm,w3⟩:=hN σ3 H3 n3
   exact⟨m',hm,σ3,H3,I3,w3⟩
  |brk=>exact q3
  |ret v=>exact q3
 |false=>
  rw[Nk Nj]
  exact wpAny_execs_nil ⟨σ1,H2,I2,q2⟩
end
structure It where
 go:Nat->Hp->Prop
 yld:Nat->Hp->V->Hp->Prop
 stop:Nat->Hp->Prop
def kz (X:Cx)(pins:List (Addr×Obj))(H:Hp)(b:Addr):Prop:=
 H b=none/\b≠X.env.locals/\b∉X.fs/\(b∈X.ex\/X.s₀.heap.objs.size<=b)/\(∀x c,X.env.cells.lookup x=some c->c≠b)/\∀p∈X.pn ++ pins,p.1≠b
def Inv.fpOk {X:Cx}{pins:List (Addr×Obj)}{σ:St}{H H':Hp}{s:Shared}{b:Addr}(I:Inv X pins σ H s)(hb:s.heap.objs.size<=b)(hn:H' b=none):kz X pins H' b:=by
 refine⟨hn,Nat.ne_of_gt (NM I.lt hb),I.nofs hb,.inr (N8 I.sz hb),λx c e z=>?_,λp hp z=>?_⟩
 ·obtain⟨v,q⟩:=I.cell x c e
  exact absurd (NM q.lt (by rw[z];exact hb)) (NL _)
 ·exact absurd (NM (Nl (I.pin p hp).1) (by rw[z];exact hb)) (NL _)
structure Turn (P:Program)(w:World)(K:Frag)(tg:Expr)(J:It)(fp:List Addr)(it:Addr)(tn:Nat->Heap->Prop):Prop where
 mem:it∈fp
 obj:∀i h,tn i h->∀b∈fp,∃o,h.get? b=some o/\∀v,o.data≠.cell v
 keep:∀i h h',tn i h->(∀b∈fp,∀o,h.get? b=some o->h'.get? b=some o)->tn i h'
 item:∀(X:Cx),X.prog=P->X.w=w->X.K=K->X.calm=true->∀(i:Nat) (pins:List (Addr×Obj)) (s:Shared) (σ:St) (H:Hp) (E:Value->Shared->Prop),Inv X pins σ H s->(∀b∈fp,kz X pins H b)->tn i s.heap->J.go i H->
  wpAny (model P w) X.A (pyNext (.ref it)) (λr s1=>∃u,r=some u/\
   wpAny (model P w) X.A (letOwnedTupleGo tg (.ref it) u) (λ_ s2=>∃x H',Inv X pins σ H' s2/\RelV x u/\J.yld i H x H'/\tn (i + 1) s2.heap/\∀b∈fp,H' b=none) E s1) E s
 done:∀(X:Cx),X.prog=P->X.w=w->X.K=K->X.calm=true->∀(i:Nat) (pins:List (Addr×Obj)) (s:Shared) (σ:St) (H:Hp) (E:Value->Shared->Prop),Inv X pins σ H s->(∀b∈fp,kz X pins H b)->tn i s.heap->J.stop i H->
  wpAny (model P w) X.A (pyNext (.ref it)) (λr s1=>r=none/\Inv X pins σ H s1) E s
 self:∀(A:Around) (i:Nat) (s:Shared) (Q:Value->Shared->Prop) (E:Value->Shared->Prop),tn i s.heap->Q (.ref it) s->wpAny (model P w) A (pyIter (.ref it)) Q E s
abbrev TI:=St->Hp->(It->Hp->Prop)->Prop
def MC (X:Cx)(pins:List (Addr×Obj))(σ:St)(tg:Expr)(R:It->Hp->Prop)(itv:Value)(s2:Shared):Prop:=
 ∃(it:Addr) (fp:List Addr) (tn:Nat->Heap->Prop) (J:It) (H':Hp),itv=.ref it/\Inv X pins σ H' s2/\Turn X.prog X.w X.K tg J fp it tn/\tn 0 s2.heap/\(∀b∈fp,kz X pins H' b)/\R J H'
def PI (X:Cx)(tg iter:Expr)(wi:TI):Prop:=
 ∀(pins:List (Addr×Obj)) (s:Shared) (σ:St) (H:Hp) (R:It->Hp->Prop),Inv X pins σ H s->wi σ H R->
  wpAny (model X.prog X.w) X.A (eval iter X.env) (λv s1=>wpAny (model X.prog X.w) X.A (pyIter v) (MC X pins σ tg R) X.xe s1) X.xe s
def Bm {M:Model}{A:Around}{E:Value->Shared->Prop}{s:Shared}{tg:Expr}{it:Addr}{u:Value}{o:Obj}{n:String}{vs:Array Value}{Q:Unit->Shared->Prop}(ho:s.heap.get? it=some o)(hc:o.cls=.type n)(hd:o.data=.fields vs)
  (hn: ["enumerate","zip","dict_itemiterator","dict_reverseitemiterator","odict_iterator","itertools.zip_longest","itertools.pairwise"].contains n=false) (hQ:Q () s):wpAny M A (letOwnedTupleGo tg (.ref it) u) Q E s:=by
 unfold letOwnedTupleGo
 cases tg <;> first
  |exact NJ hQ
  | (cases u <;> first
    |exact NJ hQ
    | (refine Nf (wpAny_load ho ?_)
       rw[hc,hd]
       show wpAny M A (if (["enumerate","zip","dict_itemiterator","dict_reverseitemiterator","odict_iterator","itertools.zip_longest","itertools.pairwise"].contains n && vs[0]? == some (rawInt _))=true then _ else _) Q E s
       rw[Nk (by intro h;rw[hn,Bool.false_and] at h;cases h)]
       exact NJ hQ))
def Ba (K:Frag)(a:Addr):It:=
 ⟨λi H=>∃xs x,iM K H a xs/\xs[i]? =some x,λi H x H'=>H'=H/\∀xs,iM K H a xs->xs[i]? =some x,λi H=>∃xs,iM K H a xs/\xs.length<=i⟩
def Gq (K:Frag)(a:Addr):It:=
 ⟨λi H=>∃xs x,gB K H a xs/\xs[i]? =some x,λi H x H'=>H'=H/\∀xs,gB K H a xs->xs[i]? =some x,λi H=>∃xs,gB K H a xs/\xs.length<=i⟩
def Ae (lo:Int)(n:Nat):It:=⟨λi _=>i < n,λi H x H'=>H'=H/\x=.int (lo + i),λi _=>n<=i⟩
def oy {P:Program}{w:World}{K:Frag}{tg:Expr}(a it:Addr):Turn P w K tg (Ba K a) [it] it (λi h=>h.IsListIter it a i) where
 mem:=by simp
 obj:=λi h st b hb=>by
  have e:b=it:=by simpa using hb
  subst e
  obtain⟨o,e,c,d⟩:=st
  exact⟨o,e,λv z=>by rw[d] at z;cases z⟩
 keep:=λi h h' st k=>st.at λo e=>k it (by simp) o e
 item:=by
  intro X hP hw hK hc i pins s σ H E I hf st hg
  subst hP hw hK
  obtain⟨xs,x,hq,hx⟩:=hg
  obtain⟨its,rv,p,hz⟩:=I.list hq
  obtain⟨u,hu,ru⟩:=rv.get hx
  obtain⟨f0,f1,f2,f3,f4,f5⟩:=hf it (by simp)
  refine wpAny_pyNext_list_item st p.isList (x:=u) (by simpa using hu) λh' st' sb=>?_
  have I1:Inv X pins σ H {s with heap:=h'}:=I.turned (t':=s.toks) (λb o hb e=>(sb.2 b hb).trans e) f0 f1 f3 f4 f5
  obtain⟨o,e,c,d⟩:=id st'
  exact⟨u,rfl,Bm (s:={s with heap:=h'}) e c d (by decide) ⟨x,H,I1,ru,⟨rfl,λys hy=>by rw[I.list_inj hy hq];exact hx⟩,st',λb hb=>(hf b hb).1⟩⟩
 done:=by
  intro X hP hw hK hc i pins s σ H E I hf st hg
  subst hP hw hK
  obtain⟨xs,hq,hx⟩:=hg
  obtain⟨its,rv,p,hz⟩:=I.list hq
  obtain⟨f0,f1,f2,f3,f4,f5⟩:=hf it (by simp)
  have hl:=rv.length
  exact wpAny_pyNext_list_end (I.ok.hd hc) st p.isList (by simp;omega) λh' eb=>⟨rfl,I.turned (t':=s.toks) (λb o hb e=>eb b o hb e) f0 f1 f3 f4 f5⟩
 self:=λ_ _ _ _ _ st h=>wpAny_pyIter_listiter st h
def qB {P:Program}{w:World}{K:Frag}{tg:Expr}(a it:Addr):Turn P w K tg (Gq K a) [it] it (λi h=>h.IsTupleIter it a i) where
 mem:=by simp
 obj:=λi h st b hb=>by
  have e:b=it:=by simpa using hb
  subst e
  obtain⟨o,e,c,d⟩:=st
  exact⟨o,e,λv z=>by rw[d] at z;cases z⟩
 keep:=λi h h' st k=>st.at λo e=>k it (by simp) o e
 item:=by
  intro X hP hw hK hc i pins s σ H E I hf st hg
  subst hP hw hK
  obtain⟨xs,x,hq,hx⟩:=hg
  obtain⟨its,rv,p,hz⟩:=I.tuple hq
  obtain⟨u,hu,ru⟩:=rv.get hx
  obtain⟨f0,f1,f2,f3,f4,f5⟩:=hf it (by simp)
  refine wpAny_pyNext_tuple_item st (show s.heap.IsTuple a its.toArray from p) (x:=u) (by simpa using hu) λh' st' sb=>?_
  have I1:Inv X pins σ H {s with heap:=h'}:=I.turned (t':=s.toks) (λb o hb e=>(sb.2 b hb).trans e) f0 f1 f3 f4 f5
  obtain⟨o,e,c,d⟩:=id st'
  exact⟨u,rfl,Bm (s:={s with heap:=h'}) e c d (by decide) ⟨x,H,I1,ru,⟨rfl,λys hy=>by rw[I.tuple_inj hy hq];exact hx⟩,st',λb hb=>(hf b hb).1⟩⟩
 done:=by
  intro X hP hw hK hc i pins s σ H E I hf st hg
  subst hP hw hK
  obtain⟨xs,hq,hx⟩:=hg
  obtain⟨its,rv,p,hz⟩:=I.tuple hq
  obtain⟨f0,f1,f2,f3,f4,f5⟩:=hf it (by simp)
  have hl:=rv.length
  exact wpAny_pyNext_tuple_end (I.ok.hd hc) st (show s.heap.IsTuple a its.toArray from p) (by simp;omega) λh' eb=>⟨rfl,I.turned (t':=s.toks) (λb o hb e=>eb b o hb e) f0 f1 f3 f4 f5⟩
 self:=λ_ _ _ _ _ st h=>wpAny_pyIter_tupleiter st h
def xO {P:Program}{w:World}{K:Frag}{tg:Expr}(it:Addr)(lo:Int)(n:Nat):Turn P w K tg (Ae lo n) [it] it (λi h=>IsRangeIter h it (lo + (i:Nat) * 1) ((n:Int) - (i:Nat)) 1) where
 mem:=by simp
 obj:=λi h st b hb=>by
  have e:b=it:=by simpa using hb
  subst e
  exact⟨_,st,λv z=>by
   have z':Data.fields _=Data.cell v:=z
   cases z'⟩
 keep:=λi h h' st k=>k it (by simp) _ st
 item:=by
  intro X hP hw hK hc i pins s σ H E I hf st hg
  subst hP hw hK
  obtain⟨f0,f1,f2,f3,f4,f5⟩:=hf it (by simp)
  have W:=Walks.range (prog:=X.prog) (w:=X.w) (I.ok.hd hc) it lo 1 n
  refine W.item i s _ _ hg st λv h' tk hv st' kk=>?_
  obtain⟨t,rfl⟩:=hv
  have I1:Inv X pins σ H {s with heap:=h',toks:=tk}:=I.turned (λb o hb e=>kk b o (by simpa using hb) e) f0 f1 f3 f4 f5
  refine⟨_,rfl,Bm (s:={s with heap:=h',toks:=tk}) (n:="range_iterator") st' rfl rfl (by decide) ⟨.int (lo + i),H,I1,⟨t,?_⟩,⟨rfl,rfl⟩,st',λb hb=>(hf b hb).1⟩⟩
  rw[Int.mul_one]
 done:=by
  intro X hP hw hK hc i pins s σ H E I hf st hg
  subst hP hw hK
  obtain⟨f0,f1,f2,f3,f4,f5⟩:=hf it (by simp)
  exact wpAny_pyNext_range_end (I.ok.hd hc) st (by have:n<=i:=hg;omega) λh' eb=>⟨rfl,I.turned (t':=s.toks) (λb o hb e=>eb b o hb e) f0 f1 f3 f4 f5⟩
 self:=λ_ _ _ _ _ st h=>wpAny_pyIter_rangeiter st h
section
variable {X:Cx}{tg:Expr}
def JH (K:Frag)(tl:TE):TI:=λσ H R=>tl σ H λx H1=>∃a,x=.ref a/\(∃xs,iM K H1 a xs)/\R (Ba K a) H1
def zv {l:Expr}{tl:TE}(hl:PE X l tl):PI X tg l (JH X.K tl):=by
 intro pins s σ H R I h
 refine cK (hl pins s σ H _ I h) λv s1 ⟨x,H1,I1,r1,q1⟩=>?_
 obtain⟨a,e,⟨xs,hq⟩,q⟩:=q1
 subst e
 cases r1
 obtain⟨its,rv,p,hz⟩:=I1.list hq
 refine OP p.isList ?_
 refine⟨s1.heap.objs.size,[s1.heap.objs.size],_,_,H1,rfl,I1.kept (t':=s1.toks) λb o e=>Nd _ e,oy a _,⟨_,Nu _ rfl,rfl,rfl⟩,λb hb=>?_,q⟩
 have e:b=s1.heap.objs.size:=by simpa using hb
 subst e
 exact I1.fpOk (Na _) (I1.hok.fresh (Na _))
def v8 {pins:List (Addr×Obj)}{σ:St}{H:Hp}{s:Shared}{R:It->Hp->Prop}{E:Value->Shared->Prop}{lo hi:Int}{t u v:Tok}{tk:Nat}(I:Inv X pins σ H s)(h1: -(2 ^ 62)<=lo)(h2:lo < 2 ^ 62)(h3: -(2 ^ 62)<=hi)(h4:hi < 2 ^ 62)
  (q:R (Ae lo (hi - lo).toNat) H):wpAny (model X.prog X.w) X.A (pyIter (.ref s.heap.objs.size)) (MC X pins σ tg R) E {s with heap:=s.heap.push {cls:=.type "range",data:=.fields #[.int lo t,.int hi u,.int 1 v]},toks:=tk}:=by
 refine wpAny_pyIter_range (IsRange.new ..) (small_one h1 h2 h3 h4) ?_
 have I1:Inv X pins σ H {s with heap:=s.heap.push {cls:=.type "range",data:=.fields #[.int lo t,.int hi u,.int 1 v]},toks:=tk}:=I.kept λb o e=>Nd _ e
 refine⟨(s.heap.push {cls:=.type "range",data:=.fields #[.int lo t,.int hi u,.int 1 v]}).objs.size,[(s.heap.push {cls:=.type "range",data:=.fields #[.int lo t,.int hi u,.int 1 v]}).objs.size],_,_,H,rfl,
  I1.kept (t':=tk) λb o e=>Nd _ e,xO _ lo (hi - lo).toNat,?_,λb hb=>?_,q⟩
 ·have e1:lo + ((0:Nat):Int) * 1=lo:=by simp
  have e2:(((hi - lo).toNat:Nat):Int) - ((0:Nat):Int)=Builtin.Range.rangeSize lo hi 1:=by rw[rangeSize_one];split <;> omega
  show IsRangeIter _ _ (lo + ((0:Nat):Int) * 1) ((((hi - lo).toNat:Nat):Int) - ((0:Nat):Int)) 1
  rw[e1,e2]
  exact Nu _ rfl
 ·have e:b=(s.heap.push {cls:=.type "range",data:=.fields #[.int lo t,.int hi u,.int 1 v]}).objs.size:=by simpa using hb
  subst e
  exact I1.fpOk (Na _) (I1.hok.fresh (Na _))
def JN (ta:TA):TI:=λσ H R=>ta σ H λvs H1=>∃j:Int,vs= [.int j]/\ -(2 ^ 62)<=j/\j < 2 ^ 62/\R (Ae 0 j.toNat) H1
def JK (ta:TA):TI:=λσ H R=>ta σ H λvs H1=>∃i j:Int,vs= [.int i,.int j]/\(-(2 ^ 62)<=i/\i < 2 ^ 62/\ -(2 ^ 62)<=j/\j < 2 ^ 62)/\R (Ae i (j - i).toNat) H1
theorem mq {a:Expr}{ta:TA}{p pos:Pos}(hg:Gl X "range")(hm:X.mg "range"=none)(ha:PA X [a] ta)(hs:starEach [a] X.env= [(false,eval a X.env)]:=by rfl):PI X tg (.Call (.Name "range" p) [a] [] pos) (JN ta):=by
 intro pins s σ H R I h
 refine Call_ (lX I hg hm boot_range (Ox (cK (ha pos pins s σ H _ I h) λus s1 ⟨vs,H1,I1,r1,q1⟩=>?_) hs rfl))
 obtain⟨j,e,q1,q2,q⟩:=q1
 subst e
 cases r1 with
 |cons r rr=>
  cases rr
  obtain⟨t,rfl⟩:=r
  exact call_range_1 (v8 I1 (by omega) (by omega) q1 q2 (by simpa using q))
theorem AB {a b:Expr}{ta:TA}{p pos:Pos}(hg:Gl X "range")(hm:X.mg "range"=none)(ha:PA X [a,b] ta)(hs:starEach [a,b] X.env= [(false,eval a X.env),(false,eval b X.env)]:=by rfl)(hs2:starEach [b] X.env= [(false,eval b X.env)]:=by rfl) :
  PI X tg (.Call (.Name "range" p) [a,b] [] pos) (JK ta):=by
 intro pins s σ H R I h
 refine Call_ (lX I hg hm boot_range (Ox (cK (ha pos pins s σ H _ I h) λus s1 ⟨vs,H1,I1,r1,q1⟩=>?_) (by rw[hs,hs2]) (by rw[hs2];rfl)))
 obtain⟨i,j,e,⟨q1,q2,q3,q4⟩,q⟩:=q1
 subst e
 cases r1 with
 |cons r rr=>
  cases rr with
  |cons r' rr=>
   cases rr
   obtain⟨t,rfl⟩:=r
   obtain⟨t',rfl⟩:=r'
   exact call_range_2 (v8 I1 q1 q2 q3 q4 q)
def L9 (wi:TI)(g:TG)(tb:TS):TS:=λD σ H=>wi σ H λJ H1=>∃W:Nat->Nat->St->Hp->Prop,(∃m,W 0 m σ H1)/\∀i m σ H,W i m σ H->
 (J.stop i H/\D.nx σ H)\/(J.go i H/\∃N:St->Hp->Prop,(∀σ' H',N σ' H'->∃m',m' < m/\W (i + 1) m' σ' H')/\∀x H',J.yld i H x H'->g x σ H' λσ2 H2=>tb {D with nx:=N,ct:=N,bk:=D.nx} σ2 H2)
def rJ (fp:List Addr)(h:Heap):List (Addr×Obj):=fp.filterMap λb=>(h.get? b).map λo=>(b,o)
def kS {fp:List Addr}{h:Heap}{b:Addr}{o:Obj}(hb:b∈fp)(e:h.get? b=some o):(b,o)∈rJ fp h:=Pa.mpr ⟨b,hb,by rw[e];rfl⟩
theorem Aa {fp:List Addr}{h:Heap}{p:Addr×Obj}(hp:p∈rJ fp h):p.1∈fp/\h.get? p.1=some p.2:=by
 obtain⟨b,hb,e⟩:=Pa.mp hp
 cases q:h.get? b with
 |none=>rw[q] at e;cases e
 |some o=>
  rw[q] at e
  have e':(b,o)=p:=Option.some.inj e
  subst e'
  exact⟨hb,q⟩
def Inv.pinned {pins:List (Addr×Obj)}{σ:St}{H:Hp}{s:Shared}{fp:List Addr}(I:Inv X pins σ H s)(hf:∀b∈fp,kz X pins H b)(ho:∀b∈fp,∃o,s.heap.get? b=some o/\∀v,o.data≠.cell v):Inv X (pins ++ rJ fp s.heap) σ H s:=
 I.pins_of λp hp=>(Nz.mp hp).elim (λz=>I.pin p (NH _ z)) λz=>by
  obtain⟨hb,e⟩:=Aa z
  obtain⟨f0,f1,f2,_⟩:=hf p.1 hb
  obtain⟨o,e',d⟩:=ho p.1 hb
  rw[e] at e';cases e'
  exact⟨e,f0,f1,f2,d⟩
def Inv.unpinned {pins pl:List (Addr×Obj)}{σ:St}{H:Hp}{s:Shared}(I:Inv X (pins ++ pl) σ H s):Inv X pins σ H s:=I.pins_of λp hp=>I.pin p (NH _ (OQ _ hp))
def t7 {iter:Expr}{body:List Stmt}{wi:TI}{g:TG}{tb:TS}{pos:Pos}(hp:PassesOwn (model X.prog X.w) X.A X.env X.xe)(hc:X.calm=true)(hi:PI X tg iter wi)(hg:PG X tg g)(hb:rO X body tb)
  (hs:∀x,foldedSetIterable iter X.env x=pure x:=by intro _;rfl):PS X (.For tg iter body [] pos) (L9 wi g tb):=by
 intro pins s σ H D I h
 refine wpAny_For (cK (hi pins s σ H _ I h) λv s1 h1=>cK h1 λitv s2 h2=>?_) hs
 obtain⟨it,fp,tn,J,H2,e,I2,T,st2,f2,W,⟨m0,w0⟩,turn⟩:=h2
 subst e
 have stat:∀{H':Hp},(∀b∈fp,H' b=none)->∀b∈fp,kz X pins H' b:=λhn b hb=>⟨hn b hb,(f2 b hb).2⟩
 refine codeAny_forLoop_any (λn s'=>∃i σ' H',Inv X pins σ' H' s'/\tn i s'.heap/\(∀b∈fp,H' b=none)/\W i n σ' H') ?_ m0 ⟨0,σ,H2,I2,st2,λb hb=>(f2 b hb).1,w0⟩
 rintro n s3 ⟨i,σ3,H3,I3,st3,fr3,w3⟩
 rcases turn i n σ3 H3 w3 with⟨stop,qn⟩ | ⟨go,N,hN,step⟩
 ·refine ON hp (cK (T.done X rfl rfl rfl hc i pins s3 σ3 H3 X.xe I3 (stat fr3) st3 stop) λr s4 ⟨hr,I4⟩=>?_)
  subst hr
  exact wpAny_execs_nil ⟨σ3,H3,I4,qn⟩
 ·refine ON hp (cK (T.item X rfl rfl rfl hc i pins s3 σ3 H3 X.xe I3 (stat fr3) st3 go) λr s4 ⟨u,hr,h4⟩=>?_)
  subst hr
  refine ON hp (cK h4 λ_ s5 ⟨x,H5,I5,r5,y5,st5,fr5⟩=>?_)
  have I5':=I5.pinned (stat fr5) (T.obj _ _ st5)
  refine ON hp (cK (hg _ s5 σ3 H5 x u _ I5' r5 (step x H5 y5)) λ_ s6 ⟨σ6,H6,I6,q6⟩=>?_)
  refine ON hp (cK (hb _ s6 σ6 H6 _ I6 q6) λf s7 q7=>?_)
  have again:∀{σ7:St} {H7:Hp},Inv X (pins ++ rJ fp s5.heap) σ7 H7 s7->N σ7 H7->∃m,m < n/\∃i σ' H',Inv X pins σ' H' s7/\tn i s7.heap/\(∀b∈fp,H' b=none)/\W i m σ' H':=λ{σ7 H7} I7 n7=>by
   obtain⟨m',hm,w7⟩:=hN σ7 H7 n7
   refine⟨m',hm,i + 1,σ7,H7,I7.unpinned,T.keep _ _ _ st5 λb hb o e=>(I7.pin (b,o) (NH _ (NH _ (kS hb e)))).1,λb hb=>?_,w7⟩
   obtain⟨o,e,d⟩:=T.obj _ _ st5 b hb
   exact (I7.pin (b,o) (NH _ (NH _ (kS hb e)))).2.1
  cases f with
  |next=>obtain⟨σ7,H7,I7,n7⟩:=q7;exact again I7 n7
  |cont=>obtain⟨σ7,H7,I7,n7⟩:=q7;exact again I7 n7
  |brk=>obtain⟨σ7,H7,I7,q7⟩:=q7;exact⟨σ7,H7,I7.unpinned,q7⟩
  |ret v=>obtain⟨x7,σ7,H7,I7,r7,q7⟩:=q7;exact⟨x7,σ7,H7,I7.unpinned,r7,q7⟩
end
def vt {K:Frag}{a:Addr}{xs:List V}{g:TG}{tb:TS}{D:Ends}{σ:St}{H:Hp}(Pv:Nat->St->Hp->Prop)(h0:Pv 0 σ H)(hl:∀i σ H,i<=xs.length->Pv i σ H->iM K H a xs)
  (hs:∀i x σ H,xs[i]? =some x->Pv i σ H->g x σ H λσ2 H2=>tb {D with nx:=Pv (i + 1),ct:=Pv (i + 1),bk:=D.nx} σ2 H2) (hd:∀σ H,Pv xs.length σ H->D.nx σ H) :
  ∃W:Nat->Nat->St->Hp->Prop,(∃m,W 0 m σ H)/\∀i m σ H,W i m σ H->
   ((Ba K a).stop i H/\D.nx σ H)\/((Ba K a).go i H/\∃N:St->Hp->Prop,(∀σ' H',N σ' H'->∃m',m' < m/\W (i + 1) m' σ' H')/\∀x H',(Ba K a).yld i H x H'->g x σ H' λσ2 H2=>tb {D with nx:=N,ct:=N,bk:=D.nx} σ2 H2):=by
 refine⟨λi m σ H=>m=xs.length - i/\i<=xs.length/\Pv i σ H,⟨xs.length,by simp,N3 _,h0⟩,?_⟩
 rintro i m σ H ⟨rfl,hi,p⟩
 have q:=hl i σ H hi p
 by_cases hlt:i < xs.length
 ·refine .inr ⟨⟨xs,xs[i],q,by simp[hlt]⟩,Pv (i + 1),λσ' H' p'=>⟨xs.length - (i + 1),by omega,rfl,hlt,p'⟩,λx H' y=>?_⟩
  obtain⟨e,y⟩:=y
  subst e
  exact hs i x σ _ (y xs q) p
 ·have e:i=xs.length:=by omega
  subst e
  exact .inl ⟨⟨xs,q,Na _⟩,hd σ H p⟩
def E3 {K:Frag}{a:Addr}{xs:List V}{g:TG}{tb:TS}{D:Ends}{σ:St}{H:Hp}(Pv:Nat->St->Hp->Prop)(h0:Pv 0 σ H)(hl:∀i σ H,i<=xs.length->Pv i σ H->gB K H a xs)
  (hs:∀i x σ H,xs[i]? =some x->Pv i σ H->g x σ H λσ2 H2=>tb {D with nx:=Pv (i + 1),ct:=Pv (i + 1),bk:=D.nx} σ2 H2) (hd:∀σ H,Pv xs.length σ H->D.nx σ H) :
  ∃W:Nat->Nat->St->Hp->Prop,(∃m,W 0 m σ H)/\∀i m σ H,W i m σ H->
   ((Gq K a).stop i H/\D.nx σ H)\/((Gq K a).go i H/\∃N:St->Hp->Prop,(∀σ' H',N σ' H'->∃m',m' < m/\W (i + 1) m' σ' H')/\∀x H',(Gq K a).yld i H x H'->g x σ H' λσ2 H2=>tb {D with nx:=N,ct:=N,bk:=D.nx} σ2 H2):=by
 refine⟨λi m σ H=>m=xs.length - i/\i<=xs.length/\Pv i σ H,⟨xs.length,by simp,N3 _,h0⟩,?_⟩
 rintro i m σ H ⟨rfl,hi,p⟩
 have q:=hl i σ H hi p
 by_cases hlt:i < xs.length
 ·refine .inr ⟨⟨xs,xs[i],q,by simp[hlt]⟩,Pv (i + 1),λσ' H' p'=>⟨xs.length - (i + 1),by omega,rfl,hlt,p'⟩,λx H' y=>?_⟩
  obtain⟨e,y⟩:=y
  subst e
  exact hs i x σ _ (y xs q) p
 ·have e:i=xs.length:=by omega
  subst e
  exact .inl ⟨⟨xs,q,Na _⟩,hd σ H p⟩
def A9 {lo:Int}{n:Nat}{g:TG}{tb:TS}{D:Ends}{σ:St}{H:Hp}(Pv:Nat->St->Hp->Prop)(h0:Pv 0 σ H)
  (hs:∀i σ H,i < n->Pv i σ H->g (.int (lo + i)) σ H λσ2 H2=>tb {D with nx:=Pv (i + 1),ct:=Pv (i + 1),bk:=D.nx} σ2 H2) (hd:∀σ H,Pv n σ H->D.nx σ H) :
  ∃W:Nat->Nat->St->Hp->Prop,(∃m,W 0 m σ H)/\∀i m σ H,W i m σ H->
   ((Ae lo n).stop i H/\D.nx σ H)\/((Ae lo n).go i H/\∃N:St->Hp->Prop,(∀σ' H',N σ' H'->∃m',m' < m/\W (i + 1) m' σ' H')/\∀x H',(Ae lo n).yld i H x H'->g x σ H' λσ2 H2=>tb {D with nx:=N,ct:=N,bk:=D.nx} σ2 H2):=by
 refine⟨λi m σ H=>m=n - i/\i<=n/\Pv i σ H,⟨n,by simp,N3 _,h0⟩,?_⟩
 rintro i m σ H ⟨rfl,hi,p⟩
 by_cases hlt:i < n
 ·refine .inr ⟨hlt,Pv (i + 1),λσ' H' p'=>⟨n - (i + 1),by omega,rfl,hlt,p'⟩,λx H' y=>?_⟩
  obtain⟨e,y⟩:=y
  subst e y
  exact hs i σ _ hlt p
 ·have e:i=n:=by omega
  subst e
  exact .inl ⟨Na _,hd σ H p⟩
abbrev R2:=V->V->Hp->VK->Prop
def kG (X:Cx)(f:Value->Value->Sem Value)(r:R2):Prop:=
 ∀(pins:List (Addr×Obj)) (s:Shared) (σ:St) (H:Hp) (x y:V) (v u:Value) (Q:VK),Inv X pins σ H s->RelV x v->RelV y u->r x y H Q->
  wpAny (model X.prog X.w) X.A (f v u) (EP X pins σ Q) X.xe s
def Lj (X:Cx)(f:Value->Sem Value)(r:V->Hp->VK->Prop):Prop:=
 ∀(pins:List (Addr×Obj)) (s:Shared) (σ:St) (H:Hp) (x:V) (v:Value) (Q:VK),Inv X pins σ H s->RelV x v->r x H Q->
  wpAny (model X.prog X.w) X.A (f v) (EP X pins σ Q) X.xe s
def iJ (X:Cx)(f:Value)(r:List V->Hp->VK->Prop):Prop:=
 ∀(pins:List (Addr×Obj)) (s:Shared) (σ:St) (H:Hp) (xs:List V) (us:List Value) (Q:VK),Inv X pins σ H s->Vals xs us->r xs H Q->
  wpAny (model X.prog X.w) X.A (call f us) (EP X pins σ Q) X.xe s
def Me (X:Cx)(r:V->Hp->(Bool->Hp->Prop)->Prop):Prop:=
 ∀(pins:List (Addr×Obj)) (s:Shared) (σ:St) (H:Hp) (x:V) (v:Value) (Q:Bool->Hp->Prop),Inv X pins σ H s->RelV x v->r x H Q->
  wpAny (model X.prog X.w) X.A (truthy v) (TP X pins σ Q) X.xe s
def Lo (r:R2)(ta tb:TE):TE:=λσ H Q=>ta σ H λx H1=>tb σ H1 λy H2=>r x y H2 Q
def M5 (r:V->Hp->VK->Prop)(ta:TE):TE:=λσ H Q=>ta σ H λx H1=>r x H1 Q
def rI (C:Int->Int->Prop)(g:Int->Int->V):R2:=λx y H Q=>∃i j,x=.int i/\y=.int j/\C i j/\Q (g i j) H
def vE (g:Int->Int->V):R2:=λx y H Q=>∃i j,x=.int i/\y=.int j/\Q (g i j) H
def rU (g:Int->V):V->Hp->VK->Prop:=λx H Q=>∃i,x=.int i/\Q (g i) H
section
variable {X:Cx}{a b c:Expr}{ta tb tc:TE}{pos:Pos}
def Hr (ha:PE X a ta)(hb:PE X b tb){pins:List (Addr×Obj)}{s:Shared}{σ:St}{H:Hp}{R:V->V->Hp->Prop}(I:Inv X pins σ H s)
  (h:ta σ H λx H1=>tb σ H1 λy H2=>R x y H2) {Q:Value->Shared->Prop} {f:Value->Value->Sem Value}
  (hf:∀v u s2 x y H2,Inv X pins σ H2 s2->RelV x v->RelV y u->R x y H2->wpAny (model X.prog X.w) X.A (f v u) Q X.xe s2) :
  wpAny (model X.prog X.w) X.A (eval a X.env) (λv s₁=>wpAny (model X.prog X.w) X.A (eval b X.env) (λu s₂=>wpAny (model X.prog X.w) X.A (f v u) Q X.xe s₂) X.xe s₁) X.xe s:=by
 refine cK (ha pins s σ H _ I h) λv s1 ⟨x,H1,I1,r1,q1⟩=>?_
 refine cK (hb pins s1 σ H1 _ I1 q1) λu s2 ⟨y,H2,I2,r2,q2⟩=>?_
 exact hf v u s2 x y H2 I2 r1 r2 q2
def tK {op:Operator}{r:R2}(ho:kG X (binaryOp op) r)(ha:PE X a ta)(hb:PE X b tb):PE X (.BinOp a op b pos) (Lo r ta tb):=by
 intro pins s σ H Q I h
 exact wpAny_BinOp (Hr ha hb I h λv u s2 x y H2 I2 rx ry q=>ho pins s2 σ H2 x y v u Q I2 rx ry q)
def JF {op:UnaryOp}{r:V->Hp->VK->Prop}(ho:Lj X (unaryOp op) r)(ha:PE X a ta):PE X (.UnaryOp op a pos) (M5 r ta):=by
 intro pins s σ H Q I h
 exact UnaryOp_ (cK (ha pins s σ H _ I h) λv s1 ⟨x,H1,I1,r1,q1⟩=>ho pins s1 σ H1 x v Q I1 r1 q1)
def Lp {f:Value->Value->Sem Value}{C:Int->Int->Prop}{g:Int->Int->Int}
  (rule:∀(i j:Int) (t u:Tok) (s:Shared) (Q:Value->Shared->Prop) (E:Value->Shared->Prop),C i j->Q (.int (g i j) s.toks) {s with toks:=s.toks + 1}->wpAny (model X.prog X.w) X.A (f (.int i t) (.int j u)) Q E s) :
  kG X f (rI C λi j=>.int (g i j)):=by
 intro pins s σ H x y v u Q I rx ry h
 obtain⟨i,j,rfl,rfl,hc,q⟩:=h
 obtain⟨t,rfl⟩:=rx
 obtain⟨t',rfl⟩:=ry
 exact rule i j t t' s _ _ hc ⟨.int (g i j),H,I.tok _,⟨_,rfl⟩,q⟩
def FG {f:Value->Value->Sem Value}{g:Int->Int->Int}
  (rule:∀(i j:Int) (t u:Tok) (s:Shared) (Q:Value->Shared->Prop) (E:Value->Shared->Prop),Q (.int (g i j) s.toks) {s with toks:=s.toks + 1}->wpAny (model X.prog X.w) X.A (f (.int i t) (.int j u)) Q E s) :
  kG X f (vE λi j=>.int (g i j)):=by
 intro pins s σ H x y v u Q I rx ry h
 obtain⟨i,j,rfl,rfl,q⟩:=h
 obtain⟨t,rfl⟩:=rx
 obtain⟨t',rfl⟩:=ry
 exact rule i j t t' s _ _ ⟨.int (g i j),H,I.tok _,⟨_,rfl⟩,q⟩
def HK {f:Value->Value->Sem Value}{g:Int->Int->Bool}
  (rule:∀(i j:Int) (t u:Tok) (s:Shared) (Q:Value->Shared->Prop) (E:Value->Shared->Prop),Q (.bool (g i j)) s->wpAny (model X.prog X.w) X.A (f (.int i t) (.int j u)) Q E s) :
  kG X f (vE λi j=>.bl (g i j)):=by
 intro pins s σ H x y v u Q I rx ry h
 obtain⟨i,j,rfl,rfl,q⟩:=h
 obtain⟨t,rfl⟩:=rx
 obtain⟨t',rfl⟩:=ry
 exact rule i j t t' s _ _ ⟨.bl (g i j),H,I,rfl,q⟩
def Er (i j:Int):Prop:=0 < j/\j < 1073741824
def GJ (i j:Int):Prop:=0<=j/\j<=1000000/\i.natAbs < 2 ^ 64
def C7 (i j:Int):Prop:=(-(2 ^ 64) < i/\i < 2 ^ 64)\/(-(2 ^ 64) < j/\j < 2 ^ 64)
def C7.ok {i j:Int}(h:C7 i j):IntMulOk i j:=by
 rcases h with⟨h1,h2⟩ | ⟨h1,h2⟩
 ·exact .of_left (intBits_le_64 h1 h2)
 ·exact .of_right (intBits_le_64 h1 h2)
def fM:kG X (binaryOp .Add) (vE λi j=>.int (i + j)):=FG λ_ _ _ _ _ _ _ q=>add_int q
def C3:kG X (binaryOp .Sub) (vE λi j=>.int (i - j)):=FG λ_ _ _ _ _ _ _ q=>sub_int q
def lM:kG X (binaryOp .Mult) (rI C7 λi j=>.int (i * j)):=Lp λ_ _ _ _ _ _ _ hc q=>mul_int q hc.ok
def uY:kG X (binaryOp .FloorDiv) (rI Er λi j=>.int (i / j)):=Lp λi j _ _ _ _ _ hc q=>by
 have h1:(0:Int) < j:=hc.1
 have h2:j < 1073741824:=hc.2
 exact floordiv_int (by omega) (by rw[Int.fdiv_eq_ediv_of_nonneg i (by omega)];exact q) (.inl (PyProof.noPylong_small (by omega)))
def mY:kG X (binaryOp .Mod) (rI (λ_ j=>0 < j) λi j=>.int (i % j)):=Lp λi j _ _ _ _ _ hc q=>by
 have h1:(0:Int) < j:=hc
 exact mod_int' (by omega) (by rw[Int.fmod_eq_emod_of_nonneg i (by omega)];exact q)
def HB:kG X (binaryOp .LShift) (rI GJ λi j=>.int (i * 2 ^ j.toNat)):=Lp λ_ _ _ _ _ _ _ hc q=>lshift_int_small hc.1 hc.2.1 hc.2.2 q
def He:kG X (binaryOp .BitAnd) (vE λi j=>.int (Builtin.bitAnd i j)):=FG λ_ _ _ _ _ _ _ q=>and_int q
def Gp:kG X (binaryOp .BitOr) (vE λi j=>.int (Builtin.bitOr i j)):=FG λ_ _ _ _ _ _ _ q=>or_int q
def M6 {f:Value->Sem Value}{g:Int->Int}
  (rule:∀(i:Int) (t:Tok) (s:Shared) (Q:Value->Shared->Prop) (E:Value->Shared->Prop),Q (.int (g i) s.toks) {s with toks:=s.toks + 1}->wpAny (model X.prog X.w) X.A (f (.int i t)) Q E s) :
  Lj X f (rU λi=>.int (g i)):=by
 intro pins s σ H x v Q I rx h
 obtain⟨i,rfl,q⟩:=h
 obtain⟨t,rfl⟩:=rx
 exact rule i t s _ _ ⟨.int (g i),H,I.tok _,⟨_,rfl⟩,q⟩
def xI:Lj X (unaryOp .USub) (rU λi=>.int (-i)):=M6 λ_ _ _ _ _ q=>neg_int q
end
def Jx:V->V->Bool
 | .non,.non=>true | .non,.int _=>true | .int _,.non=>true | .non,.bl _=>true | .bl _,.non=>true | .non,.str _=>true | .str _,.non=>true
 | .int _,.int _=>true | .bl _,.bl _=>true | .str _,.str _=>true | .byt _,.byt _=>true
 | .int _,.str _=>true | .str _,.int _=>true | .bl _,.str _=>true | .str _,.bl _=>true
 |_,_=>false
def Mw:R2:=λx y H Q=>Jx x y=true/\Q (.bl (decide (x=y))) H
def MB:R2:=λx y H Q=>Jx x y=true/\Q (.bl (!decide (x=y))) H
def zm {i j:Int}:decide (V.int i=V.int j)=(i == j):=by
 rw[NS]
 simp
def C8 {i j:Bool}:decide (V.bl i=V.bl j)=(i == j):=by
 rw[NS]
 simp
def zM {i j:Str}:decide (V.str i=V.str j)=(i == j):=by
 rw[NS]
 simp
def zr {i j:Array UInt8}:decide (V.byt i=V.byt j)=(i.toList == j.toList):=by
 rw[NS]
 cases i
 cases j
 simp
section
variable {X:Cx}{a b c:Expr}{ta tb tc:TE}{pos:Pos}
def bK {pins:List (Addr×Obj)}{σ:St}{H:Hp}{s:Shared}{Q:VK}{k k':Bool}(I:Inv X pins σ H s)(q:Q (.bl k) H)(e:k=k'):EP X pins σ Q (.bool k') s:=by
 subst e
 exact⟨.bl k,H,I,rfl,q⟩
theorem Jk:kG X (compareOp .Eq) Mw:=by
 intro pins s σ H x y v u Q I rx ry h
 obtain⟨hs,q⟩:=h
 cases x with
 |non=>
  cases rx
  cases y with
  |non=>cases ry;exact PySem.EqNone.eq_none_none (bK I q (by simp))
  |bl j=>cases ry;exact PySem.EqNone.eq_none_bool (bK I q (by simp))
  |int j=>obtain⟨t',rfl⟩:=ry;exact PySem.EqNone.eq_none_int (bK I q (by simp))
  |str j=>obtain⟨t',rfl⟩:=ry;exact PySem.EqNone.eq_none_str (bK I q (by simp))
  |_=>exact absurd (show false=true from hs) Nj
 |bl i=>
  cases rx
  cases y with
  |non=>cases ry;exact PySem.EqNone.eq_bool_none (bK I q (by simp))
  |bl j=>cases ry;exact eq_bool (bK I q C8)
  |str j=>obtain⟨t',rfl⟩:=ry;exact PySem.EqMixed.eq_bool_str (bK I q (by simp))
  |_=>exact absurd (show false=true from hs) Nj
 |int i=>
  obtain⟨t,rfl⟩:=rx
  cases y with
  |non=>cases ry;exact PySem.EqNone.eq_int_none (bK I q (by simp))
  |int j=>obtain⟨t',rfl⟩:=ry;exact eq_int (bK I q zm)
  |str j=>obtain⟨t',rfl⟩:=ry;exact PySem.EqMixed.eq_int_str (bK I q (by simp))
  |_=>exact absurd (show false=true from hs) Nj
 |str i=>
  obtain⟨t,rfl⟩:=rx
  cases y with
  |non=>cases ry;exact PySem.EqNone.eq_str_none (bK I q (by simp))
  |bl j=>cases ry;exact PySem.EqMixed.eq_str_bool (bK I q (by simp))
  |int j=>obtain⟨t',rfl⟩:=ry;exact PySem.EqMixed.eq_str_int (bK I q (by simp))
  |str j=>obtain⟨t',rfl⟩:=ry;exact eq_str (bK I q zM)
  |_=>exact absurd (show false=true from hs) Nj
 |byt i=>
  obtain⟨t,rfl⟩:=rx
  cases y with
  |byt j=>obtain⟨t',rfl⟩:=ry;exact PySem.W.eq_bytes (bK I q zr)
  |_=>exact absurd (show false=true from hs) Nj
 |_=>cases y <;> exact absurd (show false=true from hs) Nj
theorem JV:kG X (compareOp .NotEq) MB:=by
 intro pins s σ H x y v u Q I rx ry h
 obtain⟨hs,q⟩:=h
 cases x with
 |non=>
  cases rx
  cases y with
  |non=>cases ry;exact PySem.EqNone.ne_none_none (bK I q (by simp))
  |bl j=>cases ry;exact PySem.EqNone.ne_none_bool (bK I q (by simp))
  |int j=>obtain⟨t',rfl⟩:=ry;exact PySem.EqNone.ne_none_int (bK I q (by simp))
  |str j=>obtain⟨t',rfl⟩:=ry;exact PySem.EqNone.ne_none_str (bK I q (by simp))
  |_=>exact absurd (show false=true from hs) Nj
 |bl i=>
  cases rx
  cases y with
  |non=>cases ry;exact PySem.EqNone.ne_bool_none (bK I q (by simp))
  |bl j=>cases ry;exact ne_bool (bK I q (congrArg not C8))
  |str j=>obtain⟨t',rfl⟩:=ry;exact PySem.EqMixed.ne_bool_str (bK I q (by simp))
  |_=>exact absurd (show false=true from hs) Nj
 |int i=>
  obtain⟨t,rfl⟩:=rx
  cases y with
  |non=>cases ry;exact PySem.EqNone.ne_int_none (bK I q (by simp))
  |int j=>obtain⟨t',rfl⟩:=ry;exact ne_int (bK I q (congrArg not zm))
  |str j=>obtain⟨t',rfl⟩:=ry;exact PySem.EqMixed.ne_int_str (bK I q (by simp))
  |_=>exact absurd (show false=true from hs) Nj
 |str i=>
  obtain⟨t,rfl⟩:=rx
  cases y with
  |non=>cases ry;exact PySem.EqNone.ne_str_none (bK I q (by simp))
  |bl j=>cases ry;exact PySem.EqMixed.ne_str_bool (bK I q (by simp))
  |int j=>obtain⟨t',rfl⟩:=ry;exact PySem.EqMixed.ne_str_int (bK I q (by simp))
  |str j=>obtain⟨t',rfl⟩:=ry;exact ne_str (bK I q (congrArg not zM))
  |_=>exact absurd (show false=true from hs) Nj
 |byt i=>
  obtain⟨t,rfl⟩:=rx
  cases y with
  |byt j=>obtain⟨t',rfl⟩:=ry;exact PySem.W.ne_bytes (bK I q (congrArg not zr))
  |_=>exact absurd (show false=true from hs) Nj
 |_=>cases y <;> exact absurd (show false=true from hs) Nj
def sY:kG X (compareOp .Lt) (vE λi j=>.bl (decide (i < j))):=HK λ_ _ _ _ _ _ _ q=>lt_int q
def qI:kG X (compareOp .LtE) (vE λi j=>.bl (decide (i<=j))):=HK λ_ _ _ _ _ _ _ q=>le_int q
def Ku:kG X (compareOp .GtE) (vE λi j=>.bl (decide (j<=i))):=HK λ_ _ _ _ _ _ _ q=>ge_int q
def aW (b:Expr){op:CmpOp}(h:op≠.In:=by decide)(h2:op≠.NotIn:=by decide):behindInMarks op b=false:=by
 have e1:(op == CmpOp.In)=false:=by cases op <;> first |rfl |exact absurd rfl h
 have e2:(op == CmpOp.NotIn)=false:=by cases op <;> first |rfl |exact absurd rfl h2
 cases b <;> simp[behindInMarks,e1,e2]
def E1 {op:CmpOp}{r:R2}(ho:kG X (compareOp op) r)(ha:PE X a ta)(hb:PE X b tb)(hm:behindInMarks op b=false):PE X (.Compare a [op] [b] pos) (Lo r ta tb):=by
 intro pins s σ H Q I h
 exact wpAny_Compare1 (Hr ha hb I h λv u s2 x y H2 I2 rx ry q=>ho pins s2 σ H2 x y v u Q I2 rx ry q) hm
def FZ (t:TE):TT:=λσ H Q=>t σ H λx H'=>∃k,x=.bl k/\Q k H'
def Fs {op:CmpOp}{r:R2}(ho:kG X (compareOp op) r)(ha:PE X a ta)(hb:PE X b tb)(hm:behindInMarks op b=false):PT X (.Compare a [op] [b] pos) (FZ (Lo r ta tb)):=by
 intro pins s σ H Q I h
 refine wpAny_isTrue_Compare1 (cK (ha pins s σ H _ I h) λv s1 ⟨x,H1,I1,r1,q1⟩=>cK (hb pins s1 σ H1 _ I1 q1) λu s2 ⟨y,H2,I2,r2,q2⟩=>
  cK (ho pins s2 σ H2 x y v u _ I2 r1 r2 q2) λc s3 ⟨z,H3,I3,r3,k,e,q3⟩=>?_) hm
 subst e
 cases r3
 exact N9 ⟨H3,I3,q3⟩
def Co (r r':R2)(ta tb tc:TE):TE:=λσ H Q=>ta σ H λx H1=>tb σ H1 λy H2=>r x y H2 λz H3=>∃k,z=.bl k/\
 (if k=true then tc σ H3 λw' H4=>r' y w' H4 Q else Q (.bl false) H3)
theorem Du {op op':CmpOp}{r r':R2}(ho:kG X (compareOp op) r)(ho':kG X (compareOp op') r')(ha:PE X a ta)(hb:PE X b tb)(hc:PE X c tc)
  (hm:lastMarks [op,op'] [b,c]=false:=by with_unfolding_all rfl):PE X (.Compare a [op,op'] [b,c] pos) (Co r r' ta tb tc):=by
 intro pins s σ H Q I h
 refine Compare_chain (cK (ha pins s σ H _ I h) λv s1 ⟨x,H1,I1,r1,q1⟩=>chain_link (cK (hb pins s1 σ H1 _ I1 q1) λu s2 ⟨y,H2,I2,r2,q2⟩=>
  cK (ho pins s2 σ H2 x y v u _ I2 r1 r2 q2) λd s3 ⟨z,H3,I3,r3,k,e,q3⟩=>?_)) hm
 subst e
 cases r3
 refine N9 ?_
 cases k with
 |false=>exact ite_ff ⟨.bl false,H3,I3,rfl,q3⟩
 |true=>exact ite_tt (chain_last (cK (hc pins s3 σ H3 _ I3 q3) λw' s4 ⟨z',H4,I4,r4,q4⟩=>ho' pins s4 σ H4 y z' u w' Q I4 r2 r4 q4))
theorem Cq {op op':CmpOp}{r r':R2}(ho:kG X (compareOp op) r)(ho':kG X (compareOp op') r')(ha:PE X a ta)(hb:PE X b tb)(hc:PE X c tc)
  (hm:lastMarks [op,op'] [b,c]=false:=by with_unfolding_all rfl):PT X (.Compare a [op,op'] [b,c] pos) (FZ (Co r r' ta tb tc)):=by
 intro pins s σ H Q I h
 refine isTrue_chain (cK (ha pins s σ H _ I h) λv s1 ⟨x,H1,I1,r1,q1⟩=>test_link (cK (hb pins s1 σ H1 _ I1 q1) λu s2 ⟨y,H2,I2,r2,q2⟩=>
  cK (ho pins s2 σ H2 x y v u _ I2 r1 r2 q2) λd s3 ⟨z,H3,I3,r3,k,e,q3⟩=>?_)) hm
 subst e
 cases r3
 refine N9 ?_
 cases k with
 |false=>
  obtain⟨k',e',q'⟩:=q3
  cases e'
  exact ite_ff ⟨H3,I3,q'⟩
 |true=>
  refine ite_tt (test_last (cK (hc pins s3 σ H3 _ I3 q3) λw' s4 ⟨z',H4,I4,r4,q4⟩=>cK (ho' pins s4 σ H4 y z' u w' _ I4 r2 r4 q4) λd' s5 ⟨z2,H5,I5,r5,k2,e2,q5⟩=>?_))
  subst e2
  cases r5
  exact N9 ⟨H5,I5,q5⟩
def Kd (K:Frag)(x:V)(H:Hp)(k:Bool):Prop:=
 match x with
 | .non=>k=false
 | .bl b=>k=b
 | .int i=>k=(i != 0)
 | .str y=>y.length<=sizeLine/\k=((y.length:Int) != 0)
 | .byt y=>y.size<=sizeLine/\k=((y.size:Int) != 0)
 | .ref p=>(∃xs,iM K H p xs/\k= !xs.isEmpty)\/(∃xs,gB K H p xs/\k= !xs.isEmpty)\/∃kvs,H p=some (.dK kvs)/\k= !kvs.isEmpty
 |_=>False
def xX {κ:Type}{kvs:List (κ×V)}{vs:List (κ×Value)}(r:KV kvs vs):(!vs.isEmpty)= !kvs.isEmpty:=by
 cases r <;> rfl
def rH {xs:List V}{its:List Value}(r:Vals xs its):(!its.toArray.isEmpty)= !xs.isEmpty:=by
 cases r <;> simp
def oH:(sizeLine:Nat) < 2 ^ 63:=by rw[NV];decide
theorem HY:Me X (λx H Q=>∃k,Kd X.K x H k/\Q k H):=by
 intro pins s σ H x v Q I rx h
 obtain⟨k,e,q⟩:=h
 have hl:=oH
 have hs:sizeLine=16777216:=NV
 cases x with
 |non=>
  cases rx
  have e':k=false:=e
  subst e'
  exact truthy_none ⟨H,I,q⟩
 |bl b=>
  cases rx
  have e':k=b:=e
  subst e'
  exact N9 ⟨H,I,q⟩
 |int i=>
  obtain⟨t,rfl⟩:=rx
  have e':k=(i != 0):=e
  subst e'
  exact PySem.P.truthy_int ⟨H,I,q⟩
 |str y=>
  obtain⟨t,rfl⟩:=rx
  obtain⟨hy,e'⟩:y.length<=sizeLine/\k=((y.length:Int) != 0):=e
  subst e'
  exact PySem.P.truthy_str (by omega) ⟨H,I.tok _,q⟩
 |byt y=>
  obtain⟨t,rfl⟩:=rx
  obtain⟨hy,e'⟩:y.size<=sizeLine/\k=((y.size:Int) != 0):=e
  subst e'
  exact PySem.W.truthy_bytes (by omega) ⟨H,I.tok _,q⟩
 |ref p=>
  cases rx
  have e':(∃xs,iM X.K H p xs/\k= !xs.isEmpty)\/(∃xs,gB X.K H p xs/\k= !xs.isEmpty)\/∃kvs,H p=some (.dK kvs)/\k= !kvs.isEmpty:=e
  rcases e' with⟨xs,hx,e'⟩ | ⟨xs,hx,e'⟩ | ⟨kvs,hx,e'⟩
  ·subst e'
   obtain⟨its,r,pl,hz⟩:=I.list hx
   have hlen:=r.length
   exact wpAny_truthy_list pl.isList (by simp only[Nt];omega) ⟨H,I.tok _,by rw[rH r];exact q⟩
  ·subst e'
   obtain⟨its,r,pl,hz⟩:=I.tuple hx
   have hlen:=r.length
   exact truthy_tuple pl (by simp only[Nt];omega) ⟨H,I.tok _,by rw[rH r];exact q⟩
  ·subst e'
   obtain⟨hz,hS,vs,r,m⟩:kvs.length<=sizeLine/\(p == sysModules)=false/\∃vs,KV kvs vs/\s.heap.DictOf (mB X.prog X.w) p vs:=I.hok p _ hx
   have hlen:kvs.length=vs.length:=Paired.length r
   exact wpAny_truthy_dict hS m (by omega) ⟨H,I.tok _,by rw[xX r];exact q⟩
 |_=>exact (show False from e).elim
def BX (ha:PE X a ta)(he:∀whole,isTrue a X.env whole=(do let v <-whole;standAt a.pos;holding [v] (truthy v))) :
  PT X a (λσ H Q=>ta σ H λx H'=>∃k,Kd X.K x H' k/\Q k H'):=by
 intro pins s σ H Q I h
 exact isTrue_plain (cK (ha pins s σ H _ I h) λv s1 ⟨x,H1,I1,r1,q1⟩=>HY pins s1 σ H1 x v Q I1 r1 q1) (he _)
theorem vals1 {x:V}{us:List Value}(r:Vals [x] us):∃u,us= [u]/\RelV x u:=by
 cases r with
 |cons r1 r2=>cases r2;exact⟨_,rfl,r1⟩
theorem vals2 {x y:V}{us:List Value}(r:Vals [x,y] us):∃u w',us= [u,w']/\RelV x u/\RelV y w':=by
 cases r with
 |cons r1 r2=>
  cases r2 with
  |cons r3 r4=>cases r4;exact⟨_,_,rfl,r1,r3⟩
def Ky (K:Frag)(x:V)(H:Hp)(n:Nat):Prop:=
 match x with
 | .str y=>y.length<=sizeLine/\n=y.length
 | .byt y=>y.size<=sizeLine/\n=y.size
 | .ref p=>(∃xs,iM K H p xs/\n=xs.length)\/∃xs,gB K H p xs/\n=xs.length
 |_=>False
theorem bw:iJ X (.builtin "len") (λxs H Q=>∃x n,xs= [x]/\Ky X.K x H n/\Q (.int n) H):=by
 intro pins s σ H xs us Q I r h
 obtain⟨x,n,rfl,e,q⟩:=h
 obtain⟨u,rfl,rx⟩:=vals1 r
 have hl:=oH
 have hs:sizeLine=16777216:=NV
 cases x with
 |str y=>
  obtain⟨t,rfl⟩:=rx
  obtain⟨hy,e'⟩:y.length<=sizeLine/\n=y.length:=e
  subst e'
  exact len_str (by omega) ⟨.int _,H,I.tok _,⟨_,rfl⟩,q⟩
 |byt y=>
  obtain⟨t,rfl⟩:=rx
  obtain⟨hy,e'⟩:y.size<=sizeLine/\n=y.size:=e
  subst e'
  exact PySem.W.len_bytes (by omega) ⟨.int _,H,I.tok _,⟨_,rfl⟩,q⟩
 |ref p=>
  cases rx
  have e':(∃xs,iM X.K H p xs/\n=xs.length)\/∃xs,gB X.K H p xs/\n=xs.length:=e
  rcases e' with⟨xs,hx,e'⟩ | ⟨xs,hx,e'⟩
  ·subst e'
   obtain⟨its,r',pl,hz⟩:=I.list hx
   have hlen:=r'.length
   exact Calls.call_len_list pl.isList (by simp only[Nt];omega) ⟨.int xs.length,H,I.tok _,⟨_,by simp only[Nt];rw[hlen]⟩,q⟩
  ·subst e'
   obtain⟨its,r',pl,hz⟩:=I.tuple hx
   have hlen:=r'.length
   exact len_tuple pl (by simp only[Nt];omega) ⟨.int xs.length,H,I.tok _,⟨_,by simp only[Nt];rw[hlen]⟩,q⟩
 |_=>exact (show False from e).elim
def wO:iJ X (.builtin "divmod") (λxs H Q=>∃i j,xs= [.int i,.int j]/\Er i j/\∀p,H p=none->Q (.ref p) (upd H p (.tup [.int (i / j),.int (i % j)]))):=by
 intro pins s σ H xs us Q I r h
 obtain⟨i,j,rfl,⟨h1,h2⟩,q⟩:=h
 obtain⟨u,w',rfl,⟨t,rfl⟩,⟨t',rfl⟩⟩:=vals2 r
 refine divmod_int (by omega) ?_ (.inl (PyProof.noPylong_small (by omega)))
 rw[Int.fdiv_eq_ediv_of_nonneg i (by omega),Int.fmod_eq_emod_of_nonneg i (by omega)]
 have hn:H s.heap.objs.size=none:=I.hok.fresh (Na _)
 refine⟨.ref s.heap.objs.size,_,?_,rfl,q _ hn⟩
 refine I.laid (λb o e=>Nd _ e) (Na _) ⟨by simp only[N1,List.length_nil];rw[NV];decide,[.int (i / j) s.toks,.int (i % j) (s.toks + 1)],.cons ⟨_,rfl⟩ (.cons ⟨_,rfl⟩ .nil),?_⟩
 exact⟨_,Nu s.heap rfl,rfl,0,rfl,rfl⟩
end
structure IM (h:Heap)(x dx C:Addr)(mA:Str->Option Value):Prop where
 obj:h.get? x=some (PySem.W.instObj C dx)
 ns:h.Ns1 dx mA
 ne:dx≠x
def Af {h:Heap}{dx:Addr}{mA:Str->Option Value}(n:h.Ns1 dx mA):∃od,h.get? dx=some od/\∀name,PySem.W.lookIn name od=some (mA name):=by
 obtain⟨o,es,ep,ho,hd,hk,_,hm⟩:=n
 refine⟨o,ho,λname=>?_⟩
 have e:=hm name
 unfold nsFind findBy at e
 rw[<-Array.find?_toList] at e
 unfold PySem.W.lookIn
 rw[hd]
 dsimp only
 split
 ·rename_i y q
  rw[q] at e
  exact congrArg some e
 ·rename_i q
  rw[q] at e
  have a:es.toList.any (·.refKey)=false:=by
   rw[List.any_eq_false]
   intro y hy
   obtain⟨z,t,hkey⟩:=hk y (Array.mem_toList_iff.mp hy)
   simp[DictEntry.refKey,hkey]
  have a':¬es.toList.any (·.refKey)=true:=by rw[a];exact Nj
  rw[Nk a']
  exact congrArg some e
def IM.look {h:Heap}{x dx C:Addr}{mA:Str->Option Value}(I:IM h x dx C mA):∃od,PySem.W.InstAt h x (PySem.W.instObj C dx) C (some od)/\∀name,PySem.W.lookIn name od=some (mA name):=
 let ⟨od,ho,hl⟩:=Af I.ns
 ⟨od,⟨I.obj,rfl,rfl,ho⟩,hl⟩
section
variable {P:Program}{w:World}{H H':Hp}{h h':Heap}{a C dx:Addr}{fs fs':List (Str×V)}
def Em (hok:mU P w H h)(e:H a=some (.ins C dx fs)):∃mA,IM h a dx C mA/\(∀f,CM (fs.lookup f) (mA f))/\PySem.Within mA (fs.map (·.1))/\fs.length<=1000/\H dx=some (.own a):=by
 obtain⟨d,z,ne,ob,mA,n,r,q⟩:=(show cW P w H h a (.ins C dx fs) from hok a _ e)
 exact⟨mA,⟨ob,n,ne⟩,r,q,z,d⟩
end
structure LI (K:Frag)(C:Addr):Prop where
 pg:PySem.W.plainGet K C Str.empty=true
 hd:PySem.W.hasDictIn K C=true
 po:PySem.W.plainOver K C=true
 sa:PySem.W.findIn K (.ref C) "__setattr__"=some (some (.builtin "object.__setattr__"))
def LI.get {K:Frag}{C:Addr}(c:LI K C)(f:Str):PySem.W.plainGet K C f=true:=c.pg
section
variable {X:Cx}{pins:List (Addr×Obj)}{σ:St}{H:Hp}{s:Shared}{A:Around}{E:Value->Shared->Prop}{Q:Value->Shared->Prop}{c:Value}{b:Bool}
inductive pI (K:Frag)(H:Hp):V->Value->Prop where
 |non:pI K H .non (.type "NoneType")
 |bl (x:Bool):pI K H (.bl x) (.type "bool")
 |int (i:Int):pI K H (.int i) (.type "int")
 |str (x:Str):pI K H (.str x) (.type "str")
 |flt (x:UInt64):pI K H (.flt x) (.type "float")
 |lst {a:Addr} {xs:List V} (e:H a=some (.lst xs)):pI K H (.ref a) (.type "list")
 |aY {a:Addr} {o:Obj} {xs:List V} (e:H a=some (.aY o (.lst xs))):pI K H (.ref a) (.type "list")
 |tup {a:Addr} {xs:List V} (e:H a=some (.tup xs)):pI K H (.ref a) (.type "tuple")
 |dK {a:Addr} {kvs:List (Key×V)} (e:H a=some (.dK kvs)):pI K H (.ref a) (.type "dict")
 |dT {a:Addr} {kvs:List (List Key×V)} (e:H a=some (.dT kvs)):pI K H (.ref a) (.type "dict")
 |ins {a C dx:Addr} {fs:List (Str×V)} (e:H a=some (.ins C dx fs)) (cl:LI K C) (ha:PySem.W.findIn K (.ref C) "__class__"=some (some (.builtin "object.__class__")))
   (hn:PySem.W.specialIn K (.builtin "object.__class__") "__get__"=some (some (.builtin "getset_descriptor.__get__"))) (htk:PySem.W.takesIn K (.builtin "object.__class__")=some true)
   (hm:PySem.W.mroIn K C (.type "object")=some true):pI K H (.ref a) (.ref C)
theorem kF {x:V}{u t:Value}(I:Inv X pins σ H s)(rx:RelV x u)(ty:pI X.K H x t)(e:PySem.W.kitOne X.K t c=some b)(h:∀tk,Q (.bool b) {s with toks:=tk}) :
  wpAny (model X.prog X.w) A (call (.builtin "isinstance") [u,c]) Q E s:=by
 cases ty with
 |non=>cases (show u=Value.none from rx);exact N4 PySem.W.kitx_none I.kIn True.intro e (λz=>nomatch z) h
 |bl y=>cases (show u=Value.bool y from rx);exact N4 PySem.W.kitx_bool I.kIn True.intro e (λz=>nomatch z) h
 |int i=>obtain⟨t,q⟩:=(show ∃t,u=Value.int i t from rx);cases q;exact N4 PySem.W.kitx_int I.kIn True.intro e (λz=>nomatch z) h
 |str y=>obtain⟨t,q⟩:=(show ∃t,u=Value.str y t from rx);cases q;exact N4 PySem.W.kitx_str I.kIn True.intro e (λz=>nomatch z) h
 |flt y=>obtain⟨t,q⟩:=(show ∃t,u=Value.float y t from rx);cases q;exact N4 PySem.W.kitx_float I.kIn True.intro e (λz=>nomatch z) h
 | @lst a xs ea=>
  cases (show u=Value.ref a from rx)
  obtain⟨_,_,n,_,h1⟩:=(show cW X.prog X.w H s.heap a (.lst xs) from I.hok a _ ea)
  exact N4 PySem.W.kitx_list I.kIn ⟨_,h1,rfl⟩ e (λz=>nomatch z) h
 | @aY a ob xs ea=>
  cases (show u=Value.ref a from rx)
  obtain⟨_,_,_,n,_,h1⟩:=(show cW X.prog X.w H s.heap a (.aY ob (.lst xs)) from I.hok a _ ea)
  exact N4 PySem.W.kitx_list I.kIn ⟨_,h1,rfl⟩ e (λz=>nomatch z) h
 | @tup a xs ea=>
  cases (show u=Value.ref a from rx)
  obtain⟨_,_,_,p⟩:=(show cW X.prog X.w H s.heap a (.tup xs) from I.hok a _ ea)
  obtain⟨o,h1,h2,_⟩:=p
  exact N4 PySem.W.kitx_tuple I.kIn ⟨o,h1,h2⟩ e (λz=>nomatch z) h
 | @dK a kvs ea=>
  cases (show u=Value.ref a from rx)
  obtain⟨_,_,vs,_,p⟩:=(show cW X.prog X.w H s.heap a (.dK kvs) from I.hok a _ ea)
  obtain⟨o,es,ep,h1,h2,_⟩:=p
  exact N4 PySem.W.kitx_dict I.kIn ⟨o,h1,h2.1⟩ e (λz=>nomatch z) h
 | @dT a kvs ea=>
  cases (show u=Value.ref a from rx)
  obtain⟨_,_,xs,_,o,es,ep,h1,h2,_⟩:=(show cW X.prog X.w H s.heap a (.dT kvs) from I.hok a _ ea)
  exact N4 PySem.W.kitx_dict I.kIn ⟨o,h1,h2.1⟩ e (λz=>nomatch z) h
 | @ins a C dx fs ea cl ha hn htk hm=>
  cases (show u=Value.ref a from rx)
  obtain⟨mA,O,_⟩:=Em I.hok ea
  obtain⟨od,J,_⟩:=O.look
  exact N4 (PySem.W.kitx_own (cl.get _) cl.hd ha hn htk hm) I.kIn J e (λz=>nomatch z) h
end
structure dJ (k:Nat)(A:Around):Prop where
 hd:A.handled=none
 dp:A.depth + 3 * k + 5 < recursionLimit
 un:A.units + 16 * k + 200 < cLine
 gd:A.guards=some []
def dJ.mono {j k:Nat}{A:Around}(r:dJ k A)(h:j<=k):dJ j A:=⟨r.hd,by have:=r.dp;omega,by have:=r.un;omega,r.gd⟩
def dJ.deeper {k:Nat}{A:Around}(r:dJ (k + 1) A)(env:Env):dJ k (A.deeper env):=
 ⟨r.hd,by have:=r.dp;show A.depth + 1 + 3 * k + 5 < _;omega,by have:=r.un;show A.units + 3 + 16 * k + 200 < _;omega,r.gd⟩
def dJ.in1 {k:Nat}{A:Around}(r:dJ (k + 1) A):dJ k A.in1:=
 ⟨r.hd,by have:=r.dp;show A.depth + 3 * k + 5 < _;omega,by have:=r.un;show A.units + 1 + 16 * k + 200 < _;omega,r.gd⟩
def dJ.depth {k:Nat}{A:Around}(r:dJ k A):A.depth < recursionLimit:=by have:=r.dp;omega
def dJ.units {k:Nat}{A:Around}(r:dJ k A):A.units + 64 < cLine:=by have:=r.un;omega
def CJ:TA:=λ_ H Q=>Q [] H
def zN (ta:TE)(tr:TA):TA:=λσ H Q=>ta σ H λx H1=>tr σ H1 λxs H2=>Q (x :: xs) H2
section
variable {X:Cx}{e:Expr}{es:List Expr}{te:TE}{t:TA}{pos:Pos}
def cp:PA X [] CJ:=λ_ _ _ _ H Q I h=>Calls.spliced_nil ⟨[],H,I,.nil,h⟩
def bc (ha:PE X e te)(hr:PA X es t)(hs:starEach (e :: es) X.env=(false,eval e X.env) :: starEach es X.env:=by rfl):PA X (e :: es) (zN te t):=by
 intro pos pins s σ H Q I h
 rw[hs]
 show wpAny _ _ (spliced ((false,eval e X.env) :: backTo pos (starEach es X.env))) _ _ s
 refine Calls.spliced_cons (cK (ha pins s σ H _ I h) λu s1 ⟨x,H1,I1,r1,q1⟩=>?_)
 exact cK (hr pos pins s1 σ H1 _ I1 q1) λus s2 ⟨xs,H2,I2,r2,q2⟩=>⟨x :: xs,H2,I2,.cons r1 r2,q2⟩
def LQ (t:TA):TE:=λσ H Q=>t σ H λxs H1=>xs.length<=sizeLine/\∀p,H1 p=none->Q (.ref p) (upd H1 p (.tup xs))
def L1 (t:TA):TE:=λσ H Q=>t σ H λxs H1=>xs.length<=sizeLine/\∀p,H1 p=none->Q (.ref p) (upd H1 p (.lst xs))
def yt {x1}(h:PA X es t):PE X (.Tuple es x1 pos) (LQ t):=by
 intro pins s σ H Q I hq
 refine wpAny_Tuple_spliced (cK (h pos pins s σ H _ I hq) λus s1 ⟨xs,H1,I1,r,z,q⟩=>⟨by rw[<-r.length];exact z,?_⟩)
 have hf:H1 s1.heap.objs.size=none:=I1.hok.fresh (Na _)
 refine⟨.ref s1.heap.objs.size,upd H1 s1.heap.objs.size (.tup xs),I1.laid (t':=s1.toks) (λb u e=>Nd _ e) (Na _) ?_,rfl,q _ hf⟩
 exact⟨z,us,r,r6.new _ _⟩
def Dz (h:PA X es t):PE X (.List es pos) (L1 t):=by
 intro pins s σ H Q I hq
 refine wpAny_List_spliced (cK (h pos pins s σ H _ I hq) λus s1 ⟨xs,H1,I1,r,z,q⟩=>⟨by rw[<-r.length];exact z,?_⟩)
 have hf:H1 s1.heap.objs.size=none:=I1.hok.fresh (Na _)
 refine⟨.ref s1.heap.objs.size,upd H1 s1.heap.objs.size (.lst xs),I1.laid (t':=s1.toks) (λb u e=>Nd _ e) (Na _) ?_,rfl,q _ hf⟩
 exact⟨z,us,0,r,Nu _ rfl⟩
end
abbrev Sp:=List V->Hp->VK->XK->Prop
abbrev z0:=List Env->Hp->Shared->XK->Value->Shared->Prop
structure xR (P:Program)(w:World)(K:Frag)(mg:Str->Option Value)(base:Heap)(A:Around)(outer:List Env)(s:Shared)(H:Hp):Prop where
 frames:A.frames=some outer
 mod:Mod K mg base
 bs:∀b o,base.get? b=some o->s.heap.get? b=some o/\H b=none
 bsz:base.objs.size<=s.heap.objs.size
 funs:s.heap.FunFrames base outer
 frf:∀b∈nC outer,H b=none
 hok:mU P w H s.heap
 bare:AllBare s.gens
def CE (outer:List Env)(P:Program)(w:World)(H:Hp)(s:Shared)(Q:VK)(u:Value)(s':Shared):Prop:=
 ∃v H',s'.os=s.os/\AllBare s'.gens/\Un (nC outer) [] H H' s.heap s'.heap/\mU P w H' s'.heap/\RelV v u/\Q v H'
def CR (CX:z0)(outer:List Env)(P:Program)(w:World)(H:Hp)(s:Shared)(Q:VK)(E:XK)(r:Result)(s':Shared):Prop:=
 match r with
 | .ok (.ret u)=>CE outer P w H s Q u s'
 | .ok _=>False
 | .error e=>CX outer H s E e s'
structure fq (P:Program)(w:World)(K:Frag)(mg:Str->Option Value)(base:Heap)(CX:z0)(k:Nat)(f:Addr)(fd:FuncData)(ps:List Str)(sp:Sp):Prop where
 len:∀vs H Q E,sp vs H Q E->vs.length=ps.length
 run:∀(A:Around) (outer:List Env) (s:Shared) (H:Hp) (args:Args) (us:List Value) (vs:List V) (Q:VK) (E:XK),dJ k A->xR P w K mg base A outer s H->BindsTo s fd args (ps.zip us)->Vals vs us->sp vs H Q E->
  codeAny (model P w) A (.call (.ref f) args) (CR CX outer P w H s Q E) s
def fq.mono {P:Program}{w:World}{K:Frag}{mg:Str->Option Value}{base:Heap}{CX:z0}{j k:Nat}{f:Addr}{fd:FuncData}{ps:List Str}{sp:Sp}(F:fq P w K mg base CX j f fd ps sp)(h:j<=k) :
  fq P w K mg base CX k f fd ps sp:=⟨F.len,λA outer s H args us vs Q E hr=>F.run A outer s H args us vs Q E (hr.mono h)⟩
def fq.imp {P:Program}{w:World}{K:Frag}{mg:Str->Option Value}{base:Heap}{CX:z0}{k:Nat}{f:Addr}{fd:FuncData}{ps:List Str}{sp sp':Sp}(F:fq P w K mg base CX k f fd ps sp)
  (h:∀vs H Q E,sp' vs H Q E->sp vs H Q E):fq P w K mg base CX k f fd ps sp':=
 ⟨λvs H Q E q=>F.len vs H Q E (h _ _ _ _ q),λA outer s H args us vs Q E hr he hb hv hs=>F.run A outer s H args us vs Q E hr he hb hv (h _ _ _ _ hs)⟩
def xR.in1 {P:Program}{w:World}{K:Frag}{mg:Str->Option Value}{base:Heap}{A:Around}{outer:List Env}{s:Shared}{H:Hp}(e:xR P w K mg base A outer s H) :
  xR P w K mg base A.in1 outer s H:=⟨e.frames,e.mod,e.bs,e.bsz,e.funs,e.frf,e.hok,e.bare⟩
section
variable {X:Cx}{pins:List (Addr×Obj)}{σ:St}{H:Hp}{s s':Shared}
def Inv.env0 (I:Inv X pins σ H s):xR X.prog X.w X.K X.mg X.base X.A X.stack s H:=
 ⟨I.ok.frames,I.ok.mod,I.bs,N8 I.ok.bsz I.sz,I.stack,I.stkFree,I.hok,I.bare⟩
def Inv.after {Q:VK}{u:Value}(I:Inv X pins σ H s)(h:CE X.stack X.prog X.w H s Q u s'):EP X pins σ Q u s':=by
 obtain⟨v,H',os,bare,un,hok,r,q⟩:=h
 obtain⟨hh,g,d,t,os'⟩:=s'
 obtain rfl:os'=s.os:=os
 exact⟨v,H',I.call (h':=hh) (g':=g) (d':=d) (t':=t) (ch:=[]) un hok bare (λb z=>absurd z (by simp)),r,q⟩
end
def Gk (sp:Sp)(dvs:List V)(E:XK)(t:TA):TE:=λσ H Q=>t σ H λvs H1=>sp (vs ++ dvs) H1 Q E
def Binds (K:Frag)(fd:FuncData)(ps:List Str)(ds:List Value):Prop:=
 ∀(s:Shared) (us:List Value),K.In s.heap->(us ++ ds).length=ps.length->BindsTo s fd ⟨us,[]⟩ (ps.zip (us ++ ds))
def Binds.all {K:Frag}{fd:FuncData}{ps:List Str}(h:∀us:List Value,us.length=ps.length->bindArgs fd ⟨us,[]⟩=pure (ps.zip us)):Binds K fd ps []:=λs us _ hl=>by
 rw[Oy] at hl ⊢
 exact .of_eq (h us hl)
def Passes (CX:z0)(X:Cx)(E:XK):Prop:=∀(pins:List (Addr×Obj)) (σ:St) (H:Hp) (s:Shared) (e:Value) (s':Shared),Inv X pins σ H s->CX X.stack H s E e s'->X.xe e s'
section
variable {X:Cx}{CX:z0}{k:Nat}{f C:Addr}{fd:FuncData}{ps:List Str}{sp:Sp}{dvs:List V}{ds:List Value}{E:XK}{x m:Str}{p pos apos:Pos}{e o:Expr}{es:List Expr}{ta:TE}{t:TA}
theorem CC {pins:List (Addr×Obj)}{σ:St}{H:Hp}{s:Shared}{Q:VK}{us:List Value}{vs:List V}(F:fq X.prog X.w X.K X.mg X.base CX k f fd ps sp)(hr:dJ k X.A)(hb:Binds X.K fd ps ds)(hd:Vals dvs ds)(hx:Passes CX X E)
  (I:Inv X pins σ H s) (r:Vals vs us) (h:sp (vs ++ dvs) H Q E):wpAny (model X.prog X.w) X.A (call (.ref f) us) (EP X pins σ Q) X.xe s:=by
 have r2:Vals (vs ++ dvs) (us ++ ds):=r.append hd
 have hl:(us ++ ds).length=ps.length:=by rw[<-r2.length];exact F.len _ _ _ _ h
 refine wpAny_call (codeAny_mono (F.run X.A X.stack s H ⟨us,[]⟩ (us ++ ds) (vs ++ dvs) Q E hr I.env0 (hb s us I.kIn hl) r2 h) λr s' hq=>?_)
 cases r with
 |error e=>exact hx pins σ H s e s' I hq
 |ok fl=>
  cases fl with
  |ret u=>exact I.after hq
  |next=>exact False.elim hq
  |brk=>exact False.elim hq
  |cont=>exact False.elim hq
def nK (F:fq X.prog X.w X.K X.mg X.base CX k f fd ps sp)(hr:dJ k X.A)(hg:Gl X x)(hm:X.mg x=some (.ref f))(hk:PySem.W.keepIn X.K (.ref f)=true)(hb:Binds X.K fd ps ds)(hd:Vals dvs ds)(hx:Passes CX X E)
  (ha:PA X (e :: es) t) (hdb:(x == ("__debug__":Str))=false:=by decide) (he:starEach (e :: es) X.env=(false,eval e X.env) :: starEach es X.env:=by rfl) (hpl:(backTo pos (starEach es X.env)).any (·.1)=false:=by rfl) :
  PE X (.Call (.Name x p) (e :: es) [] pos) (Gk sp dvs E t):=by
 intro pins s σ H Q I h
 refine OW (uM I hg hm ?_ hdb)
 refine PySem.W.callWith_K (h₀:=X.base) I.ok.mod.kin hk (cK (ha pos pins s σ H _ I h) λus s1 ⟨vs,H1,I1,r,q⟩=>⟨I1.kIn,?_⟩) he hpl
 exact CC F hr hb hd hx I1 r q
def CB (F:fq X.prog X.w X.K X.mg X.base CX k f fd ps sp)(hr:dJ k X.A)(hg:Gl X x)(hm:X.mg x=some (.ref f))(hk:PySem.W.keepIn X.K (.ref f)=true)(hb:Binds X.K fd ps ds)(hd:Vals dvs ds)(hx:Passes CX X E)
  (hdb:(x == ("__debug__":Str))=false:=by decide):PE X (.Call (.Name x p) [] [] pos) (Gk sp dvs E CJ):=by
 intro pins s σ H Q I h
 refine OW (uM I hg hm ?_ hdb)
 exact PySem.W.callWith_K0 I.kIn hk (CC (us:=[]) F hr hb hd hx I .nil h)
end
def PK (X:Cx)(kws:List Keyword)(t:TA):Prop:=
 ∀(pos:Pos) (pins:List (Addr×Obj)) (s:Shared) (σ:St) (H:Hp) (Q:List V->Hp->Prop),Inv X pins σ H s->t σ H Q->wpAny (model X.prog X.w) X.A (evalAll ((backToKw pos (keywordEach kws X.env)).map (·.2))) (AP X pins σ Q) X.xe s
section
variable {X:Cx}{CX:z0}{k:Nat}{f C:Addr}{fd:FuncData}{ps ks:List Str}{sp:Sp}{E:XK}{x m:Str}{p pos apos kpos:Pos}{e o:Expr}{es:List Expr}{kws:List Keyword}{te ta:TE}{t tk:TA}{nm:Option Str}
def Iy:PK X [] CJ:=λ_ _ _ _ H Q I h=>wpAny_evalAll_nil ⟨[],H,I,.nil,h⟩
def EX (ha:PE X e te)(hr:PK X kws t):PK X (⟨nm,e,kpos⟩ :: kws) (zN te t):=by
 intro pos pins s σ H Q I h
 show wpAny _ _ (evalAll ((do let v <-eval e X.env;standAt pos;pure v) :: (backToKw pos (keywordEach kws X.env)).map (·.2))) _ _ s
 refine wpAny_evalAll_cons (Nf (cK (ha pins s σ H _ I h) λu s1 ⟨x,H1,I1,r1,q1⟩=>Nf (wpAny_standAt (NJ ?_))))
 exact cK (hr pos pins s1 σ H1 _ I1 q1) λus s2 ⟨xs,H2,I2,r2,q2⟩=>⟨x :: xs,H2,I2,.cons r1 r2,q2⟩
variable {g:List Value->List Value->List Value}{gV:List V->List V->List V}
end
structure aF (N P:List Str)(sc:Scope):Prop where
 kind:sc.kind=.function
 co:sc.isCoroutine=false
 gen:sc.isGenerator=false
 nd:N.Nodup
 pre:N.take P.length=P
 par:∀x∈P,sc.names.lookup x=some .local\/sc.names.lookup x=some .cell
 nofree:∀y∈sc.names,y.2≠.free
theorem sR {kindOf:Str->Option NameKind}{x:Str}:∀{binds:List (Str×Value)} {m:Str->Option Value},(∀v,(x,v)∉binds)->bindL kindOf binds m x=m x
 | [],_,_=>rfl
 | (n,v) :: r,m,h=>by
  unfold bindL
  rw[sR λw hw=>h w (Nn _ hw)]
  split
  ·have:x≠n:=by rintro rfl;exact h v Np
   simp[this]
  ·rfl
theorem tO {kindOf:Str->Option NameKind}{x:Str}:∀{binds:List (Str×Value)} {m:Str->Option Value},(∀v,(x,v)∉binds)->bindC kindOf binds m x=m x
 | [],_,_=>rfl
 | (n,v) :: r,m,h=>by
  unfold bindC
  rw[tO λw hw=>h w (Nn _ hw)]
  split
  ·rfl
  ·have:x≠n:=by rintro rfl;exact h v Np
   simp[this]
theorem sP {kindOf:Str->Option NameKind}{x:Str}{v:Value}:∀{P:List Str} {vs:List Value} {i:Nat} {m:Str->Option Value},P.Nodup->P[i]? =some x->vs[i]? =some v->kindOf x=some .local->
  bindL kindOf (P.zip vs) m x=some v
 | [],_,_,_,_,h,_,_=>by simp at h
 |_ :: _,[],_,_,_,_,h,_=>by simp at h
 |p :: P,w :: vs,0,m,nd,h1,h2,hk=>by
  simp at h1 h2;subst h1;subst h2
  show bindL kindOf ((p,w) :: P.zip vs) m p=_
  unfold bindL
  rw[sR λv hv=>(N2.mp nd).1 (List.of_mem_zip hv).1,Nc hk]
  simp
 |p :: P,w :: vs,i + 1,m,nd,h1,h2,hk=>by
  show bindL kindOf ((p,w) :: P.zip vs) m x=_
  unfold bindL
  exact sP (i:=i) (N2.mp nd).2 (by simpa using h1) (by simpa using h2) hk
theorem sU {kindOf:Str->Option NameKind}{x:Str}{v:Value}:∀{P:List Str} {vs:List Value} {i:Nat} {m:Str->Option Value},P.Nodup->P[i]? =some x->vs[i]? =some v->kindOf x≠some .local->
  bindC kindOf (P.zip vs) m x=some v
 | [],_,_,_,_,h,_,_=>by simp at h
 |_ :: _,[],_,_,_,_,h,_=>by simp at h
 |p :: P,w :: vs,0,m,nd,h1,h2,hk=>by
  simp at h1 h2;subst h1;subst h2
  show bindC kindOf ((p,w) :: P.zip vs) m p=_
  unfold bindC
  rw[tO λv hv=>(N2.mp nd).1 (List.of_mem_zip hv).1,Nk hk]
  simp
 |p :: P,w :: vs,i + 1,m,nd,h1,h2,hk=>by
  show bindC kindOf ((p,w) :: P.zip vs) m x=_
  unfold bindC
  exact sU (i:=i) (N2.mp nd).2 (by simpa using h1) (by simpa using h2) hk
def start (N:List Str)(vs:List V):St:=vs.map some ++ List.replicate (N.length - vs.length) none
def pF (CX:z0)(P:Program)(w:World)(K:Frag)(mg:Str->Option Value)(base:Heap)(N:List Str)(qual:Str)(scope:Scope)(f:Addr)(cd:Value)(A:Around)(outer:List Env)(s:Shared)(H:Hp)(E:XK):Cx where
 prog:=P
 w:=w
 K:=K
 mg:=mg
 base:=base
 A:=A.deeper (envOfC qual scope s.heap.objs.size f cd)
 N:=N
 s₀:=s
 H₀:=H
 env:=envOfC qual scope s.heap.objs.size f cd
 outer:=outer
 stack:=envOfC qual scope s.heap.objs.size f cd :: outer
 ex:=[]
 calm:=true
 fn:=λ_=>true
 pn:=[]
 xe:=λe s'=>wpAny (model P w) (A.deeper (envOfC qual scope s.heap.objs.size f cd)) (leaving (envOfC qual scope s.heap.objs.size f cd) e) (λ_ s''=>CX outer H s E e s'') (λe' s''=>CX outer H s E e' s'') s'
def vp {sc:Scope}{n:Nat}{x:Str}(h:sc.names.lookup x=some .cell):∃c,(cellsFrom n sc.names []).lookup x=some c:=by
 have q:=PySem.W.cellsFrom_some sc.names n [] (.inl h)
 exact Option.isSome_iff_exists.mp q
def AJ {CX:z0}{P:Program}{w:World}{K:Frag}{mg:Str->Option Value}{base:Heap}{N ps:List Str}{qual:Str}{scope:Scope}{f:Addr}{cd:Value}{A:Around}{outer:List Env}{s s1:Shared}{H:Hp}{E:XK}{us:List Value}{vs:List V}
  (S:aF N ps scope) (hd:A.handled=none) (e0:xR P w K mg base A outer s H) (hl:vs.length=ps.length) (r:Vals vs us)
  (x:InCallC s s.heap.objs.size (bindL (envOfC qual scope s.heap.objs.size f cd).kindOf (ps.zip us) λ_=>none) (cellsFrom (s.heap.objs.size + 1) scope.names []) (bindC (envOfC qual scope s.heap.objs.size f cd).kindOf (ps.zip us) λ_=>none) s1) :
  Inv (pF CX P w K mg base N qual scope f cd A outer s H E) [] (start N vs) H s1:=by
 have hpl:ps.length<=N.length:=by have:=congrArg List.length S.pre;rw[NU] at this;omega
 obtain⟨h1,tk,rfl,hk⟩:=x.done
 have noA:∀b:Addr,b∉(pF CX P w K mg base N qual scope f cd A outer s H E).ex:=λb z=>absurd (show b∈([]:List Addr) from z) (by simp)
 refine⟨⟨e0.mod,S.kind,rfl,rfl,Na _,λy z c h1 h2=>?_,λy hy=>?_,λy c _ h=>?_,λ_=>hd,Around.frames_deeper e0.frames,.inr ⟨rfl,rfl⟩,λb z=>absurd z (noA b),e0.bs,e0.bsz,λb _ _=>noA b,λb z=>absurd z (noA b),e0.funs,e0.frf⟩,
  rfl,e0.bare,Un.kept hk,⟨_,x.toInCall.ns,λi y v h1 h2 h3=>?_⟩,λy c h=>⟨_,x.cell y c h⟩,e0.hok.fresh (Na _),λy c h=>?_,λp hp=>absurd (show p∈([]:List (Addr×Obj)) from hp) (by simp),e0.hok.kept hk,?_⟩
 ·exact name_of_addr x.apart (N6 h1) (N6 h2)
 ·have hy:scope.names.lookup y=some .cell\/scope.names.lookup y=some .free:=hy
  rcases hy with hy |hy
  ·exact vp hy
  ·exact absurd rfl (S.nofree _ (N6 hy))
 ·exact O1 (x.above y c (N6 h))
 ·have hi:i < vs.length:=by
   unfold start at h2
   by_cases hi:i < vs.length
   ·exact hi
   ·rw[NO (by simpa using hi)] at h2
    rw[Oe] at h2
    split at h2 <;> cases h2
  have ha:vs[i]? =some v:=by
   unfold start at h2
   rw[NI (by simpa using hi),Nm] at h2
   cases e:vs[i]? with
   |none=>rw[e] at h2;cases h2
   |some a=>rw[e] at h2;cases h2;rfl
  obtain⟨u,hu,rv⟩:=r.get ha
  have hp:ps[i]? =some y:=by
   rw[<-S.pre,List.getElem?_take_of_lt (by omega)];exact h1
  have ndP:ps.Nodup:=by rw[<-S.pre];exact S.nd.sublist (List.take_sublist _ _)
  refine⟨u,rv,?_⟩
  rcases S.par y (Nw hp) with k |k
  ·exact .inl ⟨k,sP ndP hp hu k⟩
  ·obtain⟨c,e⟩:=vp (n:=s.heap.objs.size + 1) k
   refine .inr ⟨.inl k,c,e,?_⟩
   have q:=x.cell y c e
   rw[sU ndP hp hu (by show scope.names.lookup y≠_;rw[k];decide)] at q
   exact q
 ·exact e0.hok.fresh (O1 (x.above y c (N6 h)))
 ·unfold start
  show _=N.length
  rw[NF,Nb,NX]
  omega
theorem CH {CX:z0}{P:Program}{w:World}{K:Frag}{mg:Str->Option Value}{base:Heap}{k:Nat}{f:Addr}{name qual:Str}{params:Arguments}{body:List Stmt}{scope:Scope}{dV kV doc pm cdv ct oc:Value}{an od:Option Addr}
  {osl:Array (Option Value)} {N ps:List Str} {sp:Sp} (lk:K.lookup f=some ⟨oc,od,.func (PySem.W.fnOf name qual params body scope dV kV doc pm an cdv ct),osl⟩) (hcd:PySem.W.codeIn K cdv qual=true) (S:aF N ps scope)
  (len:∀vs H Q E,sp vs H Q E->vs.length=ps.length)
  (hbody:∀(A:Around) (outer:List Env) (s:Shared) (H:Hp) (vs:List V) (Q:VK) (E:XK),dJ k (A.deeper (envOfC qual scope s.heap.objs.size f cdv))->sp vs H Q E->
   ∃t,rO (pF CX P w K mg base N qual scope f cdv A outer s H E) body t/\t {nx:=λ_ H'=>Q .non H',rt:=Q} (start N vs) H) :
  fq P w K mg base CX (k + 1) f (PySem.W.fnOf name qual params body scope dV kV doc pm an cdv ct) ps sp:=by
 refine⟨len,λA outer s H args us vs Q E hr e0 hb r hsp=>?_⟩
 have hl:=len _ _ _ _ hsp
 have KX:K.In s.heap:=e0.mod.kin.keeps λb o e=>(e0.bs b o e).1
 have lim:s.heap.NoLimit:=e0.mod.nolimit.keeps λb o e=>(e0.bs b o e).1
 have hkind:∀y∈ps.zip us,scope.names.lookup y.1=some .local\/(scope.names.lookup y.1=some .cell/\((cellsFrom (s.heap.objs.size + 1) scope.names []).lookup y.1).isSome=true):=λ⟨n,v⟩ hy=>by
  rcases S.par n (List.of_mem_zip hy).1 with q |q
  ·exact .inl q
  ·exact .inr ⟨q,PySem.W.cellsFrom_some _ _ _ (.inl q)⟩
 refine codeAny_call_function hr.depth (KX _ _ lk) rfl S.co S.gen rfl (PySem.W.codeRec_of KX hcd) (hb _ _ _ _ ?_)
 refine wpAny_newFunctionEnv_cells S.kind hkind λenv he s1 x=>?_
 subst he
 refine⟨lim.keeps x.toInCall.keep,codeAny_func ?_⟩
 obtain⟨t,ht,hq⟩:=hbody A outer s H vs Q E (hr.deeper _) hsp
 have I:Inv (pF CX P w K mg base N qual scope f cdv A outer s H E) [] (start N vs) H s1:=AJ S hr.hd e0 hl r x
 refine Of (ht [] s1 (start N vs) H _ I hq) (λfl s' hs=>?_) λe s' hs=>hs
 have fin:∀{σ':St} {H':Hp} {v:V} {u:Value},Inv (pF CX P w K mg base N qual scope f cdv A outer s H E) [] σ' H' s'->RelV v u->Q v H'->CE outer P w H s Q u s':=
  λ{σ' H' v u} J rv q=>⟨v,H',J.os,J.bare,J.base,J.hok,rv,q⟩
 cases fl with
 |ret u=>
  obtain⟨v,σ',H',J,rv,q⟩:=hs
  exact fin J rv q
 |next=>
  obtain⟨σ',H',J,q⟩:=hs
  exact fin (v:=V.non) (u:=Value.none) J rfl q
 |brk=>
  obtain⟨_,_,_,q⟩:=hs
  exact False.elim q
 |cont=>
  obtain⟨_,_,_,q⟩:=hs
  exact False.elim q
section
variable {X:Cx}{x:Str}{p pos:Pos}{e:Expr}{es:List Expr}{t:TA}{id T:String}{r:List V->Hp->VK->Prop}
def MG (r:List V->Hp->VK->Prop)(t:TA):TE:=λσ H Q=>t σ H λvs H1=>r vs H1 Q
def qZ (hc:iJ X (.builtin id) r)(hg:Gl X x)(hm:X.mg x=none)(hv:bootBuiltins x=some (.builtin id))(ha:PA X (e :: es) t)(hn:x≠"__name__":=by decide)(hdb:(x == ("__debug__":Str))=false:=by decide)
  (he:starEach (e :: es) X.env=(false,eval e X.env) :: starEach es X.env:=by rfl) (hpl:(backTo pos (starEach es X.env)).any (·.1)=false:=by rfl):PE X (.Call (.Name x p) (e :: es) [] pos) (MG r t):=by
 intro pins s σ H Q I h
 refine OW (lX I hg hm hv ?_ hn hdb)
 exact PyProof.Rows.callWith_builtin1 (cK (ha pos pins s σ H _ I h) λus s1 ⟨vs,H1,I1,r1,q1⟩=>hc pins s1 σ H1 vs us Q I1 r1 q1) he hpl
def mn (hc:iJ X (.type T) r)(hg:Gl X x)(hm:X.mg x=none)(hv:bootBuiltins x=some (.type T))(ha:PA X (e :: es) t)(hn:x≠"__name__":=by decide)(hdb:(x == ("__debug__":Str))=false:=by decide)
  (he:starEach (e :: es) X.env=(false,eval e X.env) :: starEach es X.env:=by rfl) (hpl:(backTo pos (starEach es X.env)).any (·.1)=false:=by rfl):PE X (.Call (.Name x p) (e :: es) [] pos) (MG r t):=by
 intro pins s σ H Q I h
 refine OW (lX I hg hm hv ?_ hn hdb)
 exact Ox (cK (ha pos pins s σ H _ I h) λus s1 ⟨vs,H1,I1,r1,q1⟩=>hc pins s1 σ H1 vs us Q I1 r1 q1) he hpl
end
end L2
namespace HT
open PySem PyProof.Rows
section
open PySem.SeqAt
open PySem.AutoSeq1 (wpAny_loadPart')
open PySem.MeetsSeq PySem.MeetsSeq2 PySem.MeetsSeq3
end
section
variable {prog:Program}{w:World}{A:Around}{E:Value->Shared->Prop}{s:Shared}
def DT {t b:Addr}{vs ws:List Value}{Q:Value->Shared->Prop}(ht:IsTup s.heap t vs.toArray)(hb:IsTup s.heap b ws.toArray)(hv:vs≠ [])
  (h1:ws= []->Q (.ref t) s) (h2:ws≠ []->Q (.ref s.heap.objs.size) {s with heap:=s.heap.push {cls:=.type "tuple",data:=.seq (vs ++ ws).toArray}})
  (hsz:vs.length + ws.length<=sizeLine):wpAny (model prog w) A (binaryOp .Add (.ref t) (.ref b)) Q E s:=by
 obtain⟨⟨cls,dd,data,sl⟩,ho,hc,n,hd⟩:=id ht
 obtain⟨⟨cls2,dd2,data2,sl2⟩,ho2,hc2,n2,hd2⟩:=id hb
 simp only at hc hd hc2 hd2
 subst hc hd hc2 hd2
 have e:vs.toArray ++ ws.toArray=(vs ++ ws).toArray:=by simp
 by_cases hw:ws= []
 ·exact concat_meets ⟨_,ho,rfl⟩ ⟨_,ho2,rfl⟩ noFill_tuple_add seq_tuple_add PySem.F.slot_tuple_add PySem.F.entry_tuple_add (Pb _ _)
   (tuple_addW1 t b vs.toArray ws.toArray n n2 dd dd2 sl sl2 (by simpa using hv) (by simp[hw])) ⟨ho,ho2,h1 hw⟩
 ·refine concat_meets ⟨_,ho,rfl⟩ ⟨_,ho2,rfl⟩ noFill_tuple_add seq_tuple_add PySem.F.slot_tuple_add PySem.F.entry_tuple_add (Pb _ _)
   (tuple_addW2 t b vs.toArray ws.toArray n n2 dd dd2 sl sl2 (by simpa using hv) (by simpa using hw) (by rw[Nt,Nt];exact hsz)) ⟨ho,ho2,?_⟩
  rw[e]
  exact h2 hw
def sW (n d:Nat):Option Int->Nat
 |none=>d
 |some v=>if v < 0 then (v + (n:Int)).toNat else min v.toNat n
def vV (n d:Nat):sW n d none=d:=rfl
def zC (n d k:Nat):sW n d (some (k:Int))=min k n:=by
 show (if (k:Int) < 0 then ((k:Int) + (n:Int)).toNat else min (k:Int).toNat n)=min k n
 rw[Nk (by omega),NP]
end
end HT
namespace L2
open PySem PySem.Spec PyProof.Rows
abbrev TO:=St->Hp->(Option Int->Hp->Prop)->Prop
def PO (X:Cx)(e:Option Expr)(t:TO):Prop:=
 ∀(pins:List (Addr×Obj)) (s:Shared) (σ:St) (H:Hp) (Q:Option Int->Hp->Prop),Inv X pins σ H s->t σ H Q->
  wpAny (model X.prog X.w) X.A (evalPart e X.env) (λu s'=>∃o H',Inv X pins σ H' s'/\IsPart u o/\Q o H') X.xe s
def DG:TO:=λ_ H Q=>Q none H
def Jr (t:TE):TO:=λσ H Q=>t σ H λx H1=>∃i,x=.int i/\Q (some i) H1
section
variable {X:Cx}{e:Expr}{te:TE}{lo hi:Option Expr}{tl th:TO}{pos p2:Pos}
def El:PO X none DG:=by
 intro pins s σ H Q I h
 rw[evalPart_none]
 exact NJ ⟨none,H,I,.none,h⟩
def DH (h:PE X e te):PO X (some e) (Jr te):=by
 intro pins s σ H Q I hw
 rw[evalPart_some]
 refine cK (h pins s σ H _ I hw) λu s1 ⟨x,H1,I1,r1,q1⟩=>?_
 obtain⟨i,rfl,q⟩:=q1
 obtain⟨t,rfl⟩:=r1
 exact⟨some i,H1,I1,.int i t,q⟩
def MM (X:Cx)(r:V->Option Int->Option Int->Hp->VK->Prop):Prop:=
 ∀(pins:List (Addr×Obj)) (s:Shared) (σ:St) (H:Hp) (x:V) (v vl vu:Value) (lo hi:Option Int) (sl:Addr) (Q:VK),Inv X pins σ H s->RelV x v->s.heap.IsSliceOf sl vl vu .none->IsPart vl lo->IsPart vu hi->r x lo hi H Q->
  ∃T id,typeLookup (.type T) "__getitem__"=pure (some (.builtin id))/\s.TypeIs v T/\wpAny (model X.prog X.w) X.A (getItem v (.ref sl)) (EP X pins σ Q) X.xe s
def MW (r:V->Option Int->Option Int->Hp->VK->Prop)(te:TE)(tl th:TO):TE:=λσ H Q=>te σ H λx H1=>tl σ H1 λl H2=>th σ H2 λu H3=>r x l u H3 Q
def C2 {r:V->Option Int->Option Int->Hp->VK->Prop}(hr:MM X r)(he:PE X e te)(hl:PO X lo tl)(hu:PO X hi th):PE X (.Subscript e (.Slice lo hi none p2) pos) (MW r te tl th):=by
 intro pins s σ H Q I h
 refine Subscript_ (cK (he pins s σ H _ I h) λv s1 ⟨x,H1,I1,r1,q1⟩=>?_)
 refine wpAny_Slice (cK (hl pins s1 σ H1 _ I1 q1) λvl s2 ⟨l,H2,I2,pl,q2⟩=>cK (hu pins s2 σ H2 _ I2 q2) λvu s3 ⟨u,H3,I3,pu,q3⟩=>?_)
 rw[evalPart_none]
 refine NJ ?_
 have I4:Inv X pins σ H3 {s3 with heap:=s3.heap.push {cls:=.type "slice",data:=.fields #[vl,vu,.none]}}:=I3.kept (t':=s3.toks) λb ob q=>Nd _ q
 obtain⟨T,id,hT,ht,hg⟩:=hr pins {s3 with heap:=s3.heap.push {cls:=.type "slice",data:=.fields #[vl,vu,.none]}} σ H3 x v vl vu l u s3.heap.objs.size Q I4 r1 (Heap.IsSliceOf.new ..) pl pu q3
 show wpAny (model X.prog X.w) X.A (subscriptTail e (.Slice lo hi none p2) v (.ref s3.heap.objs.size)) (EP X pins σ Q) X.xe {s3 with heap:=s3.heap.push {cls:=.type "slice",data:=.fields #[vl,vu,.none]}}
 exact tail_any (ops:=[.ref s3.heap.objs.size,v]) ht hT hg (by with_unfolding_all rfl)
def xV (xs:List V)(lo hi:Option Int):List V:=(xs.drop (HT.sW xs.length 0 lo)).take (HT.sW xs.length xs.length hi - HT.sW xs.length 0 lo)
def wC (xs:List V)(lo hi:Option Int):(xV xs lo hi).length<=xs.length:=by
 unfold xV
 rw[NU,OT]
 omega
def JD (K:Frag):R2:=λx y H Q=>∃a b xs ys,x=.ref a/\y=.ref b/\gB K H a xs/\gB K H b ys/\xs≠ []/\xs.length + ys.length<=sizeLine/\
 (ys= []->Q (.ref a) H)/\(ys≠ []->∀p,H p=none->Q (.ref p) (upd H p (.tup (xs ++ ys))))
theorem Vals.nil_iff {xs:List V}{us:List Value}(r:Vals xs us):us= []↔xs= []:=by
 cases r with
 |nil=>simp
 |cons _ _=>simp
def DL:kG X (binaryOp .Add) (JD X.K):=by
 intro pins s σ H x y v u Q I rx ry h
 obtain⟨a,b,xs,ys,rfl,rfl,ha,hb,hx,hz,q1,q2⟩:=h
 cases rx
 cases ry
 obtain⟨its,r1,p1,_⟩:=I.tuple ha
 obtain⟨its2,r2,p2,_⟩:=I.tuple hb
 refine HT.DT p1 p2 (λz=>hx (r1.nil_iff.mp z)) (λz=>⟨.ref a,H,I,rfl,q1 (r2.nil_iff.mp z)⟩) (λz=>?_) (by rw[<-r1.length,<-r2.length];exact hz)
 refine⟨.ref s.heap.objs.size,_,I.laid (t':=s.toks) (o:=.tup (xs ++ ys)) (λb ob q=>Nd _ q) (Na _) ?_,rfl,q2 (λw=>z (r2.nil_iff.mpr w)) _ (I.hok.fresh (Na _))⟩
 exact⟨by rw[NF];exact hz,_,r1.append r2,r6.new _ _⟩
end
def rN (n:Nat)(i:Int):Option Nat:=if 0<=i then (if i < n then some i.toNat else none) else if -(n:Int)<=i then some (i + n).toNat else none
def lG {α:Type}(xs:List α)(i:Int):Option α:=(rN xs.length i).bind λj=>xs[j]?
def yM {n:Nat}{i:Int}{j:Nat}(h:rN n i=some j):seqIndex? i n=some j/\j < n/\ -(n:Int)<=i/\i < n:=by
 unfold rN at h
 by_cases h0:0<=i
 ·rw[Nc h0] at h
  by_cases h1:i < n
  ·rw[Nc h1] at h
   have e:i.toNat=j:=Option.some.inj h
   exact⟨by rw[seqIndex_of h0 h1,e],by omega,by omega,h1⟩
  ·rw[Nk h1] at h;cases h
 ·rw[Nk h0] at h
  by_cases h1: -(n:Int)<=i
  ·rw[Nc h1] at h
   have e:(i + n).toNat=j:=Option.some.inj h
   exact⟨by rw[seqIndex_neg (by omega) h1,e],by omega,h1,by omega⟩
  ·rw[Nk h1] at h;cases h
theorem ub {α:Type}{xs:List α}{i:Int}{v:α}(h:lG xs i=some v):∃j,seqIndex? i xs.length=some j/\xs[j]? =some v/\j < xs.length/\ -(xs.length:Int)<=i/\i < xs.length:=by
 unfold lG at h
 cases e:rN xs.length i with
 |none=>rw[e] at h;cases h
 |some j=>
  rw[e] at h
  obtain⟨h1,h2,h3,h4⟩:=yM e
  exact⟨j,h1,h,h2,h3,h4⟩
def gm {α:Type}{xs:List α}{j:Nat}{v:α}(h:xs[j]? =some v):lG xs (j:Int)=some v:=by
 have hj:j < xs.length:=(Ng.mp h).1
 have e:rN xs.length (j:Int)=some j:=by
  unfold rN
  rw[Nc (by omega),Nc (by omega)];simp
 unfold lG;rw[e];exact h
def yZ (b:Expr):Prop:=∀o i,subscripted b false o i=operate [o,i] (getItem o i)
def DA (X:Cx)(r:R2):Prop:=
 ∀(value slice:Expr) (pins:List (Addr×Obj)) (s:Shared) (σ:St) (H:Hp) (x y:V) (v u:Value) (Q:VK),Inv X pins σ H s->RelV x v->RelV y u->r x y H Q->
  subscripted slice false v u=operate [v,u] (getItem v u)->wpAny (model X.prog X.w) X.A (subscriptTail value slice v u) (EP X pins σ Q) X.xe s
def MQ (X:Cx)(id:String)(r:V->List V->Hp->VK->Prop):Prop:=
 ∀(pins:List (Addr×Obj)) (s:Shared) (σ:St) (H:Hp) (x:V) (xs:List V) (v:Value) (us:List Value) (Q:VK),Inv X pins σ H s->RelV x v->Vals xs us->r x xs H Q->
  wpAny (model X.prog X.w) X.A (call (.builtin id) (v :: us)) (EP X pins σ Q) X.xe s
section
variable {X:Cx}{a b:Expr}{ta tb:TE}{pos:Pos}
def DA.or {r r':R2}(h:DA X r)(h':DA X r'):DA X (λx y H Q=>r x y H Q\/r' x y H Q):=by
 intro value slice pins s σ H x y v u Q I rx ry q hs
 rcases q with q |q
 ·exact h value slice pins s σ H x y v u Q I rx ry q hs
 ·exact h' value slice pins s σ H x y v u Q I rx ry q hs
def mR {r:R2}(hr:DA X r)(ha:PE X a ta)(hb:PE X b tb)(hs:yZ b):PE X (.Subscript a b pos) (Lo r ta tb):=by
 intro pins s σ H Q I h
 exact Subscript_ (Hr ha hb I h λv u s2 x y H2 I2 rx ry q=>hr a b pins s2 σ H2 x y v u Q I2 rx ry q (hs _ _))
def G8 (K:Frag):R2:=λx y H Q=>∃p xs i v,x=.ref p/\y=.int i/\iM K H p xs/\lG xs i=some v/\Q v H
def Kh (K:Frag):R2:=λx y H Q=>∃p xs i v,x=.ref p/\y=.int i/\gB K H p xs/\lG xs i=some v/\Q v H
def Jc:R2:=λx y H Q=>∃z i c,x=.str z/\y=.int i/\z.length<=sizeLine/\lG z.cps.toList i=some c/\Q (.str ⟨#[c]⟩) H
def i5:DA X (G8 X.K):=by
 intro value slice pins s σ H x y v u Q I rx ry h hs
 obtain⟨p,xs,i,z,rfl,rfl,hq,he,q⟩:=h
 cases rx
 obtain⟨t,rfl⟩:=ry
 obtain⟨its,r,pl,hz⟩:=I.list hq
 obtain⟨j,h1,h2,h3,h4,h5⟩:=ub he
 obtain⟨w,ew,rw'⟩:=r.get h2
 have hl:=r.length
 have hn:=oH
 have fin:EP X pins σ Q w s:=⟨z,H,I,rw',q⟩
 by_cases h0:0<=i
 ·have hj:i.toNat=j:=by
   rw[seqIndex_of h0 h5] at h1
   exact Option.some.inj h1
  exact item_listR pl.isList h0 (by omega) (by rw[hj];simpa using ew) fin hs
 ·have hj:(i + (its.toArray.size:Int)).toNat=j:=by
   rw[seqIndex_neg (by omega) h4] at h1
   rw[Nt,<-hl]
   exact Option.some.inj h1
  exact subscriptTail_builtinR (x:=w) pl.isList.typeIs slot_list_getitem.lookup
   (wpAny_getItem_list_neg (Q:=λr s'=>r=w/\EP X pins σ Q r s') pl.isList (by omega) (by rw[Nt] <;> omega) (by omega) (by rw[hj];simpa using ew) ⟨rfl,fin⟩) hs
def IF:DA X (Kh X.K):=by
 intro value slice pins s σ H x y v u Q I rx ry h hs
 obtain⟨p,xs,i,z,rfl,rfl,hq,he,q⟩:=h
 cases rx
 obtain⟨t,rfl⟩:=ry
 obtain⟨its,r,pl,hz⟩:=I.tuple hq
 obtain⟨j,h1,h2,h3,h4,h5⟩:=ub he
 obtain⟨w,ew,rw'⟩:=r.get h2
 have hl:=r.length
 have hn:=oH
 have fin:EP X pins σ Q w s:=⟨z,H,I,rw',q⟩
 exact subscriptTail_builtinR (x:=w) pl.typeIs slot_tuple_getitem.lookup
  (getItem_tuple (j:=j) (Q:=λr s'=>r=w/\EP X pins σ Q r s') pl (by omega) (by omega) (by rw[Nt,<-hl];exact h1) (by simpa using ew) ⟨rfl,fin⟩) hs
def Iz:DA X Jc:=by
 intro value slice pins s σ H x y v u Q I rx ry h hs
 obtain⟨z,i,c,rfl,rfl,hz,he,q⟩:=h
 obtain⟨t,rfl⟩:=rx
 obtain⟨t',rfl⟩:=ry
 obtain⟨j,h1,h2,h3,h4,h5⟩:=ub he
 have hl:z.cps.toList.length=z.length:=by simp[Str.length]
 rw[hl] at h1 h4 h5
 have hn:=oH
 exact tail_any (typeIs_str s z t) slot_str_getitem.lookup (getItem_str (c:=c) (by
  have e1:decide (i < -(2 ^ 63:Int))=false:=Nx (by omega)
  have e2:decide (i>=2 ^ 63)=false:=Nx (by omega)
  rw[e1,e2,Bool.or_false]) (by rw[h1];simpa using h2) ⟨.str ⟨#[c]⟩,H,I.tok _,⟨_,rfl⟩,q⟩) hs
def MD (K:Frag):R2:=λx y H Q=>G8 K x y H Q\/Kh K x y H Q\/Jc x y H Q
def aA:DA X (MD X.K):=i5.or (IF.or Iz)
def xB (its:List Value)(n j:Nat)(u:Value):Obj.mapSeq (·.setIfInBounds j u) {cls:=.type "list",data:=.seq its.toArray n}={cls:=.type "list",data:=.seq (its.set j u).toArray n}:=by
 simp[Obj.mapSeq]
def Inv.lst {pins:List (Addr×Obj)}{σ:St}{H:Hp}{s:Shared}{p:Addr}{xs:List V}(I:Inv X pins σ H s)(h:H p=some (.lst xs)) :
  ∃(its:List Value) (n:Nat),Vals xs its/\s.heap.get? p=some {cls:=.type "list",data:=.seq its.toArray n}/\xs.length<=sizeLine:=by
 obtain⟨z,its,n,r,e⟩:=I.hok p _ h
 exact⟨its,n,r,e,z⟩
def Inv.lstUpd {pins:List (Addr×Obj)}{σ:St}{H:Hp}{s:Shared}{p:Addr}{xs ys:List V}{its its':List Value}{n n':Nat}{f:Obj->Obj}(I:Inv X pins σ H s)(h:H p=some (.lst xs))
  (ho:s.heap.get? p=some {cls:=.type "list",data:=.seq its.toArray n}) (hf:f {cls:=.type "list",data:=.seq its.toArray n}={cls:=.type "list",data:=.seq its'.toArray n'}) (r:Vals ys its') (hz:ys.length<=sizeLine) (t:Nat) :
  Inv X pins σ (upd H p (.lst ys)) {s with heap:=s.heap.update p f,toks:=t}:=by
 have e:(s.heap.update p f).get? p=some {cls:=.type "list",data:=.seq its'.toArray n'}:=by
  rw[O2 f ho (by rw[hf] <;> rfl),hf]
 refine I.write (x:=p) (e:=p) (by rw[h];trivial) (.inl rfl) (λb u hb q=>(Ob _ _ (Ne.symm hb)).trans q) ⟨_,e⟩ ?_
 exact⟨hz,its',n',r,e⟩
def JE:V->V->V->Hp->(Hp->Prop)->Prop:=λo i v H Q=>∃p xs k j,o=.ref p/\i=.int k/\H p=some (.lst xs)/\rN xs.length k=some j/\Q (upd H p (.lst (xs.set j v)))
def set_list:B7 X JE:=by
 intro pins s σ H o i v ov iv u Q I ro ri rv h
 obtain⟨p,xs,k,j,rfl,rfl,hp,hj,q⟩:=h
 cases ro
 obtain⟨t,rfl⟩:=ri
 obtain⟨its,n,r,ho,hz⟩:=I.lst hp
 obtain⟨h1,h2,h3,h4⟩:=yM hj
 have hl:=r.length
 have hn:=oH
 have I':Inv X pins σ (upd H p (.lst (xs.set j v))) {s with heap:=s.heap.update p (Obj.mapSeq (·.setIfInBounds j u))}:=
  I.lstUpd hp ho (xB its n j u) (r.set rv j) (by rw[Oi];exact hz) s.toks
 by_cases h0:0<=k
 ·have hk:k.toNat=j:=by
   rw[seqIndex_of h0 h4] at h1
   exact Option.some.inj h1
  exact PySem.W.ki_setAt ho h0 (by omega) (by rw[Nt,<-hl];exact h4) (by rw[hk];exact⟨_,I',q⟩)
 ·have hk:(k + (its.toArray.size:Int)).toNat=j:=by
   rw[seqIndex_neg (by omega) h3] at h1
   rw[Nt,<-hl]
   exact Option.some.inj h1
  exact PySem.W.ki_setBack ho (by omega) (by rw[Nt,<-hl];exact h3) (by omega) (by rw[hk];exact⟨_,I',q⟩)
def uq (lo hi:Option Int)(n:Nat):(sliceBounds lo hi none n).1=((HT.sW n 0 lo:Nat):Int)/\(sliceBounds lo hi none n).2.1=((HT.sW n n hi:Nat):Int)/\(sliceBounds lo hi none n).2.2=1:=by
 refine⟨?_,?_,rfl⟩
 ·cases lo with
  |none=>simp[sliceBounds,HT.sW]
  |some i=>
   simp only[sliceBounds,HT.sW,Option.getD_none,show (1:Int) > 0 by decide,Ol]
   by_cases h:i < 0
   ·simp only[h,Ol] <;> omega
   ·simp only[h,Ov] <;> omega
 ·cases hi with
  |none=>simp[sliceBounds,HT.sW]
  |some i=>
   simp only[sliceBounds,HT.sW,Option.getD_none,show (1:Int) > 0 by decide,Ol]
   by_cases h:i < 0
   ·simp only[h,Ol] <;> omega
   ·simp only[h,Ov] <;> omega
def sk (its:List Value)(lo hi:Option Int):slicePick its.toArray lo hi none=((its.drop (HT.sW its.length 0 lo)).take (HT.sW its.length its.length hi - HT.sW its.length 0 lo)).toArray:=by
 obtain⟨h1,h2,h3⟩:=uq lo hi its.toArray.size
 unfold slicePick
 rw[h1,h2,h3]
 simp only[sliceRange_one,pick_run,Nt] <;> rfl
def LX (K:Frag):V->Option Int->Option Int->Hp->VK->Prop:=λx lo hi H Q=>∃a xs,x=.ref a/\iM K H a xs/\∀p,H p=none->Q (.ref p) (upd H p (.lst (xV xs lo hi)))
def DW:MM X (LX X.K):=by
 intro pins s σ H x v vl vu lo hi sl Q I rx hs pl pu h
 obtain⟨a,xs,rfl,hx,q⟩:=h
 cases rx
 obtain⟨its,r,ht,hz⟩:=I.list hx
 have hlen:=r.length
 refine⟨"list",_,slot_list_getitem.lookup,ht.isList.typeIs,?_⟩
 refine wpAny_getItem_list_slice ht.isList hs pl pu .none (by simp) ?_ (by rw[Nt] <;> omega)
 rw[sk,<-hlen]
 refine⟨.ref s.heap.objs.size,_,I.laid (t':=s.toks) (o:=.lst (xV xs lo hi)) (λb ob q=>Nd _ q) (Na _) ?_,rfl,q _ (I.hok.fresh (Na _))⟩
 exact⟨N8 (wC xs lo hi) hz,_,0,(r.drop (HT.sW xs.length 0 lo)).take (HT.sW xs.length xs.length hi - HT.sW xs.length 0 lo),Nu _ rfl⟩
def tW:iJ X (.type "list") (λxs H Q=>∃p ys,xs= [.ref p]/\(iM X.K H p ys\/gB X.K H p ys)/\∀l,H l=none->Q (.ref l) (upd H l (.lst ys))):=by
 intro pins s σ H xs us Q I r h
 obtain⟨p,ys,rfl,hq,q⟩:=h
 obtain⟨u,rfl,rx⟩:=vals1 r
 cases rx
 have fin:∀(its:List Value),Vals ys its->ys.length<=sizeLine->∀(h':Heap) (c':Nat),(∀b o',s.heap.get? b=some o'->h'.get? b=some o')->
   h'.get? s.heap.objs.size=some {cls:=.type "list",dict:=none,data:=.seq its.toArray c',slots:=#[]}->EP X pins σ Q (.ref s.heap.objs.size) {s with heap:=h'}:=λits r' hz h' c' kp e=>
  ⟨.ref s.heap.objs.size,_,I.laid (t':=s.toks) kp (Na _) (show cW X.prog X.w _ h' _ (.lst ys) from⟨hz,its,c',r',e⟩),rfl,q _ (I.hok.fresh (Na _))⟩
 rcases hq with hq |hq
 ·obtain⟨its,r',pl,hz⟩:=I.list hq
  have hlen:=r'.length
  obtain⟨o,ho,hc,n,hd⟩:=pl.isList
  exact call_list_seq p (.inl rfl) ho hc hd (λh' c' kp e=>fin its r' hz h' c' kp e) (by simp only[Nt] <;> omega)
 ·obtain⟨its,r',pl,hz⟩:=I.tuple hq
  have hlen:=r'.length
  obtain⟨o,ho,hc,n,hd⟩:=pl
  exact call_list_seq p (.inr rfl) ho hc hd (λh' c' kp e=>fin its r' hz h' c' kp e) (by simp only[Nt] <;> omega)
def cQ:iJ X (.type "tuple") (λxs H Q=>∃p ys,xs= [.ref p]/\((iM X.K H p ys/\∀l,H l=none->Q (.ref l) (upd H l (.tup ys)))\/(gB X.K H p ys/\Q (.ref p) H))):=by
 intro pins s σ H xs us Q I r h
 obtain⟨p,ys,rfl,h⟩:=h
 obtain⟨u,rfl,rx⟩:=vals1 r
 cases rx
 rcases h with⟨hq,q⟩ | ⟨hq,q⟩
 ·obtain⟨its,r',pl,hz⟩:=I.list hq
  have hlen:=r'.length
  refine call_tuple_list pl.isList (λh' kp=>?_) (by simp only[Nt] <;> omega)
  have I1:Inv X pins σ H {s with heap:=h'}:=I.kept (t':=s.toks) kp
  have I2:Inv X pins σ (upd H h'.objs.size (.tup ys)) {s with heap:=h'.push {cls:=.type "tuple",data:=.seq its.toArray}}:=
   I1.laid (t':=s.toks) (λb o e=>Nd _ e) (Na _) (show cW X.prog X.w _ _ _ (.tup ys) from⟨hz,its,r',r6.new _ _⟩)
  exact⟨.ref h'.objs.size,_,I2,rfl,q _ (I1.hok.fresh (Na _))⟩
 ·obtain⟨its,r',pl,hz⟩:=I.tuple hq
  exact call_tuple_same pl ⟨.ref p,H,I,rfl,q⟩
def MF (K:Frag)(T:String)(x:V)(H:Hp):Prop:=match x with
 | .str _=>T="str"
 | .int _=>T="int"
 | .ref p=>(T="list"/\∃xs,iM K H p xs)\/(T="tuple"/\∃o,K.lookup p=some o/\o.cls=.type "tuple"/\o.dict=none)\/
   (T="dict"/\((∃kvs,H p=some (.dK kvs))\/∃kvs,H p=some (.dT kvs)))\/(T="set"/\∃S n,H p=some (.set S n))
 |_=>False
theorem IP {pins:List (Addr×Obj)}{σ:St}{H:Hp}{s:Shared}{T:String}{x:V}{v:Value}(I:Inv X pins σ H s)(r:RelV x v)(ty:MF X.K T x H) :
  s.TypeIs v T/\∀a,v=.ref a->∃ob,s.heap.get? a=some ob/\ob.dict=none:=by
 cases x with
 |str z=>
  obtain⟨t,rfl⟩:=r
  cases (show T="str" from ty)
  exact⟨typeIs_str s z t,λ_ e=>nomatch e⟩
 |int i=>
  obtain⟨t,rfl⟩:=r
  cases (show T="int" from ty)
  exact⟨typeIs_int s i t,λ_ e=>nomatch e⟩
 |ref p=>
  cases r
  rcases ty with⟨rfl,xs,hq⟩ | ⟨rfl,o,hk,hc,hd⟩ | ⟨rfl,hk⟩ | ⟨rfl,S,n,hk⟩
  ·obtain⟨its,_,pl,_⟩:=I.list hq
   refine⟨pl.isList.typeIs,λa e=>?_⟩
   cases e
   obtain⟨o,n,e,c,hd,_⟩:=pl
   exact⟨o,e,hd⟩
  ·refine⟨⟨o,I.kIn p o hk,hc⟩,λa e=>?_⟩
   cases e
   exact⟨o,I.kIn _ o hk,hd⟩
  ·have z:∃o,s.heap.get? p=some o/\o.ExactDict:=by
    rcases hk with⟨kvs,hk⟩ | ⟨kvs,hk⟩
    ·obtain⟨_,_,_,_,o,_,_,e,ex,_⟩:=I.hok p _ hk
     exact⟨o,e,ex⟩
    ·obtain⟨_,_,_,_,o,_,_,e,ex,_⟩:=I.hok p _ hk
     exact⟨o,e,ex⟩
   obtain⟨o,e,ex⟩:=z
   refine⟨⟨o,e,ex.1⟩,λa e2=>?_⟩
   cases e2
   exact⟨o,e,ex.2.1⟩
  ·obtain⟨o,_,_,_,e,ex,_⟩:=I.hok p _ hk
   refine⟨⟨o,e,ex.1⟩,λa e2=>?_⟩
   cases e2
   exact⟨o,e,ex.2.1⟩
 |_=>exact False.elim ty
def MU (K:Frag)(T:String)(r:V->List V->Hp->VK->Prop)(to:TE)(t:TA):TE:=λσ H Q=>to σ H λx H1=>MF K T x H1/\t σ H1 λxs H2=>r x xs H2 Q
variable {o e:Expr}{es:List Expr}{to:TE}{t:TA}{name:Str}{apos cpos:Pos}{T id:String}{r:V->List V->Hp->VK->Prop}
def yP (pa:PlainAttrs T)(slot:Slot T name id)(hty:typeOf (.builtin id)=pure (.type "method_descriptor"))(hm:MQ X id r)(ho:PE X o to)(ha:PA X (e :: es) t)
  (hbase:attributeBase o name X.env (eval o X.env)=eval o X.env:=by rfl)
  (hfew:((backTo cpos (starEach (e :: es) X.env)).all (λx=> !x.1) && (backToKw cpos (keywordEach [] X.env)).all (λx=>x.1.isSome)
   && decide ((e :: es).length + ([]:List Keyword).length + (if ([]:List Keyword).isEmpty then 0 else 1) < 30))=true:=by rfl)
  (hline:(apos.endLine == cpos.line)=true:=by rfl) (hs:starEach (e :: es) X.env=(false,eval e X.env) :: starEach es X.env:=by rfl) (hplain:(backTo cpos (starEach es X.env)).any (·.1)=false:=by rfl) :
  PE X (.Call (.Attribute o name apos) (e :: es) [] cpos) (MU X.K T r to t):=by
 intro pins s σ H Q I h
 refine wpAny_Call_method_late hbase hfew hline rfl (cK (ho pins s σ H _ I h) λv s1 ⟨x,H1,I1,r1,ty,q1⟩=>?_)
 obtain⟨h1,h2⟩:=IP I1 r1 ty
 refine⟨T,id,pa,slot,hty,h1,h2,?_⟩
 have hA:=ha cpos pins s1 σ H1 _ I1 q1
 rw[hs] at hA ⊢
 refine Calls.callWith_builtin (by show (false || (backTo cpos (starEach es X.env)).any (·.1))=false;rw[hplain] <;> rfl) (Calls.evalArgs_plain ?_)
 exact cK hA λus s2 ⟨vs,H2,I2,r2,q2⟩=>hm pins s2 σ H2 x vs v us Q I2 r1 r2 q2
end
def JG (X:Cx)(id:String)(r:V->List V->Hp->VK->Prop):Prop:=
 ∀(pins:List (Addr×Obj)) (s:Shared) (σ:St) (H:Hp) (x:V) (xs:List V) (v:Value) (us:List Value) (Q:VK),Inv X pins σ H s->RelV x v->Vals xs us->r x xs H Q->
  wpAny (model X.prog X.w) X.A (call (.builtin id) (v :: us)) (EP X pins σ Q) X.xe s
theorem Vals.one:∀{x:V} {us:List Value},Vals [x] us->∃u,us= [u]/\RelV x u
 |_,_,.cons r .nil=>⟨_,rfl,r⟩
theorem Vals.eraseIdx:∀{xs:List V} {us:List Value} (i:Nat),Vals xs us->Vals (xs.eraseIdx i) (us.eraseIdx i)
 |_,_,_,.nil=>.nil
 |_,_,0,.cons _ t=>t
 |_,_,i + 1,.cons r t=>.cons r (Vals.eraseIdx i t)
theorem Vals.rep {xs:List V}{us:List Value}(h:Vals xs us):∀k:Nat,Vals (List.replicate k xs).flatten (List.replicate k us).flatten
 | 0=>.nil
 |k + 1=>by
  rw[N7,N7,Ow,Ow]
  exact Vals.append h (Vals.rep h k)
theorem sS {α:Type}:∀(l:List α) (i:Nat),(l.eraseIdx i).length<=l.length
 | [],_=>Na _
 |_ :: _,0=>Nat.le_succ _
 |_ :: r,i + 1=>Nat.succ_le_succ (sS r i)
theorem foldl_rep (its:List Value):∀(k:Nat) (acc:List Value),
  List.foldl (λx1 x2=>x1 ++ x2) acc.toArray (List.replicate k its.toArray)=(acc ++ (List.replicate k its).flatten).toArray
 | 0,acc=>by simp
 |k + 1,acc=>by
  have e:acc.toArray ++ its.toArray=(acc ++ its).toArray:=by simp
  have e2:(acc ++ its) ++ (List.replicate k its).flatten=acc ++ (List.replicate (k + 1) its).flatten:=by
   rw[N7,Ow,OG]
  rw[<-e2,<-foldl_rep its k (acc ++ its),<-e,N7,List.foldl_cons]
section
variable {X:Cx}{pins:List (Addr×Obj)}{σ:St}{H:Hp}{s:Shared}{l b:Addr}{xs ys zs:List V}
def Inv.lset {its its':List Value}{n:Nat}{f:Array Value->Array Value}{t':Nat}(I:Inv X pins σ H s)(hH:H l=some (.lst xs))
  (e:s.heap.get? l=some {cls:=.type "list",data:=.seq its.toArray n}) (hf:f its.toArray=its'.toArray) (hv:Vals ys its') (hz:ys.length<=sizeLine) :
  Inv X pins σ (upd H l (.lst ys)) {s with heap:=s.heap.update l (Obj.mapSeq f),toks:=t'}:=by
 have q:=PySem.IsL.update e f
 rw[hf] at q
 refine I.write (x:=l) (e:=l) (by rw[hH];exact trivial) (.inl rfl) (λb' u hb hu=>(Ob s.heap (Obj.mapSeq f) (Ne.symm hb)).trans hu) ⟨_,q⟩ ?_
 exact⟨hz,its',_,hv,q⟩
def Inv.lnew {its:List Value}{t':Nat}(I:Inv X pins σ H s)(hv:Vals ys its)(hz:ys.length<=sizeLine) :
  Inv X pins σ (upd H s.heap.objs.size (.lst ys)) {s with heap:=s.heap.push {cls:=.type "list",data:=.seq its.toArray},toks:=t'}:=
 I.laid (λ_ _ q=>Nd _ q) (Na _) ⟨hz,its,0,hv,Nu _ rfl⟩
def Inv.fresh (I:Inv X pins σ H s):H s.heap.objs.size=none:=I.hok.fresh (Na _)
def Inv.lstM (I:Inv X pins σ H s)(hH:H l=some (.lst xs)):xs.length<=sizeLine/\∃(its:List Value) (n:Nat),Vals xs its/\xs.length=its.length/\s.heap.get? l=some {cls:=.type "list",data:=.seq its.toArray n}:=by
 obtain⟨z,its,n,r,e⟩:=I.hok l _ hH
 exact⟨z,its,n,r,r.length,e⟩
def wg {n:Nat}(h:n<=sizeLine):Builtin.List.listTooLong n=false:=by
 unfold Builtin.List.listTooLong
 exact Nx (by omega)
end
section
variable {X:Cx}
def EU:V->List V->Hp->VK->Prop:=λx vs H Q=>∃l xs y,x=.ref l/\vs= [y]/\H l=some (.lst xs)/\xs.length < sizeLine/\Q .non (upd H l (.lst (xs ++ [y])))
def oC:JG X "list.append" EU:=by
 intro pins s σ H x vs v us Q I rx rv h
 obtain⟨l,xs,y,rfl,rfl,hH,hz,q⟩:=h
 cases rx
 obtain⟨u,rfl,ru⟩:=rv.one
 obtain⟨z,its,n,r,hl,e⟩:=I.lstM hH
 refine call_meets F.slot_list_append ⟨_,e,rfl⟩ F.entry_list_append (F.args_list_append_2 _ _) (PySem.list_append l its.toArray n u (by rw[Nt];omega)) ⟨e,?_⟩
 refine⟨.non,_,I.lset (its':=its ++ [u]) hH e (by simp) (r.append (.cons ru .nil)) ?_,rfl,q⟩
 rw[NF,NY]
 omega
def IG:V->List V->Hp->VK->Prop:=λx vs H Q=>∃l xs i k y,x=.ref l/\vs= [.int i]/\H l=some (.lst xs)/\ -(2 ^ 63)<=i/\i < 2 ^ 63/\seqIndex? i xs.length=some k/\xs[k]? =some y/\Q y (upd H l (.lst (xs.eraseIdx k)))
def CW:JG X "list.pop" IG:=by
 intro pins s σ H x vs v us Q I rx rv h
 obtain⟨l,xs,i,k,y,rfl,rfl,hH,h1,h2,hk,hy,q⟩:=h
 cases rx
 obtain⟨u,rfl,ru⟩:=rv.one
 obtain⟨t,rfl⟩:=ru
 obtain⟨z,its,n,r,hl,e⟩:=I.lstM hH
 obtain⟨w,hw,rw'⟩:=r.get hy
 refine call_meets F.slot_list_pop ⟨_,e,rfl⟩ F.entry_list_pop (F.args_list_pop_2 _ _)
  (MeetsSeq.list_pop_at l its.toArray n i t k w (fitsIndex_both h1 h2) (by rw[Nt,<-hl];exact hk) (by rw[<-Array.getElem?_toList];exact hw) (by rw[Nt];omega)) ⟨e,?_⟩
 refine⟨y,_,I.lset (its':=its.eraseIdx k) hH e ?_ (r.eraseIdx k) ?_,rw',q⟩
 ·show its.toArray.eraseIdxIfInBounds k=(its.eraseIdx k).toArray
  rw[List.eraseIdxIfInBounds_toArray]
 ·have:=sS xs k
  omega
def Mj:R2:=λx y H Q=>∃l k xs,x=.ref l/\y=.int k/\H l=some (.lst xs)/\ -(2 ^ 63)<=k/\k < 2 ^ 63/\xs.length * k.toNat<=sizeLine/\
 ∀p,H p=none->Q (.ref p) (upd H p (.lst (List.replicate k.toNat xs).flatten))
theorem len_rep {α:Type}(xs:List α)(k:Nat):(List.replicate k xs).flatten.length=k * xs.length:=by
 induction k with
 |zero=>simp
 |succ k ih=>rw[N7,Ow,NF,ih,Nat.succ_mul,Nat.add_comm]
def Df:kG X (binaryOp .Mult) Mj:=by
 intro pins s σ H x y v u Q I rx ry h
 obtain⟨l,k,xs,rfl,rfl,hH,h1,h2,hz,q⟩:=h
 cases rx
 obtain⟨t,rfl⟩:=ry
 obtain⟨z,its,n,r,hl,e⟩:=I.lstM hH
 have hlen:its.toArray.size * k.toNat<=sizeLine:=by rw[Nt,<-hl];exact hz
 have hcap:¬its.toArray.size * k.toNat > (2 ^ 63 - 1) / 8:=by
  have:(sizeLine:Nat)<=(2 ^ 63 - 1) / 8:=by decide
  omega
 have hfit:¬(!Builtin.List.listFitsIndex k)=true:=by
  rw[fitsIndex_both h1 h2]
  exact Nj
 have hlong:¬Builtin.List.listTooLong (its.toArray.size * k.toNat)=true:=by
  rw[wg hlen]
  exact Nj
 have hnew:List.foldl (λx1 x2=>x1 ++ x2) #[] (List.replicate (if its.toArray.isEmpty=true then 0 else k.toNat) its.toArray)=(List.replicate k.toNat its).flatten.toArray:=by
  have f0:∀m:Nat,List.foldl (λx1 x2=>x1 ++ x2) #[] (List.replicate m its.toArray)=(List.replicate m its).flatten.toArray:=λm=>by
   have:=foldl_rep its m []
   rw[List.nil_append] at this
   exact this
  rw[f0]
  cases its with
  |nil=>simp
  |cons a r'=>rw[Nk (by simp)]
 refine wpAny_binaryOp_repeat_ref (T:="list") (U:="int") (by decide) ⟨_,e,rfl⟩ (λs'=>typeIs_int s' k t) noFill_list_mul F.fills_int_mul F.slot_int_rmul repeat_list F.slot_int_index.lookup
  (call_meets F.slot_int_rmul (typeIs_int s k t) F.entry_int_rmul (F.args_int_rmul_2 _ _) (int___rmul___int_list k t l its.toArray n)
   ⟨e,rfl,⟨_,e,rfl⟩,call_meets F.slot_list_mul ⟨_,e,rfl⟩ F.entry_list_mul (F.args_list_mul_2 _ _) (AutoListH.list___mul___list_int_3 l its.toArray n k t hfit hcap hlong) ⟨e,?_⟩⟩)
 rw[hnew]
 exact⟨.ref _,_,I.lnew (t':=s.toks) (r.rep k.toNat) (by rw[len_rep,Nat.mul_comm];exact hz),rfl,q _ I.fresh⟩
end
end L2
namespace Att
open PySem PySem.W PySem.Calls PyProof.Rows
theorem pK {P:Params}{h:Heap}:∀(ns:List Int) (vs:List Value),WellAll P h vs (ns.map WData.int)->IntsAre vs ns:=by
 intro ns
 induction ns with
 |nil=>
  intro vs w
  rw[List.map_nil] at w
  cases w
  exact .nil
 |cons n ns ih=>
  intro vs w
  rw[OB] at w
  cases w with
  |cons a b=>
   cases a
   exact .cons _ _ (ih _ b)
theorem AH {l:OpenLaw}{n:Nat}(hn:l.most=some n){P:Params}{h:Heap}{args:List WData}{vals:List Value}
  (hpre:l.row.toRowW.claim.pre args=true) (hwl:WellAll P h vals args) :
  ∃a vs ns,vals= [Value.ref a]/\args= [WData.list (ns.map WData.int)]/\h.get? a=some {cls:=.type "list",data:=.seq vs.toArray}/\IntsAre vs ns/\ns.length<=n:=by
 have hsh:WShape.hasAll [] args [.list .int]=true:=(pre_splitW hpre).1
 have hc:l.pre.holds [] {args:=args}=true:=(pre_splitW hpre).2
 obtain⟨d,r,rfl,h1,h2⟩:=hasAllW_cons hsh
 obtain rfl:=hasAllW_nil h2
 obtain⟨xs,rfl,h3⟩:=hasW_list h1
 obtain⟨ns,rfl⟩:=items_int h3
 have hlen:ns.length<=n:=by
  unfold OpenLaw.pre at hc
  have h4:(WTm.not (.lt (.lit (.int (n:Int))) (.len (.arg 0)))).holds [] {args:=[.list (ns.map .int)]}=true:=by
   have h4:=(holds_andW hc).1
   rw[hn] at h4
   exact h4
  have h5:=condW_of h4 (w_not (w_lt w_lit (w_len_list (w_arg rfl))))
  rw[Nb] at h5
  refine Nat.le_of_not_lt λq=>?_
  have q':(n:Int) < ((ns.length:Nat):Int):=by omega
  first
   | (rw[Ni q'] at h5;exact absurd h5 (by decide))
   | (simp at h5;omega)
 cases hwl with
 |cons w1 w2=>
  cases w2
  cases w1 with
  |list ho hall=>exact⟨_,_,ns,rfl,rfl,ho,pK ns _ hall,hlen⟩
def A6 (l:OpenLaw)(args:List WData):l.row.toRowW.claim.post args (.bool true) args=true:=
 postW_of (r:=l.row.toRowW) (X:=(true == true))
  (show WShape.has [] (.bool true) .bool=true by first |rfl |decide |simp[WShape.has,WShape.arms,WShape.armsAll])
  (show (WTm.eq .res (.lit (.bool true))).value [] {args:=args,res:=some (.bool true),after:=args}=some (.bool (true == true)) from w_eq_bool (w_res rfl) w_lit) rfl
def wZ {l:OpenLaw}{n:Nat}{q:Program}{loose:List Str}{XP:(Str->Option Value)->Heap->Prop}{YP:World->Heap->Prop}{d:DefRec}
  (hn:l.most=some n) (hdf:d.params.defaults= [])
  (call:∀(w:World) (s₀ s₁:Shared) (mg mb:Str->Option Value) (fa:Addr) (o:Obj) (pm cd doc:Value) (a:Addr) (vs:List Value) (ns:List Int),
   Ground q loose [] XP w s₀ mg mb s₁.heap->YP w s₁.heap->
   s₁.heap.get? fa=some o->o.data=.func (docDef d.name d.params d.body d.scope pm cd doc)->s₁.heap.CodeRec cd d.name->mg d.name=some (.ref fa)->
   s₁.heap.get? a=some {cls:=.type "list",data:=.seq vs.toArray}->IntsAre vs ns->ns.length<=n->s₁.gens=#[]->
   codeAny (model l.prog w) callerA (.call (.ref fa) ⟨[.ref a],[]⟩) (λr s'=>r=.ok (.ret (.bool true))/\OldK s₁.heap s'.heap/\s'.os=s₁.os/\AllBare s'.gens) s₁) :
  WalkO q loose XP YP l.row.toRowW d [] (λf vs=>PySem.call f vs):=by
 intro w s₀ s₁ mg mb G Y fa o pm cd doc dV kV ho hd hcd hD hmg hg args vals as hpre hlay hrd hwl hlo
 obtain rfl:dV=.none:=Dflts.none hD hdf
 obtain rfl:kV=.none:=Dflts.noKw hD
 obtain⟨a,vs,ns,rfl,rfl,hobj,hints,hlen⟩:=AH hn hpre hwl
 refine enter_call (codeAny_mono (call w s₀ s₁ mg mb fa o pm cd doc a vs ns G Y ho (fd_plain hd) hcd hmg hobj hints hlen hg) λr s' hq=>?_)
 obtain⟨rfl,h2,h3,h4⟩:=hq
 exact⟨.inl ⟨.bool true,.bool true,[],rfl,λ_=>rfl,.bool true,A6 l _,λ_=>⟨List.Pairwise.nil,λ_ hm=>(nomatch hm)⟩⟩,h2,h3,h4⟩
end Att
namespace L2
open PySem PySem.Spec PyProof.Rows
theorem tD:∀{vs:List Value} {ns:List Int},IntsAre vs ns->Vals (ns.map V.int) vs
 |_,_,.nil=>.nil
 |_,_,.cons n t h=>.cons ⟨t,rfl⟩ (tD h)
def iU (s:Stmt):Arguments:=match s with
 | .FunctionDef _ a _ _ _ _ _ _ _ _=>a
 |_=>{posonlyargs:=[],args:=[],vararg:=none,kwonlyargs:=[],kw_defaults:=[],kwarg:=none,defaults:=[]}
def de (s:Stmt):List Stmt:=match s with
 | .FunctionDef _ _ b _ _ _ _ _ _ _=>b
 |_=>[]
def ar (s:Stmt):Scope:=match s with
 | .FunctionDef _ _ _ _ _ _ sc _ _ _=>sc
 |_=>{kind:=.function,names:=[],isGenerator:=false,isCoroutine:=false}
abbrev GQ:z0:=λ_ _ _ _ _ _=>False
abbrev E0:XK:=λ_ _ _=>False
def Kv {X:Cx}:Passes GQ X E0:=λ_ _ _ _ _ _ _ h=>h.elim
structure Bd (K:Frag)(x qual:Str)(st:Stmt)(f:Addr)(fd:FuncData):Prop where
 ex:∃(oc:Value) (od:Option Addr) (kV doc pm:Value) (an:Option Addr) (cdv ct:Value) (osl:Array (Option Value)),
  fd=PySem.W.fnOf x qual (iU st) (de st) (ar st) .none kV doc pm an cdv ct/\K.lookup f=some ⟨oc,od,.func fd,osl⟩/\PySem.W.codeIn K cdv qual=true
 kp:PySem.W.keepIn K (.ref f)=true
section
variable {P:Program}{w:World}{K:Frag}{mg:Str->Option Value}{base:Heap}
def Bd.ok {x qual:Str}{st:Stmt}{f:Addr}{fd:FuncData}{N ps:List Str}{k:Nat}{sp:Sp}(F:Bd K x qual st f fd)(S:aF N ps (ar st))(len:∀vs H Q E,sp vs H Q E->vs.length=ps.length)
  (hbody:∀(cdv:Value) (A:Around) (outer:List Env) (s:Shared) (H:Hp) (vs:List V) (Q:VK) (E:XK),dJ k (A.deeper (envOfC qual (ar st) s.heap.objs.size f cdv))->sp vs H Q E->
   ∃t,rO (pF GQ P w K mg base N qual (ar st) f cdv A outer s H E).nox (de st) t/\t {nx:=λ_ H'=>Q .non H',rt:=Q} (start N vs) H):fq P w K mg base GQ (k + 1) f fd ps sp:=by
 obtain⟨oc,od,kV,doc,pm,an,cdv,ct,osl,rfl,lk,hcd⟩:=F.ex
 refine CH lk hcd S len λA outer s H vs Q E hr hsp=>?_
 obtain⟨t,h,q⟩:=hbody cdv A outer s H vs Q E hr hsp
 exact⟨t,h.nox,q⟩
def Bd.binds {x qual:Str}{st:Stmt}{f:Addr}{fd:FuncData}{ps:List Str}(F:Bd K x qual st f fd)
  (h:∀(kV doc pm:Value) (an:Option Addr) (cdv ct:Value) (us:List Value),us.length=ps.length->bindArgs (PySem.W.fnOf x qual (iU st) (de st) (ar st) .none kV doc pm an cdv ct) ⟨us,[]⟩=pure (ps.zip us)):Binds K fd ps []:=by
 obtain⟨oc,od,kV,doc,pm,an,cdv,ct,osl,rfl,lk,hcd⟩:=F.ex
 exact .all (h kV doc pm an cdv ct)
def ra {x qual:Str}{st:Stmt}{f:Addr}{oc:Value}{od an:Option Addr}{osl:Array (Option Value)}{kV doc pm cdv ct:Value}(l:K.lookup f=some ⟨oc,od,.func (PySem.W.fnOf x qual (iU st) (de st) (ar st) .none kV doc pm an cdv ct),osl⟩)
  (c:PySem.W.codeIn K cdv qual=true) (k:PySem.W.keepIn K (.ref f)=true):Bd K x qual st f (PySem.W.fnOf x qual (iU st) (de st) (ar st) .none kV doc pm an cdv ct):=⟨⟨oc,od,kV,doc,pm,an,cdv,ct,osl,rfl,l,c⟩,k⟩
end
section
variable {X:Cx}
def pv (i:Nat){x:Str}{pos:Pos}(hN:X.N[i]? =some x:=by rfl)(hv:y7 X.env.scope x:=by first |exact Or.inl rfl |exact Or.inr (Or.inl rfl) |exact Or.inr (Or.inr rfl))(hd:(x == ("__debug__":Str))=false:=by decide)
  (hcd:(x == ("__classdict__":Str))=false:=by decide):PE X (.Name x pos) (D3 i):=ki hN hv hd hcd
end
def rF {A B:Prop}(h:B):if false=true then A else B:=by
 rw[Nk Nj]
 exact h
def rj {A B:Prop}(h:A):if true=true then A else B:=by
 rw[Nc rfl]
 exact h
def DU (o:Obj):Prop:=∃vs q t,o.data=.fields vs/\vs[1]? =some (.str q t)
def DB:List Value->Prop
 | []=>True
 | .int _ _ :: .int _ _ :: .ref _ :: r=>DB r
 |_=>False
theorem DB.app:∀{l m:List Value},DB l->DB m->DB (l ++ m)
 | [],_,_,h=>h
 | .int _ _ :: .int _ _ :: .ref _ :: r,_,h,k=>DB.app (l:=r) h k
def Kt (H:Hp)(b:Addr):HO->Prop
 | .tbl ps=>∃more:Array Value,H b=some (.tbl (ps ++ more))/\DB more.toList/\∀c,Value.ref c∈more.toList->∃o,H c=some (.aY o (.own 0))/\DU o
 |o=>H b=some o
theorem Kt.of {H:Hp}{b:Addr}{o:HO}(h:H b=some o):Kt H b o:=by
 cases o with
 |tbl ps=>exact⟨#[],by rw[h];simp,trivial,λc hc=>by simp at hc⟩
 |_=>exact h
def ax (H H':Hp):Prop:=∀b o,H b=some o->Kt H' b o
def ax.refl (H:Hp):ax H H:=λ_ _ h=>Kt.of h
theorem Kt.some {H:Hp}{b:Addr}{o:HO}(h:Kt H b o):∃u,H b=Option.some u/\((∀ps,o≠.tbl ps)->u=o)/\((∃ps,o=.tbl ps)->∃ps,u=.tbl ps):=by
 cases o with
 |tbl ps=>obtain⟨m,e,_⟩:=h;exact⟨_,e,λz=>absurd rfl (z ps),λ_=>⟨_,rfl⟩⟩
 |_=>exact⟨_,h,λ_=>rfl,λ⟨ps,z⟩=>by cases z⟩
theorem Kt.step {H H':Hp}{b:Addr}{o:HO}(h:Kt H b o)(s:ax H H'):Kt H' b o:=by
 cases o with
 |tbl ps=>
  obtain⟨m,e,t1,k⟩:=h
  obtain⟨m2,e2,t2,k2⟩:=s b _ e
  refine⟨m ++ m2,by rw[e2,Array.append_assoc],by rw[OJ];exact t1.app t2,λc hc=>?_⟩
  rw[OJ,Nz] at hc
  rcases hc with hc |hc
  ·obtain⟨o,eo,io⟩:=k c hc;exact⟨o,s c _ eo,io⟩
  ·exact k2 c hc
 |lst xs=>exact s b _ h
 |tup xs=>exact s b _ h
 |dK xs=>exact s b _ h
 |dT xs=>exact s b _ h
 |set S n=>exact s b _ h
 |ins C dx fs=>exact s b _ h
 |own x=>exact s b _ h
 |xd fs=>exact s b _ h
 |met f x=>exact s b _ h
 |iu lo hi=>exact s b _ h
 |aY o u=>exact s b _ h
 |ext φ=>exact s b _ h
def ax.trans {H H1 H2:Hp}(a:ax H H1)(b:ax H1 H2):ax H H2:=λc o h=>(a c o h).step b
theorem ax.free {H H':Hp}(e:ax H H'){l:Addr}(h:H' l=Option.none):H l=Option.none:=by
 cases q:H l with
 |none=>rfl
 |some o=>
  obtain⟨u,z,_⟩:=(e l o q).some
  rw[z] at h
  cases h
def ax.seq {K:Frag}{H H':Hp}{a:Addr}{xs:List V}(e:ax H H')(h:iM K H a xs):iM K H' a xs:=by
 rcases h with (h | ⟨o,h⟩) |h
 ·exact .inl (.inl (e _ _ h))
 ·exact .inl (.inr ⟨o,e _ _ h⟩)
 ·exact .inr h
end L2
end
namespace L2.ST
open PySem PySem.SetTable
abbrev GO (xs:Array Nat):Prop:=xs.toList.Pairwise (· < ·)
def M7 (mask:Nat)(p:Probe):Probe:=
 if p.more > 0 then {p with j:=p.j + 1,more:=p.more - 1} else
 {p with j:=(leap mask p.i p.perturb).1,more:=runEnd mask (leap mask p.i p.perturb).1 - (leap mask p.i p.perturb).1,i:=(leap mask p.i p.perturb).1,perturb:=(leap mask p.i p.perturb).2}
def MT (mask i perturb:Nat):Probe:={j:=i,more:=runEnd mask i - i,i,perturb,dummy:=none}
def st (mask:Nat)(h:Int):Probe:=MT mask (bits h % (mask + 1)) (bits h)
def HA (mask:Nat):Nat->Probe->Probe
 | 0,p=>p
 |n + 1,p=>HA mask n (M7 mask p)
def In (mask:Nat)(p:Probe):Prop:=p.j + p.more<=mask/\p.more<=9
def nx (mask i:Nat):Nat:=(i * 5 + 1) % (mask + 1)
def M4 (mask:Nat):Prop:=mask=7\/mask=31\/mask=127
def Reach (mask:Nat)(L:Nat->Prop)(h:Int)(j:Nat):Prop:=∃n,n < 10 * turns mask/\(HA mask n (st mask h)).j=j/\∀m,m < n->L (HA mask m (st mask h)).j
structure Tab (t:SetTable)(hs:List Int):Prop where
 mask:M4 t.mask
 dum:t.dummies=#[]
 rise:GO t.place
 le:∀j,j∈t.place->j<=t.mask
 size:t.place.size=hs.length
 load:t.place.size * 5 < t.mask * 3
 reach:∀(i j:Nat) (h:Int),t.place[i]? =some j->hs[i]? =some h->Reach t.mask (· ∈t.place) h j
 plain:t.plain=true
theorem gN {α:Type}[DecidableEq α]:∀{l m:List α},l.Nodup->(∀x,x∈l->x∈m)->l.length<=m.length
 | [],_,_,_=>N3 _
 |a :: l,m,hn,hs=>by
  have ha:=hs a (Np ..)
  have hl:=N2.mp hn
  have:=gN (l:=l) (m:=m.erase a) hl.2 λx hx=>by
   refine (List.mem_erase_of_ne ?_).mpr (hs x (Nn _ hx))
   rintro rfl;exact hl.1 hx
  rw[Pe ha] at this
  have:0 < m.length:=List.length_pos_of_mem ha
  simp only[N1];omega
abbrev own (o:Array (Option Nat))(j:Nat):Option Nat:=o.getD j none
structure Lay (mask:Nat)(o:Array (Option Nat))(hs:List Int):Prop where
 size:o.size=mask + 1
 all:∀k h,hs[k]? =some h->∃j,own o j=some k/\Reach mask (λx=>(own o x).isSome=true) h j
 one:∀j j' k,own o j=some k->own o j'=some k->j=j'
 le:∀j k,own o j=some k->j<=mask/\k < hs.length
abbrev Pr:=Int×Int
def hp (p:Pr):Int:=reduceHash (Builtin.Tuple.tupleHashOf [hashInt p.1,hashInt p.2])
def Sm (p:Pr):Prop:=(0<=p.1/\p.1 < 8)/\(0<=p.2/\p.2 < 8)
def uR:List Pr:=(List.range 64).map λk=>(((k / 8:Nat):Int),((k % 8:Nat):Int))
def yk {p:Pr}(h:Sm p):p∈uR:=by
 unfold uR
 obtain⟨⟨a,b⟩,c,d⟩:=h
 refine NN.mpr ⟨p.1.toNat * 8 + p.2.toNat,NR.mpr (by omega),?_⟩
 refine Prod.ext ?_ ?_ <;> dsimp only <;> omega
def xY {l:List Pr}(hn:l.Nodup)(h:∀p,p∈l->Sm p):l.length<=64:=by
 have:=gN (m:=uR) hn λx hx=>yk (h x hx)
 simpa[uR] using this
section
variable {prog:Program}{w:World}{A:Around}{E:Value->Shared->Prop}{s:Shared}
abbrev kh (prog:Program)(w:World)(h:Heap)(p:Pr)(a:Addr):Prop:=IsTupleKey (intKind prog w) h [p.1,p.2] a
def kh.inj {h:Heap}{p q:Pr}{a:Addr}(x:kh prog w h p a)(y:kh prog w h q a):p=q:=by
 have:=IsTupleKey.inj x y
 simp at this
 exact Prod.ext this.1 this.2
structure B7 (f:Pr->Int)(prog:Program)(w:World)(led:Bool)(h:Heap)(S:Addr)(ps:List (Addr×Pr)):Prop where
 ex:∃o ep t,h.get? S=some o/\o.ExactSet/\o.data=.set (ps.map λq=>(f q.2,Value.ref q.1)).toArray ep t/\Tab t (ps.map λq=>f q.2)/\t.led=led
 at':∀q,q∈ps->kh prog w h q.2 q.1/\Sm q.2
 nd:(ps.map (·.2)).Nodup
def B7.len {f:Pr->Int}{led:Bool}{h:Heap}{S:Addr}{ps:List (Addr×Pr)}(P:B7 f prog w led h S ps):ps.length<=64:=by
 have:=xY P.nd λp hp=>by
  obtain⟨q,hq,rfl⟩:=NN.mp hp
  exact (P.at' q hq).2
 simpa using this
end
section
variable {prog:Program}{w:World}{A:Around}{E:Value->Shared->Prop}{s:Shared}{R:Result->Shared->Prop}{I:Addr}{fp wr:List Addr}{n:Nat}{P:Nat->Value->Prop}{St:Nat->Heap->Prop}
def gk (prog:Program)(w:World)(h:Heap)(vs:List Value)(ps:List Pr):Prop:=vs.length=ps.length/\∀(i:Nat) (v:Value) (p:Pr),vs[i]? =some v->ps[i]? =some p->∃a,v=.ref a/\kh prog w h p a/\Sm p
structure Src (prog:Program)(w:World)(h:Heap)(l:Addr)(vs:List Value)(T:String)(itO:Obj)(St:Addr->Nat->Heap->Prop):Prop where
 ty:∃o,h.get? l=some o/\o.cls=.type T
 ns:isSubtype (.type T) (.type "set")=pure false
 nf:isSubtype (.type T) (.type "frozenset")=pure false
 nd:(Value.type T == Value.type "dict")=false
 it:∀(A:Around) (s1:Shared) (Q:Value->Shared->Prop) (E:Value->Shared->Prop),(∀b o,h.get? b=some o->s1.heap.get? b=some o)->Q (.ref s1.heap.objs.size) {s1 with heap:=s1.heap.push itO}->wpAny (model prog w) A (pyIter (.ref l)) Q E s1
 st:∀(h1:Heap),(∀b o,h.get? b=some o->h1.get? b=some o)->St h1.objs.size 0 (h1.push itO)
 wk:∀(A:Around) (I:Addr),A.handled=none->l≠I->Walks prog w A I [I,l] [I] vs.length (λi v=>vs[i]? =some v) (St I)
def Src.list {h:Heap}{l:Addr}{vs:List Value}(hl:h.IsList l vs.toArray):Src prog w h l vs "list" {cls:=.type "list_iterator",data:=.fields #[.ref l,.int 0 0]} (λI i h'=>h'.IsListIter I l i/\h'.IsList l vs.toArray):=by
 obtain⟨o,ho,hc,n,hd⟩:=id hl
 refine⟨⟨o,ho,hc⟩,F.sub_list_set,F.sub_list_frozenset,by decide,λA s1 Q E k hQ=>OP ⟨o,k _ _ ho,hc,n,hd⟩ hQ,λh1 k=>⟨⟨_,Nu _ rfl,rfl,rfl⟩,⟨o,Nd _ (k _ _ ho),hc,n,hd⟩⟩,λA I hh hne=>?_⟩
 have:=Walks.list (prog:=prog) (w:=w) hh I l hne vs.toArray
 simpa using this
def sub_tuple_set:isSubtype (.type "tuple") (.type "set")=pure false:=by rw[isSubtype_type];kernel_rfl
def sub_tuple_frozenset:isSubtype (.type "tuple") (.type "frozenset")=pure false:=by rw[isSubtype_type];kernel_rfl
def Src.tuple {h:Heap}{l:Addr}{vs:List Value}(hl:h.IsTuple l vs.toArray):Src prog w h l vs "tuple" {cls:=.type "tuple_iterator",data:=.fields #[.ref l,.int 0 0]} (λI i h'=>h'.IsTupleIter I l i/\h'.IsTuple l vs.toArray):=by
 obtain⟨o,ho,hc,n,hd⟩:=id hl
 refine⟨⟨o,ho,hc⟩,sub_tuple_set,sub_tuple_frozenset,by decide,λA s1 Q E k hQ=>OX ⟨o,k _ _ ho,hc,n,hd⟩ hQ,λh1 k=>⟨⟨_,Nu _ rfl,rfl,rfl⟩,⟨o,Nd _ (k _ _ ho),hc,n,hd⟩⟩,λA I hh hne=>?_⟩
 have:=Walks.tuple (prog:=prog) (w:=w) hh I l hne vs.toArray
 simpa using this
end
end L2.ST
namespace L2.SO
open PySem PySem.W PyProof.Rows
def lC {α:Type}(lt:Nat->Nat->Bool):KasT α->α
 | .ret a=>a
 | .ask i j k=>lC lt (k (lt i j))
theorem gJ {α β:Type}(lt:Nat->Nat->Bool)(f:α->KasT β):∀t:KasT α,lC lt (t.bind f)=lC lt (f (lC lt t))
 | .ret _=>rfl
 | .ask i j k=>gJ lt f (k (lt i j))
def vj {α:Type}(n:Nat)(lt:Nat->Nat->Bool):KasT α->Prop
 | .ret _=>True
 | .ask i j k=>i < n/\j < n/\vj n lt (k (lt i j))
theorem jI {α β:Type}{n:Nat}{lt:Nat->Nat->Bool}{f:α->KasT β}:∀{t:KasT α},vj n lt t->vj n lt (f (lC lt t))->vj n lt (t.bind f)
 | .ret _,_,h=>h
 | .ask i j k,h,h'=>⟨h.1,h.2.1,jI h.2.2 h'⟩
section
variable {n:Nat}{key:Nat->Int}
abbrev pf (key:Nat->Int)(i j:Nat):Bool:=decide (key i < key j)
abbrev Kp (key:Nat->Int)(p:Array Nat)(k:Nat):Int:=key (p.getD k 0)
structure Pm (n:Nat)(p:Array Nat):Prop where
 sz:p.size=n
 nd:p.toList.Nodup
 lt:∀x,x∈p->x < n
def Pm.at {p:Array Nat}(P:Pm n p){k:Nat}(hk:k < n):p.getD k 0 < n:=by
 have h:k < p.size:=by rw[P.sz];exact hk
 simp only[Array.getD,h,dif_pos]
 exact P.lt _ (Array.getElem_mem h)
def Pm.ne {p:Array Nat}(P:Pm n p){i k:Nat}(hi:i < n)(hk:k < n)(hne:i≠k):p.getD i 0≠p.getD k 0:=by
 have h1:i < p.toList.length:=by simpa using (by rw[P.sz];exact hi:i < p.size)
 have h2:k < p.toList.length:=by simpa using (by rw[P.sz];exact hk:k < p.size)
 have h1':i < p.size:=by rw[P.sz];exact hi
 have h2':k < p.size:=by rw[P.sz];exact hk
 have a1:p.getD i 0=p.toList[i]:=by simp[Array.getD,h1']
 have a2:p.getD k 0=p.toList[k]:=by simp[Array.getD,h2']
 rw[a1,a2]
 have q:=O7.mp P.nd
 rcases OE i k with c |c
 ·exact q i k h1 h2 c
 ·exact (q k i h2 h1 (by omega)).symm
def Pm.perm {p q:Array Nat}(P:Pm n p)(h:q.Perm p):Pm n q:=by
 have h':=Array.perm_iff_toList_perm.mp h
 exact⟨by rw[h.size_eq];exact P.sz,h'.nodup_iff.mpr P.nd,λx hx=>P.lt x (by simpa using h'.mem_iff.mp (by simpa using hx))⟩
def w8 (n:Nat):Pm n (List.toArray (List.range n)):=⟨by simp,by simpa using List.nodup_range,λx hx=>by simpa using hx⟩
def Inj (n:Nat)(key:Nat->Int):Prop:=∀i j,i < n->j < n->key i=key j->i=j
def Pm.tri {p:Array Nat}(P:Pm n p)(hi:Inj n key){i k:Nat}(h1:i < n)(h2:k < n)(hne:i≠k):Kp key p i < Kp key p k\/Kp key p k < Kp key p i:=by
 have:Kp key p i≠Kp key p k:=λe=>P.ne h1 h2 hne (hi _ _ (P.at h1) (P.at h2) e)
 omega
def Up (key:Nat->Int)(p:Array Nat)(m:Nat):Prop:=∀i j,i < j->j < m->Kp key p i < Kp key p j
def Dn (key:Nat->Int)(p:Array Nat)(m:Nat):Prop:=∀i j,i < j->j < m->Kp key p j < Kp key p i
def Up.snoc {p:Array Nat}{m:Nat}(U:Up key p m)(h1:1<=m)(h:Kp key p (m - 1) < Kp key p m):Up key p (m + 1):=λi j hij hj=>by
 rcases OE j m with c |c
 ·exact U i j hij c
 ·have:j=m:=by omega
  subst this
  rcases OE i (j - 1) with d |d
  ·exact Int.lt_trans (U i (j - 1) d (by omega)) h
  ·have:i=j - 1:=by omega
   rw[this];exact h
def Dn.snoc {p:Array Nat}{m:Nat}(U:Dn key p m)(h1:1<=m)(h:Kp key p m < Kp key p (m - 1)):Dn key p (m + 1):=λi j hij hj=>by
 rcases OE j m with c |c
 ·exact U i j hij c
 ·have:j=m:=by omega
  subst this
  rcases OE i (j - 1) with d |d
  ·exact Int.lt_trans h (U i (j - 1) d (by omega))
  ·have:i=j - 1:=by omega
   rw[this];exact h
theorem qV {p:Array Nat}(P:Pm n p)(hi:Inj n key):∀(f m:Nat),1<=m->m + f<=n->Up key p m->
  ∃r,(lC (pf key) (kas_asc p f m)=r/\vj n (pf key) (kas_asc p f m))/\m<=r/\r<=m + f/\Up key p r/\(r < m + f->Kp key p r < Kp key p (r - 1))
 | 0,m,_,_,U=>⟨m,⟨rfl,trivial⟩,Na _,Na _,U,λh=>absurd h (NL _)⟩
 |f + 1,m,h1,hn,U=>by
  have b1:p.getD m 0 < n:=P.at (by omega)
  have b2:p.getD (m - 1) 0 < n:=P.at (by omega)
  unfold kas_asc lC vj
  by_cases c:Kp key p m < Kp key p (m - 1)
  ·rw[show pf key (p.getD m 0) (p.getD (m - 1) 0)=true from Ni c]
   simp only[Ol]
   exact⟨m,⟨rfl,b1,b2,trivial⟩,Na _,by omega,U,λ_=>c⟩
  ·rw[show pf key (p.getD m 0) (p.getD (m - 1) 0)=false from Nx c]
   simp only[Oc,Ov]
   have up:Kp key p (m - 1) < Kp key p m:=(P.tri hi (by omega) (by omega) (by omega)).resolve_right c
   obtain⟨r,⟨e,o⟩,a,b,u,d⟩:=qV P hi f (m + 1) (by omega) (by omega) (U.snoc h1 up)
   exact⟨r,⟨e,b1,b2,o⟩,by omega,by omega,u,λh=>d (by omega)⟩
theorem td {p:Array Nat}(P:Pm n p)(hi:Inj n key):∀(f m:Nat),1<=m->m + f<=n->Dn key p m->
  ∃r,(lC (pf key) (kas_desc f p m 0)=(p,r,0)/\vj n (pf key) (kas_desc f p m 0))/\m<=r/\r<=m + f/\Dn key p r
 | 0,m,_,_,U=>⟨m,⟨rfl,trivial⟩,Na _,Na _,U⟩
 |f + 1,m,h1,hn,U=>by
  have b1:p.getD m 0 < n:=P.at (by omega)
  have b2:p.getD (m - 1) 0 < n:=P.at (by omega)
  unfold kas_desc lC vj
  by_cases c:Kp key p m < Kp key p (m - 1)
  ·rw[show pf key (p.getD m 0) (p.getD (m - 1) 0)=true from Ni c]
   simp only[Ol,NL,gt_iff_lt,Ov]
   obtain⟨r,⟨e,o⟩,a,b,u⟩:=td P hi f (m + 1) (by omega) (by omega) (U.snoc h1 c)
   exact⟨r,⟨e,b1,b2,o⟩,by omega,by omega,u⟩
  ·rw[show pf key (p.getD m 0) (p.getD (m - 1) 0)=false from Nx c]
   simp only[Oc,Ov]
   unfold lC vj
   have up:Kp key p (m - 1) < Kp key p m:=(P.tri hi (by omega) (by omega) (by omega)).resolve_right c
   rw[show pf key (p.getD (m - 1) 0) (p.getD m 0)=true from Ni up]
   simp only[Ol]
   exact⟨m,⟨rfl,b1,b2,b2,b1,trivial⟩,Na _,by omega,U⟩
def Cv {p:Array Nat}{j k:Nat}(hj:j<=p.size)(hk:k < j):(kas_rev p 0 j).getD k 0=p.getD (j - 1 - k) 0:=by
 unfold kas_rev
 rw[OL,getElem?_mirror_all hj k,Nc ⟨N3 _,hk⟩,OL]
 congr 2
 omega
def G6 {p:Array Nat}{m:Nat}(hm:m<=p.size)(D:Dn key p m):Up key (kas_rev p 0 m) m:=λi j hij hj=>by
 unfold Kp
 rw[Cv hm (by omega),Cv hm hj]
 exact D (m - 1 - j) (m - 1 - i) (by omega) (by omega)
def Pm.rev {p:Array Nat}(P:Pm n p)(j:Nat):Pm n (kas_rev p 0 j):=P.perm (mirror_perm ..)
def xy {p:Array Nat}(P:Pm n p)(hi:Inj n key)(h1:1<=n) :
  ∃m q,(lC (pf key) (kas_count n p)=(m,q)/\vj n (pf key) (kas_count n p))/\Pm n q/\1<=m/\m<=n/\Up key q m:=by
 obtain⟨r,⟨e,o⟩,a,b,u,d⟩:=qV P hi (n - 1) 1 (Na _) (by omega) (λi j hij hj=>by omega)
 have rest:∃m q,(lC (pf key) (if (r == n)=true then KasT.ret (r,p) else if r > 1 then .ask (p.getD 0 0) (p.getD (r - 1) 0) λc=>if c=true then .ret (r,p) else kas_descPart r n (kas_rev p 0 r) else kas_descPart r n p)=(m,q)/\
   vj n (pf key) (if (r == n)=true then KasT.ret (r,p) else if r > 1 then .ask (p.getD 0 0) (p.getD (r - 1) 0) λc=>if c=true then .ret (r,p) else kas_descPart r n (kas_rev p 0 r) else kas_descPart r n p))/\Pm n q/\1<=m/\m<=n/\Up key q m:=by
  by_cases c:(r == n)=true
  ·rw[Nc c]
   exact⟨r,p,⟨rfl,trivial⟩,P,a,by omega,u⟩
  ·rw[Nk c]
   have hrn:r≠n:=by simpa using c
   have dd:=d (by omega)
   by_cases c2:r > 1
   ·rw[Nc c2]
    unfold lC vj
    rw[show pf key (p.getD 0 0) (p.getD (r - 1) 0)=true from Ni (u 0 (r - 1) (by omega) (by omega))]
    simp only[Ol]
    exact⟨r,p,⟨rfl,P.at (by omega),P.at (by omega),trivial⟩,P,a,by omega,u⟩
   ·rw[Nk c2]
    have hr1:r=1:=by omega
    subst hr1
    unfold kas_descPart
    rw[gJ]
    have D2:Dn key p 2:=λi j hij hj=>by
     have e1:i=0:=by omega
     have e2:j=1:=by omega
     rw[e1,e2];exact dd
    obtain⟨x,⟨e2,o2⟩,a2,b2,u2⟩:=td P hi (n - 2) 2 (by omega) (by omega) D2
    obtain⟨y,⟨e3,o3⟩,a3,b3,u3,_⟩:=qV (P.rev x) hi (n - x) x (by omega) (by omega) (G6 (by rw[P.sz];omega) u2)
    rw[show n - (1 + 1)=n - 2 from rfl,show (1 + 1:Nat)=2 from rfl]
    have t3:vj n (pf key) (kas_tail3 x n p):=by
     unfold kas_tail3
     exact jI o3 trivial
    refine⟨y,kas_rev p 0 x,⟨?_,jI o2 ?_⟩,P.rev x,by omega,by omega,u3⟩
    ·rw[e2]
     simp only[NL,gt_iff_lt,Ov]
     unfold kas_tail3
     rw[gJ,e3]
     rfl
    ·rw[e2]
     simp only[NL,gt_iff_lt,Ov]
     exact t3
 obtain⟨m,q,⟨f1,f2⟩,f3⟩:=rest
 refine⟨m,q,⟨?_,?_⟩,f3⟩
 ·unfold kas_count
  rw[gJ,e]
  exact f1
 ·unfold kas_count
  refine jI o ?_
  rw[e]
  exact f2
theorem place_spec {p:Array Nat}{k:Nat}(P:Pm n p)(hi:Inj n key)(hk:k < n)(U:Up key p k):∀(f l r:Nat),l<=r->r<=k->r - l<=f->(∀i,i < l->Kp key p i < Kp key p k)->(∀i,r<=i->i < k->Kp key p k < Kp key p i)->
  ∃x,(lC (pf key) (kas_place p k f l r)=x/\vj n (pf key) (kas_place p k f l r))/\x<=k/\(∀i,i < x->Kp key p i < Kp key p k)/\(∀i,x<=i->i < k->Kp key p k < Kp key p i)
 | 0,l,r,h1,h2,h3,a,b=>⟨l,⟨rfl,trivial⟩,by omega,a,λi hi=>b i (by omega)⟩
 |f + 1,l,r,h1,h2,h3,a,b=>by
  unfold kas_place
  by_cases c:l>=r
  ·rw[Nc c]
   exact⟨l,⟨rfl,trivial⟩,by omega,a,λi hi=>b i (by omega)⟩
  ·rw[Nk c]
   have b1:p.getD k 0 < n:=P.at hk
   have b2:p.getD ((l + r) / 2) 0 < n:=P.at (by omega)
   unfold lC vj
   by_cases d:Kp key p k < Kp key p ((l + r) / 2)
   ·rw[show pf key (p.getD k 0) (p.getD ((l + r) / 2) 0)=true from Ni d]
    simp only[Ol]
    have side:∀i,(l + r) / 2<=i->i < k->Kp key p k < Kp key p i:=λi h1 h2=>by
     rcases OE ((l + r) / 2) i with z |z
     ·exact Int.lt_trans d (U _ _ z h2)
     ·have:i=(l + r) / 2:=by omega
      rw[this];exact d
    obtain⟨x,⟨e1,e2⟩,e3⟩:=place_spec P hi hk U f l ((l + r) / 2) (by omega) (by omega) (by omega) a side
    exact⟨x,⟨e1,b1,b2,e2⟩,e3⟩
   ·rw[show pf key (p.getD k 0) (p.getD ((l + r) / 2) 0)=false from Nx d]
    simp only[Oc,Ov]
    have d':Kp key p ((l + r) / 2) < Kp key p k:=(P.tri hi (by omega) hk (by omega)).resolve_right d
    have side:∀i,i < (l + r) / 2 + 1->Kp key p i < Kp key p k:=λi h=>by
     rcases OE i ((l + r) / 2) with z |z
     ·exact Int.lt_trans (U _ _ z (by omega)) d'
     ·have:i=(l + r) / 2:=by omega
      rw[this];exact d'
    obtain⟨x,⟨e1,e2⟩,e3⟩:=place_spec P hi hk U f ((l + r) / 2 + 1) r (by omega) h2 (by omega) side b
    exact⟨x,⟨e1,b1,b2,e2⟩,e3⟩
def Dl {p:Array Nat}{k l j:Nat}(hk:k < p.size)(hl:l<=k):(bubble p k (k - l)).getD j 0=if j=l then p.getD k 0 else if l < j/\j<=k then p.getD (j - 1) 0 else p.getD j 0:=by
 rw[OL,getElem?_bubble hk (k - l) (by omega) j,show k - (k - l)=l by omega]
 simp only[OL]
 split
 ·rfl
 ·split <;> rfl
theorem vA (hi:Inj n key):∀(f k:Nat) (p:Array Nat),Pm n p->1<=k->k + f=n->Up key p k->∃q,(lC (pf key) (kas_bin f p k)=q/\vj n (pf key) (kas_bin f p k))/\Pm n q/\Up key q n
 | 0,k,p,P,_,e,U=>⟨p,⟨rfl,trivial⟩,P,by rw[<-e];exact U⟩
 |f + 1,k,p,P,h1,e,U=>by
  have hk:k < n:=by omega
  obtain⟨l,⟨el,ol⟩,hl,a,b⟩:=place_spec P hi hk U k 0 k (N3 _) (Na _) (by omega) (λi h=>by omega) (λi h h'=>by omega)
  have side:Up key (bubble p k (k - l)) (k + 1):=λi j hij hj=>by
   have hks:k < p.size:=by rw[P.sz];exact hk
   unfold Kp
   rw[Dl hks hl,Dl hks hl]
   by_cases i1:i=l
   ·rw[Nc i1,Nk (by omega)]
    by_cases j2:l < j/\j<=k
    ·rw[Nc j2];exact b _ (by omega) (by omega)
    ·omega
   ·rw[Nk i1]
    by_cases i2:l < i/\i<=k
    ·rw[Nc i2,Nk (by omega),Nc (by omega)]
     exact U _ _ (by omega) (by omega)
    ·rw[Nk i2]
     by_cases j1:j=l
     ·rw[Nc j1];exact a _ (by omega)
     ·rw[Nk j1]
      by_cases j2:l < j/\j<=k
      ·rw[Nc j2]
       rcases OE i (j - 1) with z |z
       ·exact U _ _ z (by omega)
       ·omega
      ·rw[Nk j2];exact U _ _ hij (by omega)
  obtain⟨q,⟨q1,q2⟩,q3⟩:=vA hi f (k + 1) (bubble p k (k - l)) (P.perm (bubble_perm ..)) (by omega) (by omega) side
  refine⟨q,⟨?_,?_⟩,q3⟩
  ·unfold kas_bin;rw[gJ,el];exact q1
  ·unfold kas_bin;refine jI ol ?_;rw[el];exact q2
def A5 (hi:Inj n key)(h2:2<=n):∃q,(lC (pf key) (kas_sort n)=q/\vj n (pf key) (kas_sort n))/\Pm n q/\Up key q n:=by
 obtain⟨m,q,⟨e,o⟩,P,a,b,u⟩:=xy (w8 n) hi (by omega)
 by_cases c:m < n
 ·obtain⟨q',⟨e1,o1⟩,r⟩:=vA hi (n - m) m q P a (by omega) u
  refine⟨q',⟨?_,?_⟩,r⟩
  ·unfold kas_sort;rw[gJ,e];dsimp only;rw[Nc c,Nat.max_eq_left a];exact e1
  ·unfold kas_sort;refine jI o ?_;rw[e];dsimp only;rw[Nc c,Nat.max_eq_left a];exact o1
 ·refine⟨q,⟨?_,?_⟩,P,λi j hij hj=>u i j hij (by omega)⟩
  ·unfold kas_sort;rw[gJ,e];dsimp only;rw[Nk c];rfl
  ·unfold kas_sort;refine jI o ?_;rw[e];dsimp only;rw[Nk c];trivial
theorem wp_run {α:Type}{n:Nat}{lt:Nat->Nat->Bool}{cmp:Nat->Nat->(Bool->Shared->Prop)->Shared->Prop}{Q:α->Shared->Prop}{s:Shared} :
  ∀(t:KasT α),(∀i j C,i < n->j < n->C (lt i j) s->cmp i j C s)->vj n lt t->Q (lC lt t) s->t.kasWp cmp Q s
 | .ret a,_,_,h=>h
 | .ask i j k,hc,ho,h=>hc i j _ ho.1 ho.2.1 (wp_run (k (lt i j)) hc ho.2.2 h)
end
end L2.SO
namespace L2.ST
open PySem PySem.SetTable PySem.W PyProof.Rows
def code (p:Pr):Int:=p.1 * 8 + p.2
def zF {p q:Pr}(h1:Sm p)(h2:Sm q):code p < code q↔p.1 < q.1\/(p.1=q.1/\p.2 < q.2):=by
 unfold code Sm at *;omega
def code_inj {p q:Pr}(h1:Sm p)(h2:Sm q)(e:code p=code q):p=q:=by
 unfold code Sm at *
 refine Prod.ext ?_ ?_ <;> omega
section
variable {prog:Program}{w:World}{A:Around}{E:Value->Shared->Prop}{s:Shared}
abbrev sF (ps:List Pr)(i:Nat):Int:=code (ps.getD i (0,0))
def BC {ps:List Pr}(nd:ps.Nodup)(hs:∀p,p∈ps->Sm p):L2.SO.Inj ps.length (sF ps):=λi j hi hj e=>by
 have a1:ps.getD i (0,0)=ps[i]:=by simp[hi]
 have a2:ps.getD j (0,0)=ps[j]:=by simp[hj]
 unfold sF at e
 rw[a1,a2] at e
 have e':=code_inj (hs _ (Ot hi)) (hs _ (Ot hj)) e
 have q:=O7.mp nd
 rcases Nat.lt_trichotomy i j with c |c |c
 ·exact absurd e' (q i j hi hj c)
 ·exact c
 ·exact absurd e'.symm (q j i hj hi c)
theorem D5 {a b:Addr}{p q:Pr}{Q:Bool->Shared->Prop}(ha:kh prog w s.heap p a)(hb:kh prog w s.heap q b)(hp:Sm p)(hq:Sm q)(h:Q (decide (code p < code q)) s) :
  wpAny (model prog w) A (keyLt' (tuples' true) (.ref a) (.ref b)) Q E s:=by
 obtain⟨oa,ia,na,hoa,hca,hda,hia⟩:=ha
 obtain⟨ob,ib,nb,hob,hcb,hdb,hib⟩:=hb
 obtain⟨l1,rfl⟩:∃l,ia=List.toArray l:=⟨ia.toList,by simp⟩
 obtain⟨l2,rfl⟩:∃l,ib=List.toArray l:=⟨ib.toList,by simp⟩
 simp only[List.toList_toArray] at hia hib
 cases hia with
 | @cons _ v1 _ _ h1 hia=>
  cases hia with
  | @cons _ v2 _ _ h2 hia=>
   cases hia
   cases hib with
   | @cons _ u1 _ _ g1 hib=>
    cases hib with
    | @cons _ u2 _ _ g2 hib=>
     cases hib
     obtain⟨t1,rfl⟩:=OO h1
     obtain⟨t2,rfl⟩:=OO h2
     obtain⟨t3,rfl⟩:=OO g1
     obtain⟨t4,rfl⟩:=OO g2
     refine kat_lt hoa hda hob hdb ?_
     have hc:=zF hp hq
     refine kat_cons (wpAny_eqBool_int ?_)
     by_cases e1:p.1=q.1
     ·rw[show (p.1 == q.1)=true by simpa using e1]
      refine kat_yes (kat_cons (wpAny_eqBool_int ?_))
      by_cases e2:p.2=q.2
      ·rw[show (p.2 == q.2)=true by simpa using e2]
       refine kat_yes (kat_nil ?_)
       have:decide (code p < code q)=false:=Nx (by rw[hc];omega)
       rw[this] at h
       simpa using h
      ·rw[show (p.2 == q.2)=false by simpa using e2]
       refine kat_no ?_
       show wpAny _ _ (oneLt' false _ _) _ _ _
       refine kat_one _ _ (lt_int ?_)
       have:decide (code p < code q)=decide (p.2 < q.2):=by
        by_cases z:p.2 < q.2
        ·rw[Ni z];exact Ni (hc.mpr (.inr ⟨e1,z⟩))
        ·rw[Nx z];exact Nx (by rw[hc];omega)
       rw[this] at h;exact h
     ·rw[show (p.1 == q.1)=false by simpa using e1]
      refine kat_no ?_
      show wpAny _ _ (oneLt' true _ _) _ _ _
      refine oneLt_int ?_
      have:decide (code p < code q)=decide (p.1 < q.1):=by
       by_cases z:p.1 < q.1
       ·rw[Ni z];exact Ni (hc.mpr (.inl z))
       ·rw[Nx z];exact Nx (by rw[hc];omega)
      rw[this] at h;exact h
theorem zp:∀{vs:List Value} {ps:List Pr},gk prog w s.heap vs ps->∃fs,KatTups s.heap vs fs/\fs.length=vs.length/\∀v∈fs,∃(i:Int) (t:Tok),v=.int i t
 | [],ps,_=>⟨[],KatTups.nil,rfl,λv hv=>by cases hv⟩
 |v :: vs,[],h=>by have:=h.1;simp at this
 |v :: vs,p :: ps,h=>by
  obtain⟨a,rfl,⟨o,items,n,ho,hc,hd,hi⟩,_⟩:=h.2 0 v p rfl rfl
  obtain⟨fs,k,e,f⟩:=zp (vs:=vs) (ps:=ps) ⟨by simpa using h.1,λi v p h1 h2=>h.2 (i + 1) v p (by simpa using h1) (by simpa using h2)⟩
  obtain⟨l1,rfl⟩:∃l,items=List.toArray l:=⟨items.toList,by simp⟩
  simp only[List.toList_toArray] at hi
  cases hi with
  | @cons _ v1 _ _ h1 hi=>
   obtain⟨t1,rfl⟩:=OO h1
   exact⟨_ :: fs,KatTups.cons ho hc hd rfl k,by simp[e],λv hv=>by
    rcases Nh.mp hv with z |z
    ·exact⟨_,_,z⟩
    ·exact f v z⟩
def vY {a:Addr}{vs:List Value}{ps:List Pr}{n:Nat}{P:PySem.Fin->Shared->Prop}(ho:s.heap.get? a=some (seqObj "list" vs.toArray n))(hps:gk prog w s.heap vs ps)(nd:ps.Nodup)(h64:vs.length < 64)
  (h:∀(h':Heap) (c:Nat) (ix:Array Nat),L2.SO.Pm vs.length ix->L2.SO.Up (sF ps) ix vs.length->(∀b o,b≠a->s.heap.get? b=some o->h'.get? b=some o)->
   h'.get? a=some (seqObj "list" (ix.toList.map λi=>vs.getD i Value.none).toArray c)->P (.done (.ret .none)) {s with heap:=h'}) :
  wpAny (model prog w) A (Builtin.«list.sort» ⟨[.ref a],[]⟩) P E s:=by
 have ha:a < s.heap.objs.size:=Nl ho
 obtain⟨e1,ho1⟩:∃e1,(s.heap.update a (Obj.mapSeq λ_=>(#[]:Array Value))).get? a=some (seqObj "list" #[] e1):=⟨_,get?_update_seq ho λ_=>#[]⟩
 generalize hH1:(s.heap.update a (Obj.mapSeq λ_=>(#[]:Array Value)))=H1 at ho1
 have sb1:Heap.SameBut a s.heap H1:=by rw[<-hH1];exact Heap.SameBut.update ..
 have kp2:∀b o,H1.get? b=some o->((H1.push (seqObj "tuple" vs.toArray 0)).push (seqObj "list" #[] 0)).get? b=some o:=λb o e=>Nd _ (Nd _ e)
 generalize hH2:((H1.push (seqObj "tuple" vs.toArray 0)).push (seqObj "list" #[] 0))=H2 at kp2
 have kp:∀b o,b≠a->s.heap.get? b=some o->H2.get? b=some o:=λb o hb e=>kp2 b o ((sb1.2 b hb).trans e)
 have ho2:=kp2 _ _ ho1
 have hps2:gk prog w H2 vs ps:=⟨hps.1,λi v p h1 h2=>by
  obtain⟨b,e,⟨o,it,m,hb,hc,hd,r⟩,hs⟩:=hps.2 i v p h1 h2
  refine⟨b,e,⟨o,it,m,kp b o (λz=>?_) hb,hc,hd,r⟩,hs⟩
  subst z
  rw[ho] at hb;cases hb
  exact absurd hc (by simp[seqObj])⟩
 have hz:vs.length<=sizeLine:=by rw[NV];omega
 rw[list_sort_plain]
 refine Nf (listItems_at ho rfl (Nf (listUpdate_at ho rfl ?_ (by simpa using hz) (N3 _))))
 rw[hH1]
 refine Nf (seqEpoch_at (s:={s with heap:=H1}) ho1 rfl (Nf (wpAny_newTuple ?_ (by simpa using hz))))
 refine Nf (wpAny_newList ?_ (N3 _))
 refine OI ?_
 show wpAny (model prog w) A _ P E {s with heap:=(H1.push (seqObj "tuple" vs.toArray 0)).push (seqObj "list" #[] 0)}
 rw[hH2]
 have fin:∀(ix:Array Nat) (st:SortSt),L2.SO.Pm vs.length ix->L2.SO.Up (sF ps) ix vs.length->(arrOf st).map (·.2)=List.toArray (ix.toList.map λi=>vs.getD i Value.none)->failedOf st=none->
   wpAny (model prog w) A (do
    let sorted:=(arrOf st).map (·.2)
    let touched:=(<-seqEpoch a) != e1
    Builtin.List.listUpdate (.ref a) λ_=>sorted
    if let some e:=failedOf st then rule "list.sort.comparison-raised";throw e
    if touched then rule "list.sort.modified";raiseError "ValueError" "list modified during sort"
    ret .none) P E {s with heap:=H2}:=λix st P1 U1 hout hf=>by
  dsimp only
  rw[hout]
  have hsz:(List.toArray (ix.toList.map λi=>vs.getD i Value.none)).size=vs.length:=by simp[P1.sz]
  refine Nf (seqEpoch_at (s:={s with heap:=H2}) ho2 rfl ?_)
  refine Nf (listUpdate_at (s:={s with heap:=H2}) ho2 rfl ?_ (N3 _) (N8 (Nat.le_of_eq hsz) (Nat.le_succ_of_le hz)))
  rw[hf]
  simp only[bne_self_eq_false,Oc,Ov]
  obtain⟨c2,hc2⟩:∃c2,(H2.update a (Obj.mapSeq λ_=>List.toArray (ix.toList.map λi=>vs.getD i Value.none))).get? a=some (seqObj "list" (List.toArray (ix.toList.map λi=>vs.getD i Value.none)) c2):=⟨_,get?_update_seq ho2 λ_=>List.toArray (ix.toList.map λi=>vs.getD i Value.none)⟩
  exact NJ (h _ c2 ix P1 U1 (λb o hb e=>((Heap.SameBut.update H2 a _).2 b hb).trans (kp b o hb e)) hc2)
 by_cases h2:vs.length < 2
 ·have h2':vs.toArray.size < 2:=by simpa using h2
  dsimp only
  rw[Nc h2',Nc h2']
  refine Nf (NJ ?_)
  rw[StateT.run_pure]
  refine Nf (NJ ?_)
  refine fin (List.toArray (List.range vs.length)) (SortSt.mk' general' (vs.toArray.zip vs.toArray) #[] 7 none) (L2.SO.w8 _) (λi j hij hj=>by omega) ?_ rfl
  have:∀{l:List Value},l.length < 2->((l.toArray.zip l.toArray).map (·.2))=List.toArray ((List.range l.length).map λi=>l.getD i Value.none):=λ{l} hl=>by
   match l,hl with
   | [],_=>simp
   | [x],_=>simp
  exact (this h2).trans (by simp)
 ·have h2':¬vs.toArray.size < 2:=by simpa using h2
  dsimp only
  rw[Nk h2',Nk h2']
  obtain⟨fs,kt,fl,ff⟩:=zp (s:={s with heap:=H2}) hps2
  refine Nf (kat_kind (s:={s with heap:=H2}) (T:=.type "int") kt (by omega) (λv hv=>?_) (by decide) ?_)
  ·obtain⟨i,t,rfl⟩:=ff v hv
   exact .now
  ·rw[show ((Value.type "int" != Value.type "tuple"):Bool)=true by decide]
   have hinj:L2.SO.Inj vs.length (sF ps):=by
    rw[hps.1]
    refine BC nd λp hp=>?_
    obtain⟨i,hi,e⟩:=OR.mp hp
    have hi':i < vs.length:=by rw[hps.1];exact hi
    obtain⟨_,_,_,hs⟩:=hps.2 i vs[i] p (M9 hi') (by rw[M9 hi,e])
    exact hs
   obtain⟨ix,⟨er,ok⟩,P1,U1⟩:=L2.SO.A5 hinj (by omega)
   refine Nf (Of (kat_run (s:={s with heap:=H2}) (κ:=tuples' true) (ks:=vs) (Q:=λst s'=>s'={s with heap:=H2}/\arrOf st=ix.map (kas_item (vs.toArray.zip vs.toArray))/\failedOf st=none)
    (G:=λp s'=>p=ix/\s'={s with heap:=H2}) rfl (by omega) h64 (λp st s' a1 a2 a3 a4=>?_) (L2.SO.wp_run (n:=vs.length) (lt:=L2.SO.pf (sF ps)) _ (λi j C hi hj hC=>?_) ok ⟨er,rfl⟩)) ?_ λ_ _ x=>x)
   ·obtain⟨rfl,rfl⟩:=a4
    exact⟨rfl,a2,a3⟩
   ·unfold kas_ask
    have hi':i < ps.length:=by rw[<-hps.1];exact hi
    have hj':j < ps.length:=by rw[<-hps.1];exact hj
    obtain⟨b1,eb1,hb1,s1⟩:=hps2.2 i vs[i] ps[i] (M9 hi) (M9 hi')
    obtain⟨b2,eb2,hb2,s2⟩:=hps2.2 j vs[j] ps[j] (M9 hj) (M9 hj')
    have e1:vs.getD i Value.none=.ref b1:=by rw[<-eb1];simp[hi]
    have e2:vs.getD j Value.none=.ref b2:=by rw[<-eb2];simp[hj]
    rw[e1,e2]
    refine D5 (s:={s with heap:=H2}) hb1 hb2 s1 s2 ?_
    have:L2.SO.pf (sF ps) i j=decide (code ps[i] < code ps[j]):=by
     unfold L2.SO.pf sF;simp[hi',hj']
    rw[<-this];exact hC
   ·rintro⟨⟨⟩,st⟩ s' ⟨rfl,har,hf⟩
    exact fin ix st P1 U1 (kat_snds rfl har) hf
end
section
variable {prog:Program}{w:World}{A:Around}{E:Value->Shared->Prop}{s:Shared}
def told (w:World)(S:Addr)(ep:Nat)(es:Array (Int×Value)):Array (Int×Value):=if w.params.followText "set-order" then pickOrder (w.params.setOrder S ep) es else es
end
end L2.ST
namespace OM
abbrev Pr:=Int×Int
def BA (p q:Pr):Prop:=p.1 < q.1\/(p.1=q.1/\p.2 < q.2)
instance (p q:Pr):Decidable (BA p q):=by unfold BA;infer_instance
def kR (p:Pr):¬BA p p:=by unfold BA;omega
def AQ {p q r:Pr}(a:BA p q)(b:BA q r):BA p r:=by unfold BA at *;omega
abbrev wo (l:List Pr):Prop:=l.Pairwise BA
theorem kL:∀{l m:List Pr},wo l->wo m->(∀x,x∈l↔x∈m)->l=m
 | [],[],_,_,_=>rfl
 | [],b :: m,_,_,h=>absurd ((h b).mpr (Np ..)) (by simp)
 |a :: l,[],_,_,h=>absurd ((h a).mp (Np ..)) (by simp)
 |a :: l,b :: m,hl,hm,h=>by
  have hl':=List.pairwise_cons.mp hl
  have hm':=List.pairwise_cons.mp hm
  have e:a=b:=by
   rcases Nh.mp ((h a).mp (Np ..)) with e |e
   ·exact e
   ·rcases Nh.mp ((h b).mpr (Np ..)) with e' |e'
    ·exact e'.symm
    ·exact absurd (AQ (hm'.1 a e) (hl'.1 b e')) (kR _)
  subst e
  congr 1
  refine kL hl'.2 hm'.2 λx=>⟨λhx=>?_,λhx=>?_⟩
  ·rcases Nh.mp ((h x).mp (Nn _ hx)) with e |e
   ·subst e;exact absurd (hl'.1 x hx) (kR _)
   ·exact e
  ·rcases Nh.mp ((h x).mpr (Nn _ hx)) with e |e
   ·subst e;exact absurd (hm'.1 x hx) (kR _)
   ·exact e
def oE {l:List Pr}(h:wo l):l.Nodup:=h.imp λ{a b} hab e=>by subst e;exact kR _ hab
def jy {l:List Pr}(p:Pr->Bool)(h:wo l):wo (l.filter p):=h.sublist List.filter_sublist
def dq (n:Nat):List Pr:=(List.range (n * n)).map λk=>(((k / n:Nat):Int),((k % n:Nat):Int))
def bV {n:Nat}{p:Pr}:p∈dq n↔(0<=p.1/\p.1 < n)/\(0<=p.2/\p.2 < n):=by
 unfold dq
 rw[NN]
 constructor
 ·rintro⟨k,hk,rfl⟩
  have hk:=NR.mp hk
  have hn:0 < n:=by
   rcases Nat.eq_zero_or_pos n with e |e
   ·subst e;omega
   ·exact e
  have h1:k / n < n:=Nat.div_lt_of_lt_mul hk
  have h2:k % n < n:=Nat.mod_lt _ hn
  generalize k / n=q at h1
  generalize k % n=r at h2
  exact⟨⟨Int.natCast_nonneg _,by dsimp only;omega⟩,⟨Int.natCast_nonneg _,by dsimp only;omega⟩⟩
 ·rintro⟨⟨a0,a1⟩,⟨b0,b1⟩⟩
  have hn:0 < n:=by omega
  refine⟨p.1.toNat * n + p.2.toNat,NR.mpr ?_,?_⟩
  ·have h1:p.1.toNat + 1<=n:=by omega
   have h2:p.2.toNat < n:=by omega
   have:=Nat.mul_le_mul_right n h1
   rw[Nat.add_mul] at this
   omega
  ·have h2:p.2.toNat < n:=by omega
   have e1:(p.1.toNat * n + p.2.toNat) / n=p.1.toNat:=by
    rw[Nat.mul_comm,Nat.mul_add_div hn,Nat.div_eq_of_lt h2];rfl
   have e2:(p.1.toNat * n + p.2.toNat) % n=p.2.toNat:=by
    rw[Nat.mul_comm,Nat.mul_add_mod,Nat.mod_eq_of_lt h2]
   rw[e1,e2]
   refine Prod.ext ?_ ?_ <;> dsimp only <;> omega
def ko (n:Nat):wo (dq n):=by
 unfold dq
 refine O0.mpr (Pf ?_ List.pairwise_lt_range)
 intro a b ha hb hab
 have ha:=NR.mp ha
 have hb:=NR.mp hb
 have hn:0 < n:=by
  rcases Nat.eq_zero_or_pos n with e |e
  ·subst e;omega
  ·exact e
 have h1:a / n<=b / n:=Nat.div_le_div_right (O1 hab)
 have e1:=Nat.div_add_mod a n
 have e2:=Nat.div_add_mod b n
 unfold BA
 dsimp only
 rcases OE (a / n) (b / n) with c |c
 ·left;omega
 ·right
  have e:a / n=b / n:=by omega
  rw[e] at e1
  omega
open Classical in
noncomputable def i6 (n:Nat)(R:Int->Int->Prop):List Pr:=(dq n).filter λp=>decide (R p.1 p.2)
def fk {n:Nat}{R:Int->Int->Prop}{p:Pr}:p∈i6 n R↔((0<=p.1/\p.1 < n)/\(0<=p.2/\p.2 < n))/\R p.1 p.2:=by
 unfold i6
 rw[Nq,bV]
 simp
def jq (n:Nat)(R:Int->Int->Prop):wo (i6 n R):=jy _ (ko n)
def xA {n:Nat}{R S:Int->Int->Prop}(h:∀a b:Int,0<=a->a < n->0<=b->b < n->(R a b↔S a b)):i6 n R=i6 n S:=by
 refine kL (jq n R) (jq n S) λx=>?_
 rw[fk,fk]
 constructor
 ·rintro⟨⟨⟨a,b⟩,c,d⟩,r⟩;exact⟨⟨⟨a,b⟩,c,d⟩,(h _ _ a b c d).mp r⟩
 ·rintro⟨⟨⟨a,b⟩,c,d⟩,r⟩;exact⟨⟨⟨a,b⟩,c,d⟩,(h _ _ a b c d).mpr r⟩
def Wn (n:Nat)(l:List Pr):Prop:=∀p,p∈l->(0<=p.1/\p.1 < n)/\(0<=p.2/\p.2 < n)
abbrev Mem (l:List Pr)(a b:Int):Prop:=(a,b)∈l
def z8 {n:Nat}{l:List Pr}(w:Wn n l)(r:wo l):i6 n (Mem l)=l:=by
 refine kL (jq n _) r λx=>?_
 rw[fk]
 exact⟨λh=>h.2,λh=>⟨w x h,h⟩⟩
def Eb (n:Nat)(R:Int->Int->Prop):Wn n (i6 n R):=λ_ h=>(fk.mp h).1
def BM (n:Nat)(R:Int->Int->Prop):(i6 n R).length<=n * n:=by
 unfold i6
 refine N8 (NZ ..) ?_
 unfold dq;simp
inductive Tr (R:Int->Int->Prop):Int->Int->Prop
 |one {a b}:R a b->Tr R a b
 |more {a b c}:R a b->Tr R b c->Tr R a c
theorem Tr.trans {R:Int->Int->Prop}{a b c:Int}(h:Tr R a b)(k:Tr R b c):Tr R a c:=by
 induction h with
 |one r=>exact .more r k
 |more r _ ih=>exact .more r (ih k)
theorem Tr.least {R S:Int->Int->Prop}(f:∀a b,R a b->S a b)(t:∀a b c,S a b->S b c->S a c){a b:Int}(h:Tr R a b):S a b:=by
 induction h with
 |one r=>exact f _ _ r
 |more r _ ih=>exact t _ _ _ (f _ _ r) ih
structure Ord (n:Nat)(l:List Pr):Prop where
 lo:1<=n
 hi:n<=8
 wn:Wn n l
 ris:wo l
 irr:∀a,(a,a)∉l
 tr:∀a b c,(a,b)∈l->(b,c)∈l->(a,c)∈l
def Ord.tr_mem {n:Nat}{l:List Pr}(O:Ord n l){a b:Int}:Tr (Mem l) a b↔(a,b)∈l:=
 ⟨λh=>h.least (λ_ _ r=>r) λa b c=>O.tr a b c,λh=>.one h⟩
def Ord.closed {n:Nat}{l:List Pr}(O:Ord n l):i6 n (Tr (Mem l))=l:=by
 rw[xA (S:=Mem l) λa b _ _ _ _=>O.tr_mem,z8 O.wn O.ris]
theorem Dw {l m:List Pr}(hl:l.Nodup)(h:∀x,x∈l->x∈m):l.length<=m.length:=by
 induction l generalizing m with
 |nil=>exact N3 _
 |cons a l ih=>
  have ha:=h a (Np ..)
  have hl':=N2.mp hl
  have:=ih (m:=m.erase a) hl'.2 λx hx=>by
   refine (List.mem_erase_of_ne ?_).mpr (h x (Nn _ hx))
   rintro rfl;exact hl'.1 hx
  rw[Pe ha] at this
  have:0 < m.length:=List.length_pos_of_mem ha
  simp only[N1];omega
def sub_eq {l m:List Pr}(hl:wo l)(hm:wo m)(h:∀x,x∈l->x∈m)(e:l.length=m.length):l=m:=by
 refine kL hl hm λx=>⟨h x,λhx=>Classical.byContradiction λhn=>?_⟩
 have:=Dw (l:=x :: l) (m:=m) (N2.mpr ⟨hn,oE hl⟩) λy hy=>by
  rcases Nh.mp hy with e |e
  ·subst e;exact hx
  ·exact h y e
 simp only[N1] at this
 omega
def more (l:List Pr):List Pr:=l.flatMap λp=>(l.filter λq=>decide (q.1=p.2)).map λq=>(p.1,q.2)
abbrev Tb:=Nat->Nat->Bool
def Tb.set (M:Tb)(a b:Nat):Tb:=λx y=>if x=a/\y=b then true else M x y
def E5 (M:Tb)(m:Nat):Prop:=∀k a b,k < m->M a k=true->M k b=true->M a b=true
def Phase (M0 M:Tb)(m:Nat)(D:Nat->Nat->Prop):Prop:=∀a b,M a b=true↔M0 a b=true\/(D a b/\M0 a m=true/\M0 m b=true)
def Phase.start (M:Tb)(m:Nat):Phase M M m λ_ _=>False:=λa b=>by simp
def Phase.row {M0 M:Tb}{m:Nat}{D:Nat->Nat->Prop}(P:Phase M0 M m D)(a:Nat):M a m=true↔M0 a m=true:=by
 rw[P]
 exact⟨λh=>h.elim id λh=>h.2.1,.inl⟩
def Phase.col {M0 M:Tb}{m:Nat}{D:Nat->Nat->Prop}(P:Phase M0 M m D)(b:Nat):M m b=true↔M0 m b=true:=by
 rw[P]
 exact⟨λh=>h.elim id λh=>h.2.2,.inl⟩
def Phase.step {M0 M:Tb}{m:Nat}{D:Nat->Nat->Prop}(P:Phase M0 M m D)(x y:Nat) :
  Phase M0 (if M x m=true/\M m y=true then M.set x y else M) m (λa b=>D a b\/(a=x/\b=y)):=λa b=>by
 have r:=P.row x
 have c:=P.col y
 by_cases h:M x m=true/\M m y=true
 ·rw[Nc h]
  unfold Tb.set
  by_cases e:a=x/\b=y
  ·rw[Nc e]
   obtain⟨rfl,rfl⟩:=e
   simp only[true_iff]
   exact .inr ⟨.inr (by simp),r.mp h.1,c.mp h.2⟩
  ·rw[Nk e,P]
   constructor
   ·rintro (q | ⟨d,q⟩)
    ·exact .inl q
    ·exact .inr ⟨.inl d,q⟩
   ·rintro (q | ⟨d |d,q⟩)
    ·exact .inl q
    ·exact .inr ⟨d,q⟩
    ·exact absurd d e
 ·rw[Nk h,P]
  constructor
  ·rintro (q | ⟨d,q⟩)
   ·exact .inl q
   ·exact .inr ⟨.inl d,q⟩
  ·rintro (q | ⟨d | ⟨rfl,rfl⟩,q1,q2⟩)
   ·exact .inl q
   ·exact .inr ⟨d,q1,q2⟩
   ·exact absurd ⟨r.mpr q1,c.mpr q2⟩ h
def Phase.done {M0 M:Tb}{m n:Nat}{D:Nat->Nat->Prop}(P:Phase M0 M m D)(hD:∀a b,a < n->b < n->D a b)(hM:∀a b,M0 a b=true->a < n/\b < n)(T:E5 M0 m) :
  E5 M (m + 1)/\∀a b,M a b=true->a < n/\b < n:=by
 have hM':∀a b,M a b=true->a < n/\b < n:=λa b h=>by
  rcases (P a b).mp h with q | ⟨_,q1,q2⟩
  ·exact hM a b q
  ·exact⟨(hM _ _ q1).1,(hM _ _ q2).2⟩
 have put:∀a b,M0 a m=true->M0 m b=true->M a b=true:=λa b h1 h2=>(P a b).mpr (.inr ⟨hD a b (hM _ _ h1).1 (hM _ _ h2).2,h1,h2⟩)
 refine⟨λk a b hk h1 h2=>?_,hM'⟩
 rcases OE k m with c |c
 ·rcases (P a k).mp h1 with q1 | ⟨_,q1,q1'⟩
  ·rcases (P k b).mp h2 with q2 | ⟨_,q2,q2'⟩
   ·exact (P a b).mpr (.inl (T k a b c q1 q2))
   ·exact put a b (T k a m c q1 q2) q2'
  ·rcases (P k b).mp h2 with q2 | ⟨_,q2,q2'⟩
   ·exact put a b q1 (T k m b c q1' q2)
   ·exact put a b q1 q2'
 ·have e:k=m:=by omega
  subst e
  exact put a b ((P.row a).mp h1) ((P.col b).mp h2)
structure Tab (n:Nat)(ps:List Pr)(M:Tb):Prop where
 inn:∀a b,M a b=true->a < n/\b < n
 sub:∀a b:Nat,((a:Int),(b:Int))∈ps->M a b=true
 sup:∀a b:Nat,M a b=true->Tr (Mem ps) a b
def Tab.phase {n:Nat}{ps:List Pr}{M0 M:Tb}{m:Nat}{D:Nat->Nat->Prop}(T:Tab n ps M0)(P:Phase M0 M m D):Tab n ps M:=
 ⟨λa b h=>by
  rcases (P a b).mp h with q | ⟨_,q1,q2⟩
  ·exact T.inn a b q
  ·exact⟨(T.inn _ _ q1).1,(T.inn _ _ q2).2⟩,
  λa b h=>(P a b).mpr (.inl (T.sub a b h)),
  λa b h=>by
  rcases (P a b).mp h with q | ⟨_,q1,q2⟩
  ·exact T.sup a b q
  ·exact (T.sup _ _ q1).trans (T.sup _ _ q2)⟩
def Tab.all {n:Nat}{ps:List Pr}{M:Tb}(w:Wn n ps)(T:Tab n ps M)(H:E5 M n)(a b:Nat):M a b=true↔Tr (Mem ps) a b:=by
 refine⟨T.sup a b,λh=>?_⟩
 have key:∀{x y:Int},Tr (Mem ps) x y->M x.toNat y.toNat=true:=λ{x y} h=>by
  induction h with
  | @one x y r=>
   have:=w _ r
   refine T.sub _ _ ?_
   have e1:((x.toNat:Nat):Int)=x:=by simp only at this;omega
   have e2:((y.toNat:Nat):Int)=y:=by simp only at this;omega
   rw[e1,e2];exact r
  | @more x y z r _ ih=>
   have:=w _ r
   have e1:((x.toNat:Nat):Int)=x:=by simp only at this;omega
   have e2:((y.toNat:Nat):Int)=y:=by simp only at this;omega
   have q:M x.toNat y.toNat=true:=T.sub _ _ (by rw[e1,e2];exact r)
   exact H y.toNat _ _ (T.inn _ _ q).2 q ih
 have:=key h
 simpa using this
end OM
namespace L2.ST
open PySem PySem.SetTable PySem.W PyProof.Rows
section
variable {prog:Program}{w:World}{A:Around}{E:Value->Shared->Prop}{s:Shared}
def HJ {ps:List Pr}(hs:∀p,p∈ps->Sm p){ix:Array Nat}(P:L2.SO.Pm ps.length ix)(U:L2.SO.Up (sF ps) ix ps.length):OM.wo (ix.toList.map λi=>ps.getD i (0,0)):=by
 refine O0.mpr (O7.mpr λi j hi hj hij=>?_)
 have hi':i < ix.size:=by simpa using hi
 have hj':j < ix.size:=by simpa using hj
 have q:=U i j hij (by rw[<-P.sz];exact hj')
 unfold L2.SO.Kp sF at q
 have ei:ix.getD i 0=ix.toList[i]:=by simp[Array.getD,hi']
 have ej:ix.getD j 0=ix.toList[j]:=by simp[Array.getD,hj']
 rw[ei,ej] at q
 have ai:ix.toList[i] < ps.length:=P.lt _ (by simp)
 have aj:ix.toList[j] < ps.length:=P.lt _ (by simp)
 have bi:Sm (ps.getD ix.toList[i] (0,0)):=by rw[Nr,M9 ai];exact hs _ (Ot ai)
 have bj:Sm (ps.getD ix.toList[j] (0,0)):=by rw[Nr,M9 aj];exact hs _ (Ot aj)
 exact (zF bi bj).mp q
def HE {n:Nat}{ix:Array Nat}(P:L2.SO.Pm n ix){k:Nat}(hk:k < n):k∈ix.toList:=by
 refine Classical.byContradiction λhn=>?_
 have:=gN (l:=k :: ix.toList) (m:=List.range n) (N2.mpr ⟨hn,P.nd⟩) λx hx=>by
  rcases Nh.mp hx with e |e
  ·rw[e];exact NR.mpr hk
  ·exact NR.mpr (P.lt x (by simpa using e))
 simp[P.sz] at this
 omega
theorem JR {h:Heap}{vs:List Value}{ps:List Pr}(hps:gk prog w h vs ps){ix:Array Nat}(P:L2.SO.Pm vs.length ix) :
  gk prog w h (ix.toList.map λi=>vs.getD i Value.none) (ix.toList.map λi=>ps.getD i (0,0)):=by
 refine⟨by simp,λi v p h1 h2=>?_⟩
 rw[Nm] at h1 h2
 cases e:ix.toList[i]? with
 |none=>rw[e] at h1;cases h1
 |some k=>
  rw[e] at h1 h2
  have hk:k < vs.length:=P.lt k (by simpa using Nw e)
  have hk':k < ps.length:=by rw[<-hps.1];exact hk
  simp[hk,hk'] at h1 h2
  exact hps.2 k v p (by rw[M9 hk,h1]) (by rw[M9 hk',h2])
def AZ {v:Value}{vs:List Value}{ps:List Pr}{Q:Value->Shared->Prop}(hps:gk prog w s.heap vs ps)(nd:ps.Nodup)(h64:vs.length < 64)
  (hcol:∀(Q':List Value->Shared->Prop),(∀h' tk,(∀b o,s.heap.get? b=some o->h'.get? b=some o)->Q' vs {s with heap:=h',toks:=tk})->wpAny (model prog w) A.in1 (collect v) Q' (λe s'=>E e s') s)
  (h:∀(h1 h':Heap) (tk:Nat) (D:Addr) (out:List Value) (qs:List Pr) (c:Nat),(∀b o,s.heap.get? b=some o->h1.get? b=some o)->D=h1.objs.size->(∀b o,h1.get? b=some o->h'.get? b=some o)->h'.get? D=some (seqObj "list" out.toArray c)->gk prog w h' out qs->(∀u,u∈out->u∈vs)->OM.wo qs->(∀p,p∈qs↔p∈ps)->
   Q (.ref D) {s with heap:=h',toks:=tk}):wpAny (model prog w) A (call (.builtin "sorted") [v]) Q E s:=by
 have hsm:∀p,p∈ps->Sm p:=λp hp=>by
  obtain⟨i,hi,e⟩:=OR.mp hp
  have hi':i < vs.length:=by rw[hps.1];exact hi
  obtain⟨_,_,_,hs⟩:=hps.2 i vs[i] p (M9 hi') (by rw[M9 hi,e])
  exact hs
 (refine Calls.call_function_entry kind_sorted plain_sorted entry_sorted (args_sorted1 _) ?_)
 unfold Builtin.«sorted»
 refine Nf (m:=checkCount "sorted" 1 1 ([v]:List Value).length) (NJ ?_)
 refine Nf (hcol _ λh1 tk1 k1=>?_)
 have hz:vs.length<=sizeLine:=by rw[NV];omega
 refine Nf (wpAny_newList ?_ hz)
 show wpAny _ _ _ _ _ {s with heap:=h1.push (seqObj "list" vs.toArray 0),toks:=tk1}
 have hoL:(h1.push (seqObj "list" vs.toArray 0)).get? h1.objs.size=some (seqObj "list" vs.toArray 0):=Nu _ rfl
 have kp:∀b o,s.heap.get? b=some o->(h1.push (seqObj "list" vs.toArray 0)).get? b=some o:=λb o e=>Nd _ (k1 b o e)
 have hp1:gk prog w (h1.push (seqObj "list" vs.toArray 0)) vs ps:=⟨hps.1,λi v p a b=>by
  obtain⟨c,e,⟨o,it,n,ho,r⟩,hs⟩:=hps.2 i v p a b
  exact⟨c,e,⟨o,it,n,kp _ _ ho,r⟩,hs⟩⟩
 have hne:∀b o,s.heap.get? b=some o->b≠h1.objs.size:=λb o e=>N0 (Nl (k1 b o e))
 refine Nf (OI (wpAny_call_entry slot_list_sort ⟨_,hoL,rfl⟩ entry_list_sort ?_ (args_list_sort _)))
 refine vY (s:={s with heap:=h1.push (seqObj "list" vs.toArray 0),toks:=tk1}) hoL hp1 nd h64 λh' c ix P U hk ho=>?_
 refine⟨_,rfl,NJ ⟨_,rfl,?_⟩⟩
 have kk:∀b o,s.heap.get? b=some o->h'.get? b=some o:=λb o e=>hk b o (hne b o e) (kp b o e)
 have P':L2.SO.Pm ps.length ix:=by rw[<-hps.1];exact P
 have k2:∀b o,h1.get? b=some o->h'.get? b=some o:=λb o e=>hk b o (N0 (Nl e)) (Nd _ e)
 refine h h1 h' tk1 h1.objs.size _ (ix.toList.map λi=>ps.getD i (0,0)) c k1 rfl k2 ho (JR ⟨hps.1,λi v p a b=>?_⟩ P) (λu hu=>?_) (HJ hsm P' (by rw[<-hps.1];exact U)) λp=>⟨λhp=>?_,λhp=>?_⟩
 ·obtain⟨c,e,⟨o,it,n,ho,r⟩,hs⟩:=hps.2 i v p a b
  exact⟨c,e,⟨o,it,n,kk _ _ ho,r⟩,hs⟩
 ·obtain⟨i,hi,rfl⟩:=NN.mp hu
  have:i < vs.length:=P.lt i (by simpa using hi)
  rw[Nr,M9 this]
  exact Ot this
 ·obtain⟨i,hi,rfl⟩:=NN.mp hp
  have:i < ps.length:=P'.lt i (by simpa using hi)
  rw[Nr,M9 this]
  exact Ot this
 ·obtain⟨i,hi,e⟩:=OR.mp hp
  refine NN.mpr ⟨i,HE P' hi,?_⟩
  rw[Nr,M9 hi,e];rfl
end
end L2.ST
namespace L2
open PySem PySem.Spec PyProof.Rows
abbrev Pr:=Int×Int
abbrev Sm:=L2.ST.Sm
section
variable {X:Cx}{pins:List (Addr×Obj)}{σ:St}{H H':Hp}{s:Shared}
def jo (H H':Hp):Prop:=(∀b xs,H b=some (.tup xs)->H' b=some (.tup xs))/\∀b o u,H b=some (.aY o u)->H' b=some (.aY o u)
def jo.refl (H:Hp):jo H H:=⟨λ_ _ h=>h,λ_ _ _ h=>h⟩
def jo.trans {H H1 H2:Hp}(a:jo H H1)(b:jo H1 H2):jo H H2:=⟨λc xs h=>b.1 c xs (a.1 c xs h),λc o u h=>b.2 c o u (a.2 c o u h)⟩
def ax.grow {H H':Hp}(e:ax H H'):jo H H':=⟨λb xs h=>e b _ h,λb o u h=>e b _ h⟩
def jo.new {H:Hp}{l:Addr}{o:HO}(h:H l=none):jo H (upd H l o):=⟨λb xs e=>by rw[aB (aO e h)];exact e,λb o' u e=>by rw[aB (aO e h)];exact e⟩
def ax.new {H:Hp}{l:Addr}{o:HO}(h:H l=none):ax H (upd H l o):=λb u e=>Kt.of (by rw[aB (aO e h)];exact e)
def gB.grow {K:Frag}{a:Addr}{xs:List V}(h:gB K H a xs)(g:jo H H'):gB K H' a xs:=by
 rcases h with (h | ⟨o,h⟩) |h
 ·exact .inl (.inl (g.1 _ _ h))
 ·exact .inl (.inr ⟨o,g.2 _ _ _ h⟩)
 ·exact .inr h
def jo.list {a:Addr}{ys:List V}{o:HO}(h:H a=some (.lst ys)):jo H (upd H a o):=
 ⟨λb xs e=>by rw[aB (FH e h (by intro z;cases z))];exact e,λb o' u e=>by rw[aB (FH e h (by intro z;cases z))];exact e⟩
def bA (K:Frag)(H:Hp):List V->List Pr->Prop:=Paired λv p=>∃a,v=.ref a/\gB K H a [.int p.1,.int p.2]
def bA.grow {K:Frag}{vs:List V}{ps:List Pr}(h:bA K H vs ps)(g:jo H H'):bA K H' vs ps:=Paired.mapP h λv p ⟨a,e,q⟩=>⟨a,e,q.grow g⟩
theorem Paired.getP {α β:Type}{F:α->β->Prop}:∀{l:List α} {m:List β} {i:Nat} {x:α},Paired F l m->l[i]? =some x->∃y,m[i]? =some y/\F x y
 |_,_,_,_,.nil,e=>by simp at e
 |_,_,0,_,.cons r _,e=>by simp at e;subst e;exact⟨_,rfl,r⟩
 |_,_,i + 1,x,.cons _ t,e=>by
  obtain⟨u,h1,h2⟩:=Paired.getP (i:=i) (x:=x) t (by simpa using e)
  exact⟨u,by simpa using h1,h2⟩
theorem Paired.getQ {α β:Type}{F:α->β->Prop}:∀{l:List α} {m:List β} {i:Nat} {y:β},Paired F l m->m[i]? =some y->∃x,l[i]? =some x/\F x y
 |_,_,_,_,.nil,e=>by simp at e
 |_,_,0,_,.cons r _,e=>by simp at e;subst e;exact⟨_,rfl,r⟩
 |_,_,i + 1,x,.cons _ t,e=>by
  obtain⟨u,h1,h2⟩:=Paired.getQ (i:=i) (y:=x) t (by simpa using e)
  exact⟨u,by simpa using h1,h2⟩
theorem yL (I:Inv X pins σ H s){a:Addr}{p:Pr}(h:gB X.K H a [.int p.1,.int p.2]):L2.ST.kh X.prog X.w s.heap p a:=by
 obtain⟨its,r,⟨o,ho,hc,n,hd⟩,_⟩:=I.tuple h
 cases r with
 |cons r1 r=>
  cases r with
  |cons r2 r=>
   cases r
   obtain⟨t1,rfl⟩:=r1
   obtain⟨t2,rfl⟩:=r2
   exact⟨o,_,n,ho,hc,hd,.cons (intKind_is ..) (.cons (intKind_is ..) .nil)⟩
def pairs_at (I:Inv X pins σ H s){vs:List V}{us:List Value}{ps:List Pr}(hv:Vals vs us)(h:bA X.K H vs ps)(hs:∀p,p∈ps->Sm p):L2.ST.gk X.prog X.w s.heap us ps:=by
 refine⟨by rw[<-hv.length];exact Paired.length h,λi u p e1 e2=>?_⟩
 obtain⟨v,ev,a,rfl,q⟩:=Paired.getQ h e2
 obtain⟨u',eu,ru⟩:=hv.get ev
 rw[e1] at eu;cases eu
 cases ru
 exact⟨a,rfl,yL I q,hs p (Nw e2)⟩
theorem rq (I:Inv X pins σ H s){vs:List V}{us:List Value}{ps:List Pr}(hv:Vals vs us)(h:bA X.K H vs ps){h':Heap}(k:∀b o,s.heap.get? b=some o->h'.get? b=some o):∀{out:List Value} {qs:List Pr},
  (∀u,u∈out->u∈us)->L2.ST.gk X.prog X.w h' out qs->∃ws,Vals ws out/\bA X.K H ws qs
 | [],[],_,_=>⟨[],.nil,.nil⟩
 | [],_ :: _,_,hp=>by have:=hp.1;simp at this
 |_ :: _,[],_,hp=>by have:=hp.1;simp at this
 |u :: out,q :: qs,hm,hp=>by
  obtain⟨ws,a1,a2⟩:=rq I hv h k (out:=out) (qs:=qs) (λx hx=>hm x (Nn _ hx)) ⟨by have:=hp.1;simpa using this,λi v p e1 e2=>hp.2 (i + 1) v p (by simpa using e1) (by simpa using e2)⟩
  obtain⟨i,hi,e⟩:=OR.mp (hm u (Np ..))
  have hi':i < vs.length:=by rw[hv.length];exact hi
  obtain⟨u',eu,ru⟩:=hv.get (M9 hi')
  rw[M9 hi,e] at eu
  cases eu
  obtain⟨p,ep,a,ea,qa⟩:=Paired.getP h (M9 hi')
  rw[ea] at ru
  cases ru
  obtain⟨b,eb,hb,_⟩:=hp.2 0 (.ref a) q rfl rfl
  cases eb
  have pa:L2.ST.kh X.prog X.w h' p a:=by
   obtain⟨o,it,n,ho,r⟩:=yL I qa
   exact⟨o,it,n,k _ _ ho,r⟩
  have:p=q:=L2.ST.kh.inj pa hb
  subst this
  exact⟨.ref a :: ws,.cons rfl a1,.cons ⟨a,rfl,qa⟩ a2⟩
def zu (K:Frag):List V->Hp->VK->Prop:=λxs H Q=>∃a vs ps,xs= [.ref a]/\iM K H a vs/\bA K H vs ps/\(∀p,p∈ps->Sm p)/\ps.Nodup/\ps.length < 64/\
 ∀l ws qs,H l=none->bA K H ws qs->OM.wo qs->(∀p,p∈qs↔p∈ps)->Q (.ref l) (upd H l (.lst ws))
def xq (I:Inv X pins σ H s){vs:List V}{us:List Value}{ps:List Pr}(hv:Vals vs us)(hp:bA X.K H vs ps)(hlen:ps.length < 64){Q:VK}
  (q:∀l ws qs,H l=none->bA X.K H ws qs->OM.wo qs->(∀p,p∈qs↔p∈ps)->Q (.ref l) (upd H l (.lst ws)))
  {h1 h':Heap} {tk:Nat} {D:Addr} {out:List Value} {qs:List Pr} {c:Nat} (k1:∀b o,s.heap.get? b=some o->h1.get? b=some o) (eD:D=h1.objs.size) (k2:∀b o,h1.get? b=some o->h'.get? b=some o)
  (ho:h'.get? D=some (seqObj "list" out.toArray c)) (hpq:L2.ST.gk X.prog X.w h' out qs) (hm:∀u,u∈out->u∈us) (hr:OM.wo qs) (hmem:∀p,p∈qs↔p∈ps):EP X pins σ Q (.ref D) {s with heap:=h',toks:=tk}:=by
 obtain⟨ws,r1,r2⟩:=rq I hv hp (λb o e=>k2 b o (k1 b o e)) hm hpq
 have I1:Inv X pins σ H {s with heap:=h1,toks:=tk}:=I.kept k1
 have hf:H D=none:=by rw[eD];exact I1.hok.fresh (Na _)
 have hz:ws.length<=sizeLine:=by
  have e1:=r1.length
  have e2:out.length=qs.length:=hpq.1
  have e3:=OM.Dw (OM.oE hr) λx hx=>(hmem x).mp hx
  rw[NV];omega
 have I2:Inv X pins σ (upd H D (.lst ws)) {s with heap:=h',toks:=tk}:=I1.laid (t':=tk) k2 (by rw[eD];exact Na _) (show cW X.prog X.w _ h' _ (.lst ws) from⟨hz,out,c,r1,ho⟩)
 exact⟨.ref D,_,I2,rfl,q D ws qs hf r2 hr hmem⟩
def vX:iJ X (.builtin "sorted") (zu X.K):=by
 intro pins s σ H xs us Q I r h
 obtain⟨a,vs,ps,rfl,hq,hp,hs,nd,hl,q⟩:=h
 obtain⟨u,rfl,rx⟩:=vals1 r
 cases rx
 obtain⟨its,rv,pl,hz⟩:=I.list hq
 have hpa:=pairs_at I rv hp hs
 have h64:its.length < 64:=by rw[hpa.1];exact hl
 refine L2.ST.AZ (v:=.ref a) hpa nd h64 (λQ' hQ'=>collect_list pl.isList ?_ (by rw[NV];omega)) λh1 h' tk D out qs c k1 eD k2 ho hpq hm hr hmem=>?_
 ·exact hQ' _ s.toks λb o e=>by
   rw[Heap.get?_update_ne _ _ _ _ (N0 (Nl e)),Heap.get?_push_ne _ _ _ (N0 (Nl e))];exact e
 ·exact xq I rv hp hl q k1 eD k2 ho hpq hm hr hmem
abbrev pq (qs:List (Addr×Pr)):List Pr:=qs.map (·.2)
end
def iB (cells:List (Str×Addr)):List (Str×NameKind)->List (Str×Addr)->List (Str×Addr)
 | [],cs=>cs
 | (n,k) :: r,cs=>iB cells r (if k == .free then (n,(cells.lookup n).getD 0) :: cs else cs)
def nj {scope:Scope}{env:Env}(h:∀y∈scope.names,y.2=.free->∃c,env.cells.lookup y.1=some c):closureFor scope env=pure (iB env.cells scope.names []):=by
 unfold closureFor
 have key:∀(l:List (Str×NameKind)) (cs:List (Str×Addr)),(∀y∈l,y.2=.free->∃c,env.cells.lookup y.1=some c)->
   (forIn l cs (λ(x:Str×NameKind) (r:List (Str×Addr))=>if (x.2 == NameKind.free)=true then (do let a <-cellOf env x.1;pure (ForInStep.yield ((x.1,a) :: r)):Sem _) else pure (ForInStep.yield r)):Sem (List (Str×Addr)))=pure (iB env.cells l cs):=by
  intro l
  induction l with
  |nil=>intro cs _;rfl
  |cons y l ih=>
   intro cs hy
   obtain⟨n,k⟩:=y
   rw[List.forIn_cons]
   unfold iB
   by_cases hk:(k == NameKind.free)=true
   ·have hk':k=.free:=by simpa using hk
    obtain⟨c,hc⟩:=hy (n,k) (Np ..) hk'
    have hce:cellOf env n=pure c:=by unfold cellOf;rw[hc]
    simp only[hk,Ol]
    have hc':env.cells.lookup n=some c:=hc
    rw[hce,hc']
    simp only[pure_bind,Option.getD_some]
    exact ih _ λz hz=>hy z (Nn _ hz)
   ·simp only[hk,Ov,Oc]
    simp only[pure_bind]
    exact ih _ λz hz=>hy z (Nn _ hz)
 have:=key scope.names [] h
 simp only[bind_pure_comp] at this ⊢
 first
  |exact this
  | (rw[this];rfl)
  | (simpa using this)
theorem mM {cells:List (Str×Addr)}{x:Str}:∀{l:List (Str×NameKind)} {cs:List (Str×Addr)},((x,NameKind.free)∈l\/cs.lookup x=some ((cells.lookup x).getD 0))->(iB cells l cs).lookup x=some ((cells.lookup x).getD 0)
 | [],cs,h=>by
  rcases h with h |h
  ·cases h
  ·exact h
 | (n,k) :: r,cs,h=>by
  unfold iB
  refine mM ?_
  by_cases hk:(k == NameKind.free)=true
  ·rw[Nc hk]
   by_cases hx:x=n
   ·subst hx;right;simp
   ·rcases h with h |h
    ·rcases Nh.mp h with e |e
     ·injection e with e1 _;exact absurd e1 hx
     ·exact .inl e
    ·right
     rw[lookup_cons,show (x == n)=false by simpa using hx]
     exact h
  ·rw[Nk hk]
   rcases h with h |h
   ·rcases Nh.mp h with e |e
    ·injection e with _ e2;exact absurd (by rw[<-e2];rfl) hk
    ·exact .inl e
   ·exact .inr h
theorem mH {cells:List (Str×Addr)}{x:Str}{c:Addr}:∀{l:List (Str×NameKind)} {cs:List (Str×Addr)},(iB cells l cs).lookup x=some c->((x,NameKind.free)∈l/\c=(cells.lookup x).getD 0)\/cs.lookup x=some c
 | [],cs,h=>.inr h
 | (n,k) :: r,cs,h=>by
  unfold iB at h
  rcases mH h with⟨a,b⟩ |a
  ·exact .inl ⟨Nn _ a,b⟩
  ·by_cases hk:(k == NameKind.free)=true
   ·rw[Nc hk,lookup_cons] at a
    by_cases hx:x=n
    ·subst hx
     simp at a
     have:k=.free:=by simpa using hk
     subst this
     exact .inl ⟨Np ..,a.symm⟩
    ·rw[show (x == n)=false by simpa using hx] at a
     exact .inr a
   ·rw[Nk hk] at a
    exact .inr a
theorem o9 {f:Str->NameKind->NameKind}{x:Str}:∀(l:List (Str×NameKind)),(l.map λy=>(y.1,f y.1 y.2)).lookup x=(l.lookup x).map (f x)
 | []=>rfl
 | (n,k) :: l=>by
  rw[OB,lookup_cons,lookup_cons]
  by_cases hx:x=n
  ·subst hx;simp
  ·have hb:(x == n)=false:=by simpa using hx
   simp only[hb]
   exact o9 l
def rb (scope:Scope)(env:Env)(x:Str):(relabel scope env).names.lookup x=(scope.names.lookup x).map λk=>if (k == .free && env.scope.kind == .function && env.kindOf x == some .cell) then .cell else k:=by
 have e:(relabel scope env).names=scope.names.map λy=>(y.1,if (y.2 == .free && env.scope.kind == .function && env.kindOf y.1 == some .cell) then .cell else y.2):=by
  unfold relabel
  dsimp only
  refine Oz λy _=>?_
  obtain⟨n,k⟩:=y
  dsimp only
  split <;> rfl
 rw[e]
 exact o9 (f:=λn k=>if (k == .free && env.scope.kind == .function && env.kindOf n == some .cell) then .cell else k) scope.names
theorem m8:∀(l:List (Str×NameKind)) (n:Nat) (acc:List (Str×Addr)),cellsFrom n l acc=cellsFrom n l [] ++ acc
 | [],_,_=>rfl
 | (x,k) :: r,n,acc=>by
  unfold cellsFrom
  split
  ·rw[m8 r (n + 1) ((x,n) :: acc),m8 r (n + 1) [(x,n)],OG];rfl
  ·exact m8 r n acc
theorem qQ:∀{l:List (Str×NameKind)} {n:Nat} {x:Str} {c:Addr},(x,c)∈cellsFrom n l []->n<=c/\(x,NameKind.cell)∈l
 | [],_,_,_,h=>by cases h
 | (y,k) :: r,n,x,c,h=>by
  unfold cellsFrom at h
  split at h
  ·rename_i hk
   have hk:k=.cell:=by simpa using hk
   rw[m8] at h
   rcases Nz.mp h with h |h
   ·have:=qQ h;exact⟨by omega,Nn _ this.2⟩
   ·rw[NG] at h;cases h;subst hk;exact⟨Na _,Np ..⟩
  ·have:=qQ h;exact⟨this.1,Nn _ this.2⟩
abbrev D7 (X:Cx)(scope:Scope)(C:Addr):List (Str×Addr):=cellsFrom (C + 1) scope.names (iB X.env.cells scope.names [])
def E8 {M:Model}{A:Around}{E:Value->Shared->Prop}{s:Shared}{scope:Scope}{g:Addr}{cl:List (Str×Addr)}{qual:Str}{env:Env}{Q:Env->Shared->Prop}
  (h:∀h',h'.Ns s.heap.objs.size (λ_=>none)->(∀b o,s.heap.get? b=some o->h'.get? b=some o)->CellsOk h' (s.heap.objs.size + 1) (cellsFrom (s.heap.objs.size + 1) scope.names [])->Q (newEnv scope s.heap.objs.size g (cellsFrom (s.heap.objs.size + 1) scope.names cl) qual none .none (some env) builtinsNs) {s with heap:=h'}) :
  wpAny M A (newFunctionEnv scope g cl [] qual none .none (some env)) Q E s:=by
 simp only[newFunctionEnv,Option.isSome_some,Ol]
 refine Nf (wpAny_alloc ?_)
 refine Nf (wpAny_layCells _ (λname kind cells=>by cases hkc:kind == NameKind.cell <;> simp[hkc]) _ _ _ _ ?_)
 have ok:=cellsFrom_ok scope.names (s.heap.push {cls:=.type "dict",data:=.dict #[]}) (s.heap.objs.size + 1) [] ⟨λ_ _ hm=>(nomatch hm),List.Pairwise.nil⟩ (by rw[OS];exact Na _)
 rw[OS] at ok
 rw[show ({s with heap:=s.heap.push {cls:=.type "dict",data:=.dict #[]}}:Shared).heap.objs.size=s.heap.objs.size + 1 from OS ..]
 rw[List.forIn_nil]
 exact Nf (NJ (NJ (h _ ((Heap.Ns.new s.heap (.type "dict")).keeps (pushCells_keeps _ _)) (λb o e=>pushCells_keeps _ _ b o (Nd _ e)) ok)))
def jK (X:Cx)(NB:List Str)(scope:Scope)(C:Addr)(ex:List Addr)(s3:Shared)(H3:Hp)(pn:List (Addr×Obj)):Cx:=
 {X with N:=NB,s₀:=s3,H₀:=H3,env:=compEnvC scope (D7 X scope C) C X.env,outer:=X.stack,ex:=ex,fn:=λx=>scope.names.lookup x == some .cell,pn:=pn,xe:=λ_ _=>False}
def dQ (own:Nat)(ixs:List Nat)(σ:St):St:=List.replicate own none ++ ixs.map λi=>(σ[i]?).join
structure cf (X:Cx)(NB:List Str)(own:Nat)(ixs:List Nat)(scope:Scope):Prop where
 kind:scope.kind=.function
 names:∀y∈scope.names,scope.names.lookup y.1=some y.2
 frees:∀y∈scope.names,y.2=.free->X.env.kindOf y.1=some .cell\/X.env.kindOf y.1=some .free
 nd:NB.Nodup
 len:NB.length=own + ixs.length
 at':∀k,k < ixs.length->NB[own + k]? =X.N[ixs.getD k 0]?/\∀x,NB[own + k]? =some x->(x,NameKind.free)∈scope.names
section
variable {X:Cx}{NB:List Str}{own:Nat}{ixs:List Nat}{scope:Scope}{pins:List (Addr×Obj)}{σ:St}{H:Hp}{s:Shared}
def zZ (S:cf X NB own ixs scope)(I:Inv X pins σ H s){fp:List Addr}(hfp:∀b∈fp,kz X pins H b)(hob:∀b∈fp,∃o,s.heap.get? b=some o){h1:Heap}{tk:Nat}
  (hn:h1.Ns s.heap.objs.size (λ_=>none)) (hk:∀b o,s.heap.get? b=some o->h1.get? b=some o) (hcl:CellsOk h1 (s.heap.objs.size + 1) (cellsFrom (s.heap.objs.size + 1) scope.names [])) :
  Inv (jK X NB scope s.heap.objs.size fp s H (X.pn ++ pins)) [] (dQ own ixs σ) H {s with heap:=h1,toks:=tk}:=by
 have stk:=I.stack
 have frees:∀{x:Str},(x,NameKind.free)∈scope.names->∃c,X.env.cells.lookup x=some c:=λ{x} hx=>I.ok.has x (S.frees _ hx rfl)
 have clE:∀{x:Str} {c:Addr},(D7 X scope s.heap.objs.size).lookup x=some c->((x,c)∈cellsFrom (s.heap.objs.size + 1) scope.names []/\s.heap.objs.size < c)\/((x,NameKind.free)∈scope.names/\X.env.cells.lookup x=some c):=λ{x c} h=>by
  unfold D7 at h
  rw[m8,List.lookup_append] at h
  cases q:(cellsFrom (s.heap.objs.size + 1) scope.names []).lookup x with
  |some c'=>
   rw[q] at h
   cases h
   have hm:=N6 q
   exact .inl ⟨hm,(qQ hm).1⟩
  |none=>
   rw[q] at h
   have h:(iB X.env.cells scope.names []).lookup x=some c:=h
   rcases mH h with⟨a,b⟩ |a
   ·obtain⟨c',e⟩:=frees a
    rw[e] at b
    exact .inr ⟨a,by rw[e,b];rfl⟩
   ·simp at a
 have clF:∀{x:Str},(x,NameKind.free)∈scope.names->(D7 X scope s.heap.objs.size).lookup x=some ((X.env.cells.lookup x).getD 0):=λ{x} hm=>by
  unfold D7
  rw[m8,List.lookup_append]
  cases q:(cellsFrom (s.heap.objs.size + 1) scope.names []).lookup x with
  |some c'=>
   have h1:=S.names _ (qQ (N6 q)).2
   have h2:=S.names _ hm
   dsimp only at h1 h2
   rw[h1] at h2
   cases h2
  |none=>exact mM (.inl hm)
 have kindB:∀x,(jK X NB scope s.heap.objs.size fp s H (X.pn ++ pins)).env.kindOf x=(scope.names.lookup x).map λk=>if (k == .free && X.env.scope.kind == .function && X.env.kindOf x == some .cell) then .cell else k:=λx=>rb scope X.env x
 have isFree:∀{x:Str},((jK X NB scope s.heap.objs.size fp s H (X.pn ++ pins)).env.kindOf x=some .cell\/(jK X NB scope s.heap.objs.size fp s H (X.pn ++ pins)).env.kindOf x=some .free)->(x,NameKind.free)∈scope.names\/scope.names.lookup x=some .cell:=λ{x} h=>by
  rw[kindB] at h
  cases e:scope.names.lookup x with
  |none=>rw[e] at h;simp at h
  |some k=>
   have hm:=N6 e
   cases k with
   |free=>exact .inl hm
   |cell=>exact .inr rfl
   |_=>rw[e] at h;simp at h
 have neN:∀b o,s.heap.get? b=some o->b≠s.heap.objs.size:=λb o e=>N0 (Nl e)
 have cellN:∀{x:Str} {c:Addr},X.env.cells.lookup x=some c->c < s.heap.objs.size:=λ{x c} e=>by
  obtain⟨v,o,ho,_⟩:=I.cell x c e
  exact Nl ho
 have ok:(jK X NB scope s.heap.objs.size fp s H (X.pn ++ pins)).Ok:=by
  refine⟨I.ok.mod,S.kind,I.ok.glob,I.ok.blt,Na _,λx y c h1 h2=>?_,λx hx=>?_,λx c h hc=>?_,I.ok.hd,I.ok.frames,.inl rfl,λb hb=>?_,I.bs,N8 I.ok.bsz I.sz,λb o e hb=>?_,λb hb hs=>?_,stk,I.stkFree⟩
  ·rcases clE h1 with⟨a,l1⟩ | ⟨a,l1⟩
   ·rcases clE h2 with⟨b,l2⟩ | ⟨b,l2⟩
    ·exact name_of_addr hcl.apart a b
    ·exact absurd (Pg l1 (cellN l2)) (NL _)
   ·rcases clE h2 with⟨b,l2⟩ | ⟨b,l2⟩
    ·exact absurd (Pg l2 (cellN l1)) (NL _)
    ·exact I.ok.inj x y c l1 l2
  ·rcases isFree hx with hm |hm
   ·exact⟨_,clF hm⟩
   ·obtain⟨c,hc⟩:=Option.isSome_iff_exists.mp (PySem.W.cellsFrom_some scope.names (s.heap.objs.size + 1) (iB X.env.cells scope.names []) (.inl hm))
    exact⟨c,hc⟩
  ·rcases clE hc with⟨a,l1⟩ | ⟨a,l1⟩
   ·exact O1 l1
   ·have h1:=S.names _ a
    dsimp only at h1
    have h:(scope.names.lookup x == some NameKind.cell)=true:=h
    rw[h1] at h
    cases h
  ·obtain⟨_,f1,f2,f3,f4,f5⟩:=hfp b hb
   obtain⟨o,ho⟩:=hob b hb
   refine⟨neN b o ho,λx c h z=>?_⟩
   rcases clE h with⟨a,l1⟩ | ⟨a,l1⟩
   ·rw[z] at l1
    exact NL _ (Pg l1 (Nl ho))
   ·exact f4 x c l1 z
  ·obtain⟨_,f1,f2,f3,f4,f5⟩:=hfp b hb
   rcases f3 with f3 |f3
   ·exact I.ok.noex b o e f3
   ·exact absurd (NM (Nl e) (N8 I.ok.bsz f3)) (NL _)
  ·obtain⟨_,f1,f2,f3,f4,f5⟩:=hfp b hb
   rcases Nh.mp (I.stkSub b hs) with z |z
   ·exact f1 z
   ·exact f2 z
 refine⟨ok,rfl,I.bare,Un.kept hk,⟨_,hn,λi x v h1' h2' h3'=>?_⟩,λx c h=>?_,I.hok.fresh (Na _),λx c h=>?_,λp hp=>?_,I.hok.kept hk,?_⟩
 ·
  have h1':NB[i]? =some x:=h1'
  have hown:own<=i:=by
   refine Classical.byContradiction λhc=>?_
   have hlt:i < own:=Nat.lt_of_not_le hc
   unfold dQ at h2'
   rw[NI (by simpa using hlt),Oe,Nc hlt] at h2'
   cases h2'
  obtain⟨k,rfl⟩:∃k,i=own + k:=⟨i - own,by omega⟩
  have hk':k < ixs.length:=by
   have:=(Ng.mp h1').1
   rw[S.len] at this;omega
  obtain⟨e1,e2⟩:=S.at' k hk'
  have hm:=e2 x h1'
  unfold dQ at h2'
  rw[NO (by simp),NX,Nat.add_sub_cancel_left,Nm,M9 hk'] at h2'
  simp only[Option.map_some,Option.some.injEq] at h2'
  have hix:ixs.getD k 0=ixs[k]:=by simp[hk']
  have hσ:σ[ixs[k]]? =some (some v):=by
   cases e:σ[ixs[k]]? with
   |none=>rw[e] at h2';cases h2'
   |some o=>rw[e] at h2';simp at h2';rw[h2']
  rw[e1,hix] at h1'
  have hkind:=S.frees _ hm rfl
  have hvis:y7 X.env.scope x:=hkind.elim (λz=>.inr (.inl z)) (λz=>.inr (.inr z))
  obtain⟨m,hm',hl⟩:=I.loc
  obtain⟨u,r,look⟩:=hl _ x v h1' hσ hvis
  refine⟨u,r,.inr ⟨?_,?_⟩⟩
  ·rw[kindB]
   have hfr:scope.names.lookup x=some .free:=S.names _ hm
   rw[hfr]
   simp only[Option.map_some]
   split
   ·exact .inl rfl
   ·exact .inr rfl
  ·rcases look with⟨z,_⟩ | ⟨_,c,hc,hcell⟩
   ·rcases hkind with q |q
    ·rw[q] at z;cases z
    ·rw[q] at z;cases z
   ·refine⟨c,?_,?_⟩
    ·have:=clF hm
     rw[hc] at this
     exact this
    ·obtain⟨o,ho,hd⟩:=hcell
     exact⟨o,hk _ _ ho,hd⟩
 ·rcases clE h with⟨a,_⟩ | ⟨_,l1⟩
  ·exact⟨_,(hcl.empty _ _ a).1⟩
  ·obtain⟨v,o,ho,hd⟩:=I.cell x c l1
   exact⟨v,o,hk _ _ ho,hd⟩
 ·rcases clE h with⟨_,l1⟩ | ⟨_,l1⟩
  ·exact I.hok.fresh (O1 l1)
  ·exact I.freeC x c l1
 ·have hp':p∈X.pn ++ pins:=by
   rcases Nz.mp hp with z |z
   ·exact z
   ·cases z
  obtain⟨e,n,ne,nf,d⟩:=I.pin p hp'
  refine⟨hk _ _ e,n,neN _ _ e,λz=>?_,d⟩
  rcases Nh.mp (I.stkSub _ z) with q |q
  ·exact ne q
  ·exact nf q
 ·show (dQ own ixs σ).length=NB.length
  unfold dQ
  rw[S.len];simp
end
abbrev zq (ifs:List Expr)(env:Env):Sem Bool:=forIn ifs true λc r=>if r=true then do let ok <-isTrue c env (eval c env);pure (ForInStep.yield ok) else pure (ForInStep.yield r)
theorem A7 {prog:Program}{w:World}{A:Around}{R:Result->Shared->Prop}{s:Shared}{elt target iter:Expr}{ifs:List Expr}{scope:Scope}{pos:Pos}{it acc:Value}{env:Env}(I:Nat->Shared->Prop)
  (turn:∀n s,I n s->wpAny (model prog w) A (pyNext it) (λr s1=>match r with
   |none=>R (.ok .next) s1
   |some v=>wpAny (model prog w) A (letOwnedTupleGo target it v) (λ_ s1'=>wpAny (model prog w) A (assign target env v) (λ_ s2=>
     wpAny (model prog w) A (zq ifs env) (λok s3=>
      if ok=true then wpAny (model prog w) A (eval elt env) (λx s4=>wpAny (model prog w) A (call (.builtin "list.append") [acc,x]) (λ_ s5=>∃m,m < n/\I m s5) (λ_ _=>False) s4) (λ_ _=>False) s3
      else ∃m,m < n/\I m s3) (λ_ _=>False) s2) (λ_ _=>False) s1') (λ_ _=>False) s1) (λ_ _=>False) s)
  (n:Nat) (h:I n s):codeAny (model prog w) A (.compLoop (.ListComp elt [⟨target,iter,ifs,0⟩] scope pos) 0 it acc env) R s:=by
 refine codeAny_loop rfl I (λn s hI=>?_) n h
 (show wpAny _ A ((compTurn (.ListComp elt [⟨target,iter,ifs,0⟩] scope pos) 0 it acc env).onRaise (λx=>do (noteFrame x env);theTreesLotGoes x)) _ _ s)
 refine wpAny_noted ?_
 rw[compTurn_list]
 refine Nf (wpAny_standAt (Nf (Of (turn n s hI) (λr s1 h1=>?_) λ_ _ z=>z.elim)))
 cases r with
 |none=>exact NJ h1
 |some v=>
  refine Nf (Of h1 (λ_ s1' h1'=>?_) λ_ _ z=>z.elim)
  refine Nf (Of h1' (λ_ s2 h2=>Nf (Of h2 (λok s3 h3=>?_) λ_ _ z=>z.elim)) λ_ _ z=>z.elim)
  cases ok with
  |false=>exact NJ ⟨rfl,h3⟩
  |true=>exact Nf (Nf (Of h3 (λx s4 h4=>Nf (Of h4 (λ_ s5 h5=>NJ (NJ ⟨rfl,h5⟩)) λ_ _ z=>z.elim)) λ_ _ z=>z.elim))
def Dg (X:Cx)(ifs:List Expr)(t:TT):Prop:=
 ∀(pins:List (Addr×Obj)) (s:Shared) (σ:St) (H:Hp) (Q:Bool->Hp->Prop),Inv X pins σ H s->t σ H Q->wpAny (model X.prog X.w) X.A (zq ifs X.env) (TP X pins σ Q) X.xe s
def II:TT:=λ_ H Q=>Q true H
def uS {X:Cx}:Dg X [] II:=λpins s σ H Q I h=>NJ ⟨H,I,h⟩
def yQ {X:Cx}{c:Expr}{t:TT}(h:PT X c t):Dg X [c] t:=λpins s σ H Q I q=>wpAny_tests_one (h pins s σ H Q I q)
def yA (own:Nat)(ixs:List Nat)(wi:TI)(g:TG)(tt:TT)(te:TE)(σ:St)(H:Hp)(Q:VK):Prop:=wi σ H λJ H1=>∀D,H1 D=none->∃W:Nat->Nat->St->Hp->Prop,(∃m,W 0 m (dQ own ixs σ) (upd H1 D (.lst [])))/\∀i m σ' H',W i m σ' H'->
 (J.stop i H'/\(∃acc,H' D=some (.lst acc))/\Q (.ref D) H')\/
 (J.go i H'/\∃N:St->Hp->Prop,(∀σ2 H2,N σ2 H2->∃m',m' < m/\W (i + 1) m' σ2 H2)/\∀x H2,J.yld i H' x H2->g x σ' H2 λσ3 H3=>tt σ3 H3 λb H4=>
  if b=true then te σ3 H4 λv H5=>∃acc,H5 D=some (.lst acc)/\acc.length < sizeLine/\N σ3 (upd H5 D (.lst (acc ++ [v]))) else N σ3 H4)
section
variable {X:Cx}{NB:List Str}{own:Nat}{ixs:List Nat}{scope:Scope}{elt tg iter:Expr}{ifs:List Expr}{pos:Pos}{wi:TI}{g:TG}{tt:TT}{te:TE}
def tR (hc:X.calm=true)(S:cf X NB own ixs scope)
  (hg:∀C ex s3 H3 pn,PG (jK X NB scope C ex s3 H3 pn) tg g) (ht:∀C ex s3 H3 pn,Dg (jK X NB scope C ex s3 H3 pn) ifs tt) (he:∀C ex s3 H3 pn,PE (jK X NB scope C ex s3 H3 pn) elt te)
  {pins:List (Addr×Obj)} {σ:St} {H1:Hp} {s2:Shared} {it:Addr} {fp:List Addr} {tn:Nat->Heap->Prop} {J:It} {Q:VK} (I2:Inv X pins σ H1 s2) (T:Turn X.prog X.w X.K tg J fp it tn) (st2:tn 0 s2.heap) (f2:∀b∈fp,kz X pins H1 b)
  (hQ:∀D,H1 D=none->∃W:Nat->Nat->St->Hp->Prop,(∃m,W 0 m (dQ own ixs σ) (upd H1 D (.lst [])))/\∀i m σ' H',W i m σ' H'->
   (J.stop i H'/\(∃acc,H' D=some (.lst acc))/\Q (.ref D) H')\/
   (J.go i H'/\∃N:St->Hp->Prop,(∀σ2 H2,N σ2 H2->∃m',m' < m/\W (i + 1) m' σ2 H2)/\∀x H2,J.yld i H' x H2->g x σ' H2 λσ3 H3=>tt σ3 H3 λb H4=>
    if b=true then te σ3 H4 λv H5=>∃acc,H5 D=some (.lst acc)/\acc.length < sizeLine/\N σ3 (upd H5 D (.lst (acc ++ [v]))) else N σ3 H4))
  {E:Value->Shared->Prop} {RR:Value->Addr->Result->Shared->Prop}
  (fin:∀D C H' s' m,Inv X pins σ H' s'->Q (.ref D) H'->s'.heap.Ns C m->H' C=none->C≠X.env.locals->(∀x c,X.env.cells.lookup x=some c->c≠C)->X.s₀.heap.objs.size<=C->(∀p∈X.pn ++ pins,p.1≠C)->RR (.ref D) C (.ok .next) s') :
  wpAny (model X.prog X.w) X.A (newList []) (λacc s3=>wpAny (model X.prog X.w) X.A (newFunctionEnv scope X.env.globals (iB X.env.cells scope.names []) [] X.env.qual none .none (some X.env)) (λcenv s4=>
   codeAny (model X.prog X.w) X.A (.compStart (.ListComp elt [⟨tg,iter,ifs,0⟩] scope pos) 0 (.ref it) acc {cenv with scope:=relabel scope X.env}) (RR acc cenv.locals) s4) E s3) E s2:=by
 refine wpAny_newList ?_ (N3 _)
 have hD:H1 s2.heap.objs.size=none:=I2.hok.fresh (Na _)
 obtain⟨W,⟨m0,w0⟩,turn⟩:=hQ s2.heap.objs.size hD
 generalize hs3:({s2 with heap:=s2.heap.push (seqObj "list" ([]:List Value).toArray 0)}:Shared)=s3
 have I3:Inv X pins σ (upd H1 s2.heap.objs.size (.lst [])) s3:=by
  rw[<-hs3]
  exact I2.lnew (ys:=[]) (its:=[]) (t':=s2.toks) .nil (N3 _)
 have k3:∀b o,s2.heap.get? b=some o->s3.heap.get? b=some o:=λb o e=>by rw[<-hs3];exact Nd _ e
 have sz3:s3.heap.objs.size=s2.heap.objs.size + 1:=by rw[<-hs3];exact OS ..
 have ob2:∀b∈fp,∃o,s2.heap.get? b=some o:=λb hb=>let ⟨o,e,_⟩:=T.obj 0 _ st2 b hb;⟨o,e⟩
 have neD:∀b∈fp,b≠s2.heap.objs.size:=λb hb=>let ⟨o,e⟩:=ob2 b hb;N0 (Nl e)
 have f3:∀b∈fp,kz X pins (upd H1 s2.heap.objs.size (.lst [])) b:=λb hb=>by
  obtain⟨a1,a2⟩:=f2 b hb
  exact⟨by rw[aB (neD b hb)];exact a1,a2⟩
 have st3:tn 0 s3.heap:=T.keep _ _ _ st2 λb _ o e=>k3 b o e
 refine E8 λh4 hn4 k4 ok4=>?_
 have I4:Inv (jK X NB scope s3.heap.objs.size fp s3 (upd H1 s2.heap.objs.size (.lst [])) (X.pn ++ pins)) [] (dQ own ixs σ) (upd H1 s2.heap.objs.size (.lst [])) {s3 with heap:=h4}:=
  zZ S I3 f3 (λb hb=>let ⟨o,e⟩:=ob2 b hb;⟨o,k3 _ _ e⟩) hn4 k4 ok4
 have st4:tn 0 h4:=T.keep _ _ _ st3 λb _ o e=>k4 b o e
 generalize hB:jK X NB scope s3.heap.objs.size fp s3 (upd H1 s2.heap.objs.size (.lst [])) (X.pn ++ pins)=B at I4
 have hgB:PG B tg g:=by rw[<-hB];exact hg _ _ _ _ _
 have htB:Dg B ifs tt:=by rw[<-hB];exact ht _ _ _ _ _
 have heB:PE B elt te:=by rw[<-hB];exact he _ _ _ _ _
 have eP:B.prog=X.prog:=by rw[<-hB];rfl
 have eW:B.w=X.w:=by rw[<-hB];rfl
 have eK:B.K=X.K:=by rw[<-hB];rfl
 have eA:B.A=X.A:=by rw[<-hB];rfl
 have eC:B.calm=true:=by rw[<-hB];exact hc
 have eX:B.xe=λ_ _=>False:=by rw[<-hB];rfl
 have eE:B.env=compEnvC scope (D7 X scope s3.heap.objs.size) s3.heap.objs.size X.env:=by rw[<-hB];rfl
 have ex:B.ex=fp:=by rw[<-hB];rfl
 have eL:B.env.locals=s3.heap.objs.size:=by rw[eE];rfl
 have stat:∀{H':Hp},(∀b∈fp,H' b=none)->∀b∈fp,kz B [] H' b:=λ{H'} hn b hb=>by
  obtain⟨a1,a2,a3,a4,a5,a6⟩:=f3 b hb
  obtain⟨o,eo⟩:=ob2 b hb
  refine⟨hn b hb,?_,λz=>?_,.inl (by rw[ex];exact hb),λx c e z=>?_,λp hp z=>?_⟩
  ·rw[eL];exact N0 (Nl (k3 _ _ eo))
  ·have hz:b∈nC X.stack:=by rw[<-hB] at z;exact z
   rcases Nh.mp (I3.stkSub b hz) with q |q
   ·exact a2 q
   ·exact a3 q
  ·rw[eE] at e
   have e:(D7 X scope s3.heap.objs.size).lookup x=some c:=e
   unfold D7 at e
   rw[m8,List.lookup_append] at e
   cases q:(cellsFrom (s3.heap.objs.size + 1) scope.names []).lookup x with
   |some c'=>
    rw[q] at e
    cases e
    have l1:=(qQ (N6 q)).1
    rw[z] at l1
    exact NL _ (Pg l1 (Nl (k3 _ _ eo)))
   |none=>
    rw[q] at e
    have e:(iB X.env.cells scope.names []).lookup x=some c:=e
    rcases mH e with⟨m1,m2⟩ |m1
    ·obtain⟨c',e'⟩:=I3.ok.has x (S.frees _ m1 rfl)
     rw[e'] at m2
     exact a5 x c' e' (by rw[<-z,m2];rfl)
    ·simp at m1
  ·have hp':p∈X.pn ++ pins:=by
    rw[<-hB] at hp
    rcases Nz.mp hp with q |q
    ·exact q
    ·cases q
   exact a6 p hp' z
 have back:∀{σ':St} {H':Hp} {s':Shared},Inv B [] σ' H' s'->Inv X pins σ H' s':=λ{σ' H' s'} J'=>by
  have u:=J'.base
  have os:=J'.os
  have bare:=J'.bare
  have hok:=J'.hok
  subst hB
  exact I3.call' (ch:=fp) os u hok bare λb hb=>by
   obtain⟨a1,a2,a3,a4,a5,a6⟩:=f3 b hb
   exact⟨a4,a2,a5,a6⟩
 have loop:∀s5:Shared,s5={s3 with heap:=h4}->
   codeAny (model X.prog X.w) X.A (.compLoop (.ListComp elt [⟨tg,iter,ifs,0⟩] scope pos) 0 (.ref it) (.ref s2.heap.objs.size) (compEnvC scope (D7 X scope s3.heap.objs.size) s3.heap.objs.size X.env)) (RR (.ref s2.heap.objs.size) s3.heap.objs.size) s5:=by
  rintro s5 rfl
  refine A7 (λn s'=>∃i σ' H',Inv B [] σ' H' s'/\tn i s'.heap/\(∀b∈fp,H' b=none)/\W i n σ' H') ?_ m0 ⟨0,_,_,I4,st4,λb hb=>(f3 b hb).1,w0⟩
  rintro n s6 ⟨i,σ6,H6,I6,st6,fr6,w6⟩
  rcases turn i n σ6 H6 w6 with⟨stop,⟨acc,hacc⟩,qn⟩ | ⟨go,N,hN,step⟩
  ·have:=T.done B eP eW eK eC i [] s6 σ6 H6 (λ_ _=>False) I6 (stat fr6) st6 stop
   rw[eA] at this
   refine cK this λr s7 ⟨hr,I7⟩=>?_
   subst hr
   obtain⟨m7,hn7,_⟩:=I7.loc
   rw[eL] at hn7
   have J7:=back I7
   refine fin _ _ H6 s7 m7 J7 qn hn7 (by rw[<-eL];exact I7.free) (λz=>?_) (λx c e z=>?_) ?_ λp hp z=>?_
   ·have:=I3.lt
    rw[<-z] at this
    exact NL _ this
   ·obtain⟨v,o,ho,_⟩:=I3.cell x c e
    exact absurd (Nl ho) (by rw[z];exact NL _)
   ·exact I3.sz
   ·have:=Nl (I3.pin p hp).1
    rw[z] at this
    exact NL _ this
  ·have hitem:=T.item B eP eW eK eC i [] s6 σ6 H6 (λ_ _=>False) I6 (stat fr6) st6 go
   rw[eA] at hitem
   refine cK hitem λr s7 ⟨u,hr,h7⟩=>?_
   subst hr
   refine cK h7 λ_ s8 ⟨x,H8,I8,r8,y8,st8,fr8⟩=>?_
   have I8':=I8.pinned (stat fr8) (T.obj _ _ st8)
   have ha:=hgB _ s8 σ6 H8 x u _ I8' r8 (step x H8 y8)
   rw[eP,eW,eA,eE,eX] at ha
   refine cK ha λ_ s9 ⟨σ9,H9,I9,q9⟩=>?_
   have hb:=htB _ s9 σ9 H9 _ I9 q9
   rw[eP,eW,eA,eE,eX] at hb
   refine cK hb λok s10 ⟨H10,I10,q10⟩=>?_
   have again:∀{σ7:St} {H7:Hp} {s7:Shared},Inv B ([] ++ rJ fp s8.heap) σ7 H7 s7->N σ7 H7->∃m,m < n/\∃i σ' H',Inv B [] σ' H' s7/\tn i s7.heap/\(∀b∈fp,H' b=none)/\W i m σ' H':=λ{σ7 H7 s7} I7 n7=>by
    obtain⟨m',hm,w7⟩:=hN σ7 H7 n7
    refine⟨m',hm,i + 1,σ7,H7,I7.unpinned,T.keep _ _ _ st8 λb hb o e=>(I7.pin (b,o) (NH _ (NH _ (kS hb e)))).1,λb hb=>?_,w7⟩
    obtain⟨o,e,d⟩:=T.obj _ _ st8 b hb
    exact (I7.pin (b,o) (NH _ (NH _ (kS hb e)))).2.1
   cases ok with
   |false=>
    simp only[Oc,Ov] at q10 ⊢
    exact again I10 q10
   |true=>
    simp only[Ol] at q10 ⊢
    have hv:=heB _ s10 σ9 H10 _ I10 q10
    rw[eP,eW,eA,eE,eX] at hv
    refine cK hv λy s11 ⟨v,H11,I11,r11,acc,hacc,hz,q11⟩=>?_
    have hap:=oC (X:=B) _ s11 σ9 H11 (.ref s2.heap.objs.size) [v] (.ref s2.heap.objs.size) [y] (λz H'=>z=.non/\N σ9 H') I11 rfl (.cons r11 .nil) ⟨_,acc,v,rfl,rfl,hacc,hz,rfl,q11⟩
    rw[eP,eW,eA,eX] at hap
    exact cK hap λ_ s12 ⟨_,H12,I12,_,_,q12⟩=>again I12 q12
 exact codeAny_compStart_list (loop _ rfl) (T.self X.A 0 _ _ _ st4 (loop _ rfl))
def wR (hc:X.calm=true)(S:cf X NB own ixs scope)(hi:PI X tg iter wi)
  (hg:∀C ex s3 H3 pn,PG (jK X NB scope C ex s3 H3 pn) tg g) (ht:∀C ex s3 H3 pn,Dg (jK X NB scope C ex s3 H3 pn) ifs tt) (he:∀C ex s3 H3 pn,PE (jK X NB scope C ex s3 H3 pn) elt te)
  (hs:∀x,foldedSetIterable iter X.env x=pure x:=by intro _;rfl) :
  PE X (.ListComp elt [⟨tg,iter,ifs,0⟩] scope pos) (yA own ixs wi g tt te):=by
 intro pins s σ H Q I h
 rw[eval_ListComp]
 refine wpAny_comprehension_free (use:=none) rfl hs (nj λy hy e=>I.ok.has _ (S.frees y hy e)) S.kind (λy hy e=>by rw[S.names y hy,e]) ?_
 refine cK (hi pins s σ H _ I h) λv s1 h1=>cK h1 λitv s2 h2=>?_
 obtain⟨it,fp,tn,J,H2,e,I2,T,st2,f2,q2⟩:=h2
 subst e
 refine tR hc S hg ht he I2 T st2 f2 q2 (RR:=λacc C=>compPost (model X.prog X.w) X.A X.xe none (EP X pins σ Q) acc C) λD C H' s' m J' q hn hC n1 n2 n3 n4=>?_
 refine⟨m,hn,λh'' sb=>⟨.ref D,H',?_,rfl,q⟩⟩
 exact J'.turned (t':=s'.toks) (it:=C) (λb o hb e=>sb.extBut b o hb e) hC n1 (.inr n3) n2 n4
def Cc {i:Nat}{y:Str}{py spos:Pos}(hc:X.calm=true)(S:cf X NB own ixs scope)(hi:PI X tg iter wi)
  (hg:∀C ex s3 H3 pn,PG (jK X NB scope C ex s3 H3 pn) tg g) (ht:∀C ex s3 H3 pn,Dg (jK X NB scope C ex s3 H3 pn) ifs tt) (he:∀C ex s3 H3 pn,PE (jK X NB scope C ex s3 H3 pn) elt te)
  (hN:X.N.Nodup) (hy:X.N[i]? =some y) (hl:X.env.scope.names.lookup y=some .local)
  (hsw:swapsWith (.ListComp elt [⟨tg,iter,ifs,0⟩] scope pos) (some (.Name y py)) spos.line X.env=pure true)
  (hs:∀x,foldedSetIterable iter X.env x=pure x:=by intro _;rfl) :
  PS X (.Assign [.Name y py] (.ListComp elt [⟨tg,iter,ifs,0⟩] scope pos) spos) (λD σ H=>yA own ixs wi g tt te σ H λv H'=>D.nx (σ.set i (some v)) H'):=by
 intro pins s σ H D I h
 rw[exec_Assign_Name_used _ _ _ _ hsw]
 refine Nf (wpAny_standAt (Nf ?_))
 show wpAny _ X.A (comprehension (.ListComp elt [⟨tg,iter,ifs,0⟩] scope pos) scope X.env _ (newList []) false (eval iter X.env) (some (assign (.Name y py) X.env)) >>= λ_=>pure ()) _ _ s
 refine Nf (Of (wpAny_comprehension_free (use:=some (assign (.Name y py) X.env)) (Q:=λ_ s'=>SP X pins D .next s') rfl hs (nj λy hy e=>I.ok.has _ (S.frees y hy e)) S.kind (λy hy e=>by rw[S.names y hy,e]) ?_)
  (λ_ s' hq=>NJ (NJ hq)) λ_ _ e=>e)
 refine cK (hi pins s σ H _ I h) λv s1 h1=>cK h1 λitv s2 h2=>?_
 obtain⟨it,fp,tn,J,H2,e,I2,T,st2,f2,q2⟩:=h2
 subst e
 refine tR hc S hg ht he I2 T st2 f2 q2 (Q:=λv H'=>D.nx (σ.set i (some v)) H') (RR:=λacc C=>compPost (model X.prog X.w) X.A X.xe (some (assign (.Name y py) X.env)) (λ_ s'=>SP X pins D .next s') acc C) λD' C H' s' m J' q hn hC n1 n2 n3 n4=>?_
 show wpAny _ X.A (assign (.Name y py) X.env (.ref D')) _ _ s'
 refine wpAny_assign_Name (tL J' hN hy (.inl hl) (v:=.ref D') rfl (λs'' I'' ⟨a,sb,ha⟩=>?_) (.inr hl))
 have hCa:C≠a:=by
  rcases ha with z |z
  ·rw[z];exact n1
  ·exact (n2 _ _ z).symm
 refine⟨m,hn.sameBut sb hCa,λh3 sb3=>⟨_,H',?_,q⟩⟩
 exact I''.turned (t':=s''.toks) (it:=C) (λb o hb e=>sb3.extBut b o hb e) hC n1 (.inr n3) n2 n4
end
section
variable {own:Nat}{ixs:List Nat}{g:TG}{tt:TT}{te:TE}{σ:St}{H:Hp}{Q:VK}{K:Frag}{D a:Addr}{xs:List V}
abbrev gi (g:TG)(tt:TT)(te:TE)(D:Addr)(x:V)(σ:St)(H:Hp)(N:St->Hp->Prop):Prop:=g x σ H λσ3 H3=>tt σ3 H3 λb H4=>
  if b=true then te σ3 H4 λv H5=>∃acc,H5 D=some (.lst acc)/\acc.length < sizeLine/\N σ3 (upd H5 D (.lst (acc ++ [v]))) else N σ3 H4
def AE (Pv:Nat->St->Hp->Prop)(h0:Pv 0 (dQ own ixs σ) (upd H D (.lst [])))(hl:∀i σ H,i<=xs.length->Pv i σ H->iM K H a xs)
  (hs:∀i x σ H,xs[i]? =some x->Pv i σ H->gi g tt te D x σ H (Pv (i + 1))) (hd:∀σ H,Pv xs.length σ H->(∃acc,H D=some (.lst acc))/\Q (.ref D) H) :
  ∃W:Nat->Nat->St->Hp->Prop,(∃m,W 0 m (dQ own ixs σ) (upd H D (.lst [])))/\∀i m σ' H',W i m σ' H'->
   ((Ba K a).stop i H'/\(∃acc,H' D=some (.lst acc))/\Q (.ref D) H')\/
   ((Ba K a).go i H'/\∃N:St->Hp->Prop,(∀σ2 H2,N σ2 H2->∃m',m' < m/\W (i + 1) m' σ2 H2)/\∀x H2,(Ba K a).yld i H' x H2->gi g tt te D x σ' H2 N):=by
 refine⟨λi m σ H=>m=xs.length - i/\i<=xs.length/\Pv i σ H,⟨xs.length,by simp,N3 _,h0⟩,?_⟩
 rintro i m σ H ⟨rfl,hi,p⟩
 have q:=hl i σ H hi p
 by_cases hlt:i < xs.length
 ·refine .inr ⟨⟨xs,xs[i],q,by simp[hlt]⟩,Pv (i + 1),λσ' H' p'=>⟨xs.length - (i + 1),by omega,rfl,hlt,p'⟩,λx H' y=>?_⟩
  obtain⟨e,y⟩:=y
  subst e
  exact hs i x σ _ (y xs q) p
 ·have e:i=xs.length:=by omega
  subst e
  exact .inl ⟨⟨xs,q,Na _⟩,hd σ H p⟩
def yc {lo:Int}{n:Nat}(Pv:Nat->St->Hp->Prop)(h0:Pv 0 (dQ own ixs σ) (upd H D (.lst [])))
  (hs:∀i σ H,i < n->Pv i σ H->gi g tt te D (.int (lo + i)) σ H (Pv (i + 1))) (hd:∀σ H,Pv n σ H->(∃acc,H D=some (.lst acc))/\Q (.ref D) H) :
  ∃W:Nat->Nat->St->Hp->Prop,(∃m,W 0 m (dQ own ixs σ) (upd H D (.lst [])))/\∀i m σ' H',W i m σ' H'->
   ((Ae lo n).stop i H'/\(∃acc,H' D=some (.lst acc))/\Q (.ref D) H')\/
   ((Ae lo n).go i H'/\∃N:St->Hp->Prop,(∀σ2 H2,N σ2 H2->∃m',m' < m/\W (i + 1) m' σ2 H2)/\∀x H2,(Ae lo n).yld i H' x H2->gi g tt te D x σ' H2 N):=by
 refine⟨λi m σ H=>m=n - i/\i<=n/\Pv i σ H,⟨n,by simp,N3 _,h0⟩,?_⟩
 rintro i m σ H ⟨rfl,hi,p⟩
 by_cases hlt:i < n
 ·refine .inr ⟨hlt,Pv (i + 1),λσ' H' p'=>⟨n - (i + 1),by omega,rfl,hlt,p'⟩,λx H' y=>?_⟩
  obtain⟨e,y⟩:=y
  subst e y
  exact hs i σ _ hlt p
 ·have e:i=n:=by omega
  subst e
  exact .inl ⟨Na _,hd σ H p⟩
end
mutual
inductive Rep (K:Frag)(H:Hp):V->PyData->Prop
 |non:Rep K H .non .none
 |bl (b:Bool):Rep K H (.bl b) (.bool b)
 |int (i:Int):Rep K H (.int i) (.int i)
 |str (x:Str):Rep K H (.str x) (.str x)
 |tup {a:Addr} {xs:List V} {ds:List PyData}:gB K H a xs->kA K H xs ds->Rep K H (.ref a) (.tuple ds)
 |lst {a:Addr} {xs:List V} {ds:List PyData}:iM K H a xs->kA K H xs ds->Rep K H (.ref a) (.list ds)
inductive kA (K:Frag)(H:Hp):List V->List PyData->Prop
 |nil:kA K H [] []
 |cons {x:V} {xs:List V} {d:PyData} {ds:List PyData}:Rep K H x d->kA K H xs ds->kA K H (x :: xs) (d :: ds)
end
section
variable {X:Cx}{pins:List (Addr×Obj)}{σ:St}{H H':Hp}{s:Shared}
mutual
theorem Rep.reads (I:Inv X pins σ H s):∀{x:V} {d:PyData} {u:Value},Rep X.K H x d->RelV x u->∃as,Reads s.heap u d as
 |_,_,_,.non,r=>by cases r;exact⟨_,.none⟩
 |_,_,_,.bl b,r=>by cases r;exact⟨_,.bool b⟩
 |_,_,_,.int i,r=>by obtain⟨t,rfl⟩:=r;exact⟨_,.int i t⟩
 |_,_,_,.str x,r=>by obtain⟨t,rfl⟩:=r;exact⟨_,.str x t⟩
 |_,_,_,.tup h hs,r=>by
  cases r
  obtain⟨its,rv,⟨o,ho,hc,n,hd⟩,_⟩:=I.tuple h
  obtain⟨as,q⟩:=kA.reads I hs rv
  exact⟨_,.tuple ho hc hd (by simpa using q)⟩
 |_,_,_,.lst h hs,r=>by
  cases r
  obtain⟨its,rv,pl,_⟩:=I.list h
  obtain⟨o,ho,hc,n,hd⟩:=pl.isList
  obtain⟨as,q⟩:=kA.reads I hs rv
  exact⟨_,.list ho hc hd (by simpa using q)⟩
theorem kA.reads (I:Inv X pins σ H s):∀{xs:List V} {ds:List PyData} {us:List Value},kA X.K H xs ds->Vals xs us->∃as,ReadsAll s.heap us ds as
 |_,_,_,.nil,r=>by cases r;exact⟨_,.nil⟩
 |_,_,_,.cons h hs,r=>by
  cases r with
  |cons r1 r2=>
   obtain⟨as,q⟩:=Rep.reads I h r1
   obtain⟨bs,q'⟩:=kA.reads I hs r2
   exact⟨_,.cons q q'⟩
end
def Ir (K:Frag)(neg:Bool):R2:=λx y H Q=>∃d e,Rep K H x d/\Rep K H y e/\SeqAt.shaped d=true/\SeqAt.shaped e=true/\Q (.bl (if neg then !PyData.eqv d e else PyData.eqv d e)) H
def cT (hu:X.A.units + 64 < cLine):kG X (compareOp .Eq) (Ir X.K false):=by
 intro pins s σ H x y v u Q I rx ry h
 obtain⟨d,e,h1,h2,s1,s2,q⟩:=h
 obtain⟨as,r1⟩:=h1.reads I rx
 obtain⟨bs,r2⟩:=h2.reads I ry
 exact SeqAt.compareEq_shaped r1 r2 s1 s2 hu ⟨.bl _,H,I,rfl,q⟩
def dI (hu:X.A.units + 64 < cLine):kG X (compareOp .NotEq) (Ir X.K true):=by
 intro pins s σ H x y v u Q I rx ry h
 obtain⟨d,e,h1,h2,s1,s2,q⟩:=h
 obtain⟨as,r1⟩:=h1.reads I rx
 obtain⟨bs,r2⟩:=h2.reads I ry
 exact SeqAt.compareNe_shaped r1 r2 s1 s2 hu ⟨.bl _,H,I,rfl,q⟩
def IL (K:Frag)(neg:Bool):R2:=λx y H Q=>∃p xs d ds,y=.ref p/\(iM K H p xs\/gB K H p xs)/\kA K H xs ds/\Rep K H x d/\SeqAt.shaped d=true/\(∀e,e∈ds->SeqAt.shaped e=true)/\
 Q (.bl (if neg then !(ds.any λe=>PyData.eqv e d) else ds.any λe=>PyData.eqv e d)) H
theorem kA.at' {K:Frag}:∀{xs:List V} {ds:List PyData} {i:Nat} {x:V},kA K H xs ds->xs[i]? =some x->∃d,ds[i]? =some d/\Rep K H x d
 |_,_,_,_,.nil,e=>by simp at e
 |_,_,0,_,.cons r _,e=>by simp at e;subst e;exact⟨_,rfl,r⟩
 |_,_,i + 1,x,.cons _ t,e=>by
  obtain⟨u,h1,h2⟩:=kA.at' (i:=i) (x:=x) t (by simpa using e)
  exact⟨u,by simpa using h1,h2⟩
theorem kA.len {K:Frag}:∀{xs:List V} {ds:List PyData},kA K H xs ds->xs.length=ds.length
 |_,_,.nil=>rfl
 |_,_,.cons _ t=>by simp[kA.len t]
open Classical in
theorem nG (I:Inv X pins σ H s)(d:PyData):∀{xs:List V} {us:List Value} {ds:List PyData},Vals xs us->kA X.K H xs ds->(∀e,e∈ds->SeqAt.shaped e=true)->∃f:Value->Bool,us.any f=(ds.any λe=>PyData.eqv e d)/\∀u,u∈us->∃e as,e∈ds/\Reads s.heap u e as/\f u=PyData.eqv e d:=by
 intro xs us ds hv hr hs
 let f:Value->Bool:=λu=>if h:∃e as,SeqAt.shaped e=true/\Reads s.heap u e as then PyData.eqv (Classical.choose h) d else false
 have hf:∀{u:Value} {e:PyData} {as:List Addr},SeqAt.shaped e=true->Reads s.heap u e as->f u=PyData.eqv e d:=λ{u e as} h1 h2=>by
  have hx:∃e as,SeqAt.shaped e=true/\Reads s.heap u e as:=⟨e,as,h1,h2⟩
  show (if h:∃e as,SeqAt.shaped e=true/\Reads s.heap u e as then PyData.eqv (Classical.choose h) d else false)=_
  rw[dif_pos hx]
  obtain⟨bs,q1,q2⟩:=Classical.choose_spec hx
  rw[SeqAt.Reads.unique _ _ _ _ _ (OA q1) q2 h2]
 refine⟨f,?_,?_⟩
 ·induction hv generalizing ds with
  |nil=>cases hr;rfl
  | @cons x u xs us r1 r2 ih=>
   cases hr with
   | @cons _ _ e es h1 h2=>
    obtain⟨as,q⟩:=h1.reads I r1
    rw[OC,OC,hf (hs e (Np ..)) q,ih h2 λz hz=>hs z (Nn _ hz)]
 ·intro u hu
  obtain⟨i,hi,e0⟩:=OR.mp hu
  have hi':i < xs.length:=by rw[hv.length];exact hi
  obtain⟨u',eu,ru⟩:=hv.get (M9 hi')
  rw[M9 hi,e0] at eu
  cases eu
  obtain⟨e,ee,re⟩:=kA.at' hr (M9 hi')
  obtain⟨as,q⟩:=re.reads I ru
  have hm:=Nw ee
  exact⟨e,as,hm,q,hf (hs e hm) q⟩
def oJ (hu:X.A.units + 100 < cLine):kG X (compareOp .In) (IL X.K false):=by
 intro pins s σ H x y v u Q I rx ry h
 obtain⟨p,xs,d,ds,rfl,hq,hs,hx,s1,s2,q⟩:=h
 cases ry
 obtain⟨bs,r2⟩:=hx.reads I rx
 have key:∀{e:PyData} {as:List Addr} {u:Value},SeqAt.shaped e=true->Reads s.heap u e as->SeqAt.EqAt X.A.in1 s u v (PyData.eqv e d):=λ{e as u} h1 h2=>by
  refine SeqAt.eqAt_reads _ _ _ _ _ _ _ _ h2 r2 (OA h1) (OA s1) ?_
  have:=SeqAt.depth_of_shaped h1
  show X.A.units + 1 + _ < _
  omega
 rcases hq with hq |hq
 ·obtain⟨its,r,pl,hz⟩:=I.list hq
  obtain⟨f,e1,e2⟩:=nG I d r hs s2
  refine SeqAt.in_listAt f pl.isList (λw hw=>?_) ⟨.bl _,H,I,rfl,?_⟩
  ·obtain⟨e,as,hm,rd,ef⟩:=e2 w (by simpa using hw)
   rw[ef];exact key (s2 e hm) rd
  ·rw[show its.toArray.any f=its.any f by simp,e1];exact q
 ·obtain⟨its,r,pl,hz⟩:=I.tuple hq
  obtain⟨f,e1,e2⟩:=nG I d r hs s2
  refine SeqAt.in_tupleAt f pl (λw hw=>?_) ⟨.bl _,H,I,rfl,?_⟩
  ·obtain⟨e,as,hm,rd,ef⟩:=e2 w (by simpa using hw)
   rw[ef];exact key (s2 e hm) rd
  ·rw[show its.toArray.any f=its.any f by simp,e1];exact q
inductive Fb (K:Frag)(H:Hp):V->String->Prop
 |non:Fb K H .non "NoneType"
 |bl (b:Bool):Fb K H (.bl b) "bool"
 |int (i:Int):Fb K H (.int i) "int"
 |str (x:Str):Fb K H (.str x) "str"
 |tup {a:Addr} {xs:List V}:gB K H a xs->Fb K H (.ref a) "tuple"
 |lst {a:Addr} {xs:List V}:iM K H a xs->Fb K H (.ref a) "list"
 |dic {a:Addr} {kvs:List (Key×V)}:H a=some (.dK kvs)->Fb K H (.ref a) "dict"
def LV (K:Frag):List V->Hp->VK->Prop:=λxs H Q=>∃x T t b,xs= [x,.ty T]/\Fb K H x t/\PySem.W.kitOne K (.type t) (.type T)=some b/\Q (.bl b) H
theorem C9:iJ X (.builtin "isinstance") (LV X.K):=by
 intro pins s σ H xs us Q I r h
 obtain⟨x,T,t,b,rfl,ty,e,q⟩:=h
 obtain⟨u,c,rfl,rx,rc⟩:=vals2 r
 cases rc
 have fin:∀tk,EP X pins σ Q (.bool b) {s with toks:=tk}:=λtk=>⟨.bl b,H,I.tok tk,rfl,q⟩
 cases ty with
 |non=>exact kF I rx .non e fin
 |bl b=>exact kF I rx (.bl b) e fin
 |int i=>exact kF I rx (.int i) e fin
 |str z=>exact kF I rx (.str z) e fin
 |dic hk=>exact kF I rx (.dK hk) e fin
 |tup hq=>
  cases rx
  obtain⟨its,rv,⟨o,h1,h2,_⟩,_⟩:=I.tuple hq
  exact N4 PySem.W.kitx_tuple I.kIn ⟨o,h1,h2⟩ e (λz=>nomatch z) fin
 |lst hq=>
  cases rx
  obtain⟨its,rv,pl,_⟩:=I.list hq
  obtain⟨o,h1,h2,_⟩:=pl.isList
  exact N4 PySem.W.kitx_list I.kIn ⟨o,h1,h2⟩ e (λz=>nomatch z) fin
def vk {A:Around}{its:List Value}{bs:List Bool}(hv:Vals (bs.map V.bl) its):TruthOf X.prog X.w A (λi v=>its[i]? =some v) (λi=>bs.getD i false):=λi v s Q E hi hq=>by
 have hl:=hv.length
 have hi2:i < bs.length:=by
  have:=(Ng.mp hi).1
  rw[<-hl] at this;simpa using this
 obtain⟨u,eu,ru⟩:=hv.get (i:=i) (x:=.bl bs[i]) (by simp[hi2])
 rw[hi] at eu;cases eu
 cases ru
 refine N9 ?_
 have:bs.getD i false=bs[i]:=by simp[hi2]
 rw[<-this];exact hq
theorem range_all (bs:List Bool):(List.range bs.length).all (λi=>bs.getD i false)=bs.all id:=by
 induction bs with
 |nil=>rfl
 |cons b bs ih=>
  rw[N1,List.range_succ_eq_map,all_cons,Pj,all_cons,<-ih]
  rfl
theorem range_any (bs:List Bool):(List.range bs.length).any (λi=>bs.getD i false)=bs.any id:=by
 induction bs with
 |nil=>rfl
 |cons b bs ih=>
  rw[N1,List.range_succ_eq_map,OC,List.any_map,OC,<-ih]
  rfl
def yq (K:Frag)(f:List Bool->Bool):List V->Hp->VK->Prop:=λxs H Q=>∃a bs,xs= [.ref a]/\iM K H a (bs.map V.bl)/\Q (.bl (f bs)) H
def qH (hc:X.calm=true){a:Addr}{bs:List Bool}{Q:VK}(I:Inv X pins σ H s)(hq:iM X.K H a (bs.map V.bl)){f:List Bool->Bool}{g:(Nat->Bool)->Nat->Bool}(hfg:g (λi=>bs.getD i false) bs.length=f bs)(q:Q (.bl (f bs)) H) :
  wpAny (model X.prog X.w) X.A.in1 (pyIter (.ref a)) (λit s2=>∃Ii fp wr n P St tr,it=.ref Ii/\Walks X.prog X.w X.A.in1 Ii fp wr n P St/\St 0 s2.heap/\TruthOf X.prog X.w X.A.in1 P tr/\
   ∀h' tk,(∀b o,b∉wr->s2.heap.get? b=some o->h'.get? b=some o)->EP X pins σ Q (.bool (g tr n)) {s2 with heap:=h',toks:=tk}) X.xe s:=by
 obtain⟨its,rv,pl,hz⟩:=I.list hq
 have hh:X.A.in1.handled=none:=I.ok.hd hc
 have hlen:its.length=bs.length:=by rw[<-rv.length];simp
 obtain⟨o,ho,_⟩:=id pl.isList
 refine OP pl.isList ?_
 have W:=Walks.list (prog:=X.prog) (w:=X.w) hh s.heap.objs.size a (N0 (Nl ho)) its.toArray
 refine⟨s.heap.objs.size,_,_,_,_,_,λi=>bs.getD i false,rfl,W,⟨⟨_,Nu _ rfl,rfl,rfl⟩,pl.isList.push _⟩,?_,λh' tk k=>?_⟩
 ·have:=vk (X:=X) (A:=X.A.in1) rv
  simpa using this
 ·have e:its.toArray.size=bs.length:=by simpa using hlen
  rw[e,hfg]
  have I1:Inv X pins σ H {s with heap:=s.heap.push {cls:=.type "list_iterator",data:=.fields #[.ref a,.int 0 0]}}:=I.kept (t':=s.toks) λb o e=>Nd _ e
  have hf:H s.heap.objs.size=none:=I.hok.fresh (Na _)
  have fp:=I.fpOk (H':=H) (b:=s.heap.objs.size) (Na _) hf
  refine⟨.bl _,H,I1.turned (it:=s.heap.objs.size) (t':=tk) (λb o hb e=>k b o (by simpa using hb) e) hf fp.2.1 fp.2.2.2.1 fp.2.2.2.2.1 fp.2.2.2.2.2,rfl,q⟩
def dM (hc:X.calm=true):iJ X (.builtin "all") (yq X.K λbs=>bs.all id):=by
 intro pins s σ H xs us Q I r h
 obtain⟨a,bs,rfl,hq,q⟩:=h
 obtain⟨u,rfl,rx⟩:=vals1 r
 cases rx
 exact call_all_walk (qH hc I hq (f:=λbs=>bs.all id) (g:=λtr n=>(List.range n).all tr) (range_all bs) q)
def wD (hc:X.calm=true):iJ X (.builtin "any") (yq X.K λbs=>bs.any id):=by
 intro pins s σ H xs us Q I r h
 obtain⟨a,bs,rfl,hq,q⟩:=h
 obtain⟨u,rfl,rx⟩:=vals1 r
 cases rx
 exact call_any_walk (qH hc I hq (f:=λbs=>bs.any id) (g:=λtr n=>(List.range n).any tr) (range_any bs) q)
def Bv:iJ X (.type "range") (λxs H Q=>∃n:Int,xs= [.int n]/\∀p,H p=none->Q (.ref p) (upd H p (.iu 0 n))):=by
 intro pins s σ H xs us Q I r h
 obtain⟨n,rfl,q⟩:=h
 obtain⟨u,rfl,rx⟩:=vals1 r
 obtain⟨t,rfl⟩:=rx
 refine call_range_1 ⟨.ref s.heap.objs.size,upd H s.heap.objs.size (.iu 0 n),?_,rfl,q _ (I.hok.fresh (Na _))⟩
 exact I.laid (λb o e=>Nd _ e) (Na _) ⟨_,_,_,Nu _ rfl⟩
def su (hc:X.calm=true):iJ X (.type "list") (λxs H Q=>∃p n,xs= [.ref p]/\H p=some (.iu 0 n)/\0<=n/\n<=1000/\∀l,H l=none->Q (.ref l) (upd H l (.lst ((List.range n.toNat).map λ(i:Nat)=>V.int (i:Int))))):=by
 intro pins s σ H xs us Q I r h
 obtain⟨p,n,rfl,hp,h0,h1,q⟩:=h
 obtain⟨u,rfl,rx⟩:=vals1 r
 cases rx
 obtain⟨t,u,v,hr⟩:∃t u v,s.heap.get? p=some {cls:=.type "range",data:=.fields #[.int 0 t,.int n u,.int 1 v]}:=I.hok p _ hp
 have hsz:Builtin.Range.rangeSize 0 n 1=(n.toNat:Int):=by rw[rangeSize_one];split <;> omega
 refine call_list_range (I.ok.hd hc) hr (small_one (by omega) (by omega) (by omega) (by omega)) hsz (by omega) λh' tk acc c k hS hacc=>?_
 have hv:Vals ((List.range n.toNat).map λ(i:Nat)=>V.int (i:Int)) acc.toList:=by
  have key:∀(m:Nat) (us:List Value) (j:Nat),us.length=m->(∀(i:Nat) (v:Value),us[i]? =some v->∃t,v=Value.int ((j + i:Nat):Int) t)->Vals ((List.range' j m).map λ(i:Nat)=>V.int (i:Int)) us:=by
   intro m
   induction m with
   |zero=>intro us j hl _;cases us with
    |nil=>exact .nil
    |cons a b=>simp at hl
   |succ m ih=>
    intro us j hl hh
    cases us with
    |nil=>simp at hl
    |cons u us=>
     rw[List.range'_succ,OB]
     refine .cons (by have:=hh 0 u rfl;simp at this;exact this) (ih us (j + 1) (by simpa using hl) λi v hi=>?_)
     obtain⟨t,e⟩:=hh (i + 1) v (by simpa using hi)
     exact⟨t,by rw[e];congr 2;omega⟩
  have:=key n.toNat acc.toList 0 (by simpa using hacc.1) λi v hi=>by
   obtain⟨t,e⟩:=hacc.2 i v (by simpa using hi)
   exact⟨t,by rw[e];simp⟩
  rw[List.range_eq_range'];exact this
 refine⟨.ref s.heap.objs.size,_,I.laid (t':=tk) k (Na _) (show cW X.prog X.w _ h' _ (.lst _) from⟨by simp;rw[NV];omega,acc.toList,c,hv,by simpa using hS⟩),rfl,q _ (I.hok.fresh (Na _))⟩
end
def Rc (h:Heap)(e:Addr)(cls:Value)(T:Addr)(fl:Value):Prop:=∃oe vs oT ts,h.get? e=some oe/\oe.cls=cls/\oe.dict=none/\oe.data=.fields vs/\vs[1]? =some (.ref T)/\vs[2]? =some .none/\T≠e/\h.get? T=some oT/\oT.data=.fields ts/\ts[3]? =some fl
abbrev Keeps (F:List Addr)(ch:List Addr)(h h':Heap):Prop:=∀b o,h.get? b=some o->b∉F->b∉ch->h'.get? b=some o
abbrev Slots (F:List Addr)(h h':Heap):Prop:=∀b o,h.get? b=some o->b∈F->∃sl,h'.get? b=some {o with slots:=sl}
section
variable {M:Model}{A:Around}{E:Value->Shared->Prop}{s:Shared}{base:Heap}{env:Env}{outer:List Env}{L e:Addr}{cls:Value}{Q:Unit->Shared->Prop}
def HP {oe:Obj}{vs:Array Value}{head:Value}{hadNext:Bool}(hfr:A.frames=some (env :: outer))(hl:s.heap.FunFrames base (env :: outer))(hf:env.frame=some L)(he:s.heap.get? e=some oe)(hc:oe.cls=cls)(hdd:oe.dict=none)(hd:oe.data=.fields vs)(hsz:1 < vs.size)(h2:vs[2]? =some .none)
  (h:∀h' T,Keeps (nC (env :: outer)) [e] s.heap h'->Slots (nC (env :: outer)) s.heap h'->s.heap.get? T=none->Rc h' e cls T (rawInt L)->Q () {s with heap:=h'}) :
  wpAny M A (do let a <-frameOf env;let pl <-entryPlaceOf L hadNext;let b <-EntryCells.newEntry head a .none (rawInt L) .none pl;setField (.ref e) 1 b) Q E s:=by
 have eF:e∉nC (env :: outer):=λz=>by
  obtain⟨_,o,q,n⟩:=hl.mem z
  rw[he] at q;cases q;exact n _ hd
 refine Nf (wpAny_frameOf_fun hfr hl hf λh1 s1=>?_)
 refine Nf (wpAny_entryPlaceOf λpl hpl=>?_)
 unfold EntryCells.newEntry newFields
 refine Nf (wpAny_newObj_type ?_ (hpl.sizeOk5 _ _ _ _ _))
 have e1:h1.get? e=some oe:=(s1.2.1 e eF).trans he
 have e2:=Nd (h:=h1) {cls:=.type "traceback",dict:=none,data:=.fields ([head,.ref L,.none,rawInt L,.none] ++ (if pl.isEmpty then List.replicate 6 Value.none else pl)).toArray} e1
 have tn:h1.objs.size≠e:=Nat.ne_of_gt (Nl e1)
 refine Pp e2 hd hsz (h _ h1.objs.size (λb o q hb hn=>?_) (λb o q hb=>?_) ?_ ?_)
 ·have hbe:b≠e:=by simpa using hn
  have q1:h1.get? b=some o:=(s1.2.1 b hb).trans q
  rw[Ob _ _ (Ne.symm hbe)]
  exact Nd _ q1
 ·obtain⟨sl,q1⟩:=s1.2.2 b o q
  have hbe:b≠e:=λz=>eF (z▸hb)
  refine⟨sl,?_⟩
  rw[Ob _ _ (Ne.symm hbe)]
  exact Nd _ q1
 ·cases q:s.heap.get? h1.objs.size with
  |none=>rfl
  |some o=>obtain⟨sl,q1⟩:=s1.2.2 _ o q;exact absurd (Nl q1) (NL _)
 ·have d3:=Pk hd (·.setIfInBounds 1 (Value.ref h1.objs.size))
  have e3:=O2 (Obj.mapFields (·.setIfInBounds 1 (Value.ref h1.objs.size))) e2 (Obj.isFreed_of_fields d3)
  refine⟨_,_,_,_,e3,(Obj.cls_mapFields _ _).trans hc,?_,d3,by simp[hsz],by rw[Array.getElem?_setIfInBounds_ne (by omega)];exact h2,tn,(Ob _ _ (Ne.symm tn)).trans (Nu h1 rfl),rfl,?_⟩
  ·unfold Obj.mapFields
   split <;> exact hdd
  ·rcases hpl with rfl | ⟨_,_,_,_,_,_,_,rfl⟩ <;> simp
def Al {T0:Addr}(hfr:A.frames=some (env :: outer))(hl:s.heap.FunFrames base (env :: outer))(hf:env.frame=some L)(r:Rc s.heap e cls T0 .none)
  (h:∀h' T,Keeps (nC (env :: outer)) [e,T0] s.heap h'->Slots (nC (env :: outer)) s.heap h'->(s.heap.get? T=none\/T=T0)->Rc h' e cls T (rawInt L)->Q () {s with heap:=h'}):wpAny M A (noteFrame (.ref e) env) Q E s:=by
 obtain⟨oe,vs,oT,ts,he,hc,hdd,hd,h1,h2,hTe,hT,hdT,h3⟩:=r
 have tF:T0∉nC (env :: outer):=λz=>by
  obtain⟨_,o,q,n⟩:=hl.mem z
  rw[hT] at q;cases q;exact n _ hdT
 unfold noteFrame
 simp only[hf]
 refine Nf (wpAny_field he hd h1 ?_)
 rw[Nc (show (Value.ref T0 != Value.none)=true from by simp)]
 refine Nf (wpAny_field hT hdT h3 ?_)
 rw[Nk (show ¬((Value.none == rawInt L)=true) from by simp[rawInt])]
 refine Nf (Pp hT hdT (O5.mp h3).1 ?_)
 have oth:∀b,b≠T0->(s.heap.update T0 (Obj.mapFields (·.setIfInBounds 3 Value.none))).get? b=s.heap.get? b:=λb hb=>Ob _ _ (Ne.symm hb)
 have nf:∀b o,s.heap.get? b=some o->(∀ws,o.data≠.fields ws)->b≠T0:=λb o q n z=>by
  rw[z,hT] at q;cases q;exact n _ hdT
 refine HP (base:=base) hfr (hl.of_keeps λb o q n=>⟨o,(oth b (nf b o q n)).trans q,rfl⟩) hf ((oth e (Ne.symm hTe)).trans he) hc hdd hd (O5.mp h1).1 h2 λh' T kp sl tn rc=>?_
 refine h h' T (λb o q hb hn=>?_) (λb o q hb=>?_) ?_ rc
 ·simp only[Nh,NW,OD,not_or] at hn
  exact kp b o ((oth b hn.2).trans q) hb (by simp[hn.1])
 ·exact sl b o ((oth b λz=>tF (z▸hb)).trans q) hb
 ·by_cases z:T=T0
  ·exact .inr z
  ·exact .inl ((oth T z).symm.trans tn)
def Ff {T:Addr}{fl:Value}(r:Rc s.heap e cls T fl)(h:∀h',Keeps [] [T] s.heap h'->Rc h' e cls T .none->Q () {s with heap:=h'}):wpAny M A (setFlight (.ref e) none) Q E s:=by
 obtain⟨oe,vs,oT,ts,he,hc,hdd,hd,h1,h2,hTe,hT,hdT,h3⟩:=r
 have sz:3 < ts.size:=(O5.mp h3).1
 unfold setFlight
 refine Nf (wpAny_field he hd h1 ?_)
 rw[Nc (show (Value.ref T != Value.none)=true from by simp)]
 refine Pp hT hdT sz (h _ (λb o q _ hn=>?_) ?_)
 ·have hb:b≠T:=by simpa using hn
  exact (Ob _ _ (Ne.symm hb)).trans q
 ·have d3:=Pk hdT (·.setIfInBounds 3 ((none:Option Addr).elim Value.none λf=>rawInt f))
  exact⟨oe,vs,_,_,(Ob _ _ hTe).trans he,hc,hdd,hd,h1,h2,hTe,O2 _ hT (Obj.isFreed_of_fields d3),d3,by simp[sz]⟩
end
section
variable {P:Program}{w:World}
theorem cW.there {H:Hp}{h:Heap}{a:Addr}{o:HO}(x:cW P w H h a o):∃u,h.get? a=some u:=by
 cases o with
 |lst xs=>obtain⟨_,_,_,_,e⟩:=x;exact⟨_,e⟩
 |tup xs=>obtain⟨_,_,_,u,e,_⟩:=x;exact⟨u,e⟩
 |dK kvs=>obtain⟨_,_,_,_,o,_,_,e,_⟩:=x;exact⟨_,e⟩
 |dT kvs=>obtain⟨_,_,_,_,o,_,_,e,_⟩:=x;exact⟨_,e⟩
 |set S n=>obtain⟨o,_,_,_,e,_⟩:=x;exact⟨_,e⟩
 |ins C dx fs=>obtain⟨_,_,_,e,_⟩:=x;exact⟨_,e⟩
 |own y=>obtain⟨_,e⟩:=x;exact⟨_,e⟩
 |xd fs=>obtain⟨_,⟨_,_,_,e,_⟩,_⟩:=x;exact⟨_,e⟩
 |iu lo hi=>obtain⟨_,_,_,e⟩:=x;exact⟨_,e⟩
 |aY ob u=>obtain⟨e,_⟩:=x;exact⟨_,e⟩
 |tbl ps=>exact⟨_,show h.get? a=some _ from x⟩
 |met f y=>exact⟨_,show h.get? a=some _ from x⟩
 |ext φ=>obtain⟨_,⟨_,e⟩,_⟩:=x;exact⟨_,e⟩
end
structure Lies (h₀:Heap)(H:Hp)(h:Heap)(e:Addr)(cls:Value):Prop where
 free:H e=none
 new:h₀.get? e=none
 ob:∃T,Rc h e cls T .none/\H T=none/\h₀.get? T=none
def nE (P:Program)(w:World):z0:=λouter H s E e s'=>∃ea cls H',e=.ref ea/\s'.os=s.os/\AllBare s'.gens/\Un (nC outer) [] H H' s.heap s'.heap/\mU P w H' s'.heap/\Lies s.heap H' s'.heap ea cls/\E cls none H'
section
variable {P:Program}{w:World}{M:Model}{A:Around}{E':Value->Shared->Prop}{s:Shared}{env:Env}{outer:List Env}{L e:Addr}{cls:Value}{base h₀:Heap}{H:Hp}{Q:Unit->Shared->Prop}
def Dv {h h':Heap}(hok:mU P w H h)(k:∀b o,h.get? b=some o->(∃u,H b=some u)->h'.get? b=some o):mU P w H h':=λa o ha=>
 (hok a o ha).stay (λb u hb q=>k b u q (hb.elim (λz=>⟨o,by rw[z];exact ha⟩) λz=>⟨_,z⟩)) (λ_ q=>q) λ_ _ q=>q
def Bu (hfr:A.frames=some (env :: outer))(hf:env.frame=some L)(hfn:s.heap.FunFrames base (env :: outer))(hok:mU P w H s.heap)(hff:∀b∈nC (env :: outer),H b=none)(Ly:Lies h₀ H s.heap e cls)(hex:∀b o,h₀.get? b=some o->∃o',s.heap.get? b=some o')
  (hQ:∀h',(∀b o,s.heap.get? b=some o->b∉nC (env :: outer)->((∃o0,h₀.get? b=some o0)\/∃u,H b=some u)->h'.get? b=some o)->(∀b o,s.heap.get? b=some o->b∈nC (env :: outer)->∃sl,h'.get? b=some {o with slots:=sl})->Lies h₀ H h' e cls->mU P w H h'->Q () {s with heap:=h'}) :
  wpAny M A (leaving env (.ref e)) Q E' s:=by
 obtain⟨fr,nw,T0,rc,hHT,hnT⟩:=Ly
 obtain⟨oe,vs,oT,ts,he,hc,hdd,hd,h1,h2,hTe,hT,hdT,h3⟩:=id rc
 have tF:T0∉nC (env :: outer):=λz=>by
  obtain⟨_,o,q,n⟩:=hfn.mem z
  rw[hT] at q;cases q;exact n _ hdT
 unfold leaving
 refine Nf (Al hfr hfn hf rc λh4 T kp sl tn rc4=>Ff rc4 λh5 kp5 rc5=>?_)
 have nT:∀b o,s.heap.get? b=some o->b≠T0->b≠T:=λb o q n z=>by
  rcases tn with tn |tn
  ·rw[z,tn] at q;cases q
  ·exact n (z.trans tn)
 have kept:∀b o,s.heap.get? b=some o->b∉nC (env :: outer)->((∃o0,h₀.get? b=some o0)\/∃u,H b=some u)->h5.get? b=some o:=λb o q hb hor=>by
  have be:b≠e:=λz=>by subst z;rcases hor with⟨_,z⟩ | ⟨_,z⟩ <;> simp_all
  have bT:b≠T0:=λz=>by subst z;rcases hor with⟨_,z⟩ | ⟨_,z⟩ <;> simp_all
  exact kp5 b o (kp b o q hb (by simp[be,bT])) (by simp) (by simp[nT b o q bT])
 have slot:∀b o,s.heap.get? b=some o->b∈nC (env :: outer)->∃sl,h5.get? b=some {o with slots:=sl}:=λb o q hb=>by
  obtain⟨x,q4⟩:=sl b o q hb
  exact⟨x,kp5 b _ q4 (by simp) (by simp[nT b o q λz=>tF (z▸hb)])⟩
 have fresh:H T=none/\h₀.get? T=none:=by
  rcases tn with tn |tn
  ·refine⟨?_,?_⟩
   ·cases q:H T with
    |none=>rfl
    |some u=>obtain⟨o,qo⟩:=(hok T u q).there;rw[tn] at qo;cases qo
   ·cases q:h₀.get? T with
    |none=>rfl
    |some u=>obtain⟨o,qo⟩:=hex T u q;rw[tn] at qo;cases qo
  ·rw[tn];exact⟨hHT,hnT⟩
 refine hQ h5 kept slot ⟨fr,nw,T,rc5,fresh.1,fresh.2⟩ (Dv hok λb o q hu=>kept b o q (λz=>?_) (.inr hu))
 obtain⟨u,hu⟩:=hu
 rw[hff b z] at hu;cases hu
end
section
variable {P:Program}{w:World}{K:Frag}{mg:Str->Option Value}{base:Heap}{N:List Str}{qual:Str}{scope:Scope}{f:Addr}{cd:Value}{A:Around}{outer:List Env}{s0:Shared}{H0:Hp}{E:XK}
def aQ:Passes (nE P w) (pF (nE P w) P w K mg base N qual scope f cd A outer s0 H0 E) E:=by
 intro pins σ H s e s' I hcx
 obtain⟨ea,cls,H',rfl,os,bare,un,hok,Ly,q⟩:=hcx
 have I':=I.call' os un hok bare (λb hb=>absurd hb (by simp))
 have old:∀{b:Addr},s.heap.get? b=none->s0.heap.get? b=none:=λ{b} hb=>by
  cases z:s0.heap.get? b with
  |none=>rfl
  |some o=>obtain⟨o',z'⟩:=I.base.there b o z (show b∉([]:List Addr) by simp);rw[hb] at z';cases z'
 have Ly0:Lies s0.heap H' s'.heap ea cls:=by
  obtain⟨fr,nw,T,rc,hHT,hnT⟩:=Ly
  exact⟨fr,old nw,T,rc,hHT,old hnT⟩
 have above:s0.heap.objs.size<=(envOfC qual scope s0.heap.objs.size f cd).locals:=I.ok.above
 refine Bu (base:=base) (h₀:=s0.heap) I'.ok.frames rfl I'.stack I'.hok I'.stkFree Ly0 (λb o z=>I'.base.there b o z (show b∉([]:List Addr) by simp)) λh' kept slot Ly' hok'=>?_
 have nL:∀{b:Addr} {o:Obj},s0.heap.get? b=some o->b∉nC outer->b∉nC (envOfC qual scope s0.heap.objs.size f cd :: outer):=λ{b o} z hb hm=>by
  rcases Nh.mp (I'.stkSub b hm) with e |e
  ·have:=Nl z
   rw[e] at this
   exact absurd (NM this above) (NL _)
  ·exact hb e
 have inn:∀{b:Addr},b∈nC outer->b∈nC (envOfC qual scope s0.heap.objs.size f cd :: outer):=λ{b} hb=>by
  obtain⟨en,h1,h2⟩:=Pa.mp hb
  exact Pa.mpr ⟨en,Nn _ h1,h2⟩
 refine⟨ea,cls,H',rfl,os.trans I.os,bare,⟨λb o z n hb _=>?_,λb o z n hb _=>?_,λb o z n _=>I'.base.free b o z n (show b∉([]:List Addr) by simp),λb o z _=>?_,I'.base.tups,I'.base.frzs,I'.base.tbls⟩,hok',Ly',q⟩
 ·exact kept b o (I'.base.keep b o z n hb (show b∉([]:List Addr) by simp)) (nL z hb) (.inl ⟨o,z⟩)
 ·obtain⟨sl,z1⟩:=I'.base.slot b o z n hb (show b∉([]:List Addr) by simp)
  obtain⟨sl2,z2⟩:=slot b _ z1 (inn hb)
  exact⟨sl2,z2⟩
 ·obtain⟨o',z1⟩:=I'.base.there b o z (show b∉([]:List Addr) by simp)
  by_cases hb:b∈nC (envOfC qual scope s0.heap.objs.size f cd :: outer)
  ·obtain⟨sl,z2⟩:=slot b o' z1 hb
   exact⟨_,z2⟩
  ·exact⟨o',kept b o' z1 hb (.inl ⟨o,z⟩)⟩
end
def mroIn (K:Frag)(C:Addr):List Value:=match K.lookup C with
 |some ⟨_,_,.cls cd,_⟩=>cd.mro
 |_=>[]
structure BP (k:Nat)(A:Around):Prop where
 dp:A.depth + 3 * k + 5 < recursionLimit
 un:A.units + 16 * k + 200 < cLine
 gd:A.guards=some []
def dJ.h {k:Nat}{A:Around}(r:dJ k A):BP k A:=⟨r.dp,r.un,r.gd⟩
def BP.units {k:Nat}{A:Around}(r:BP k A):A.units + 64 < cLine:=by have:=r.un;omega
section
variable {P:Program}{w:World}{K:Frag}{mg:Str->Option Value}{base:Heap}
def Bd.Be {x qual:Str}{st:Stmt}{f:Addr}{fd:FuncData}{N ps:List Str}{k:Nat}{sp:Sp}(F:Bd K x qual st f fd)(S:aF N ps (ar st))(len:∀vs H Q E,sp vs H Q E->vs.length=ps.length)
  (hbody:∀(cdv:Value) (A:Around) (outer:List Env) (s:Shared) (H:Hp) (vs:List V) (Q:VK) (E:XK),dJ k (A.deeper (envOfC qual (ar st) s.heap.objs.size f cdv))->sp vs H Q E->
   ∃t,rO (pF (nE P w) P w K mg base N qual (ar st) f cdv A outer s H E) (de st) t/\t {nx:=λ_ H'=>Q .non H',rt:=Q} (start N vs) H):fq P w K mg base (nE P w) (k + 1) f fd ps sp:=by
 obtain⟨oc,od,kV,doc,pm,an,cdv,ct,osl,rfl,lk,hcd⟩:=F.ex
 exact CH lk hcd S len λA outer s H vs Q E hr hsp=>hbody cdv A outer s H vs Q E hr hsp
end
section
variable {X:Cx}
def gM (hu:X.A.units + 100 < cLine):kG X (compareOp .NotIn) (IL X.K true):=by
 intro pins s σ H x y v u Q I rx ry h
 obtain⟨p,xs,d,ds,rfl,hq,hs,hx,s1,s2,q⟩:=h
 cases ry
 obtain⟨bs,r2⟩:=hx.reads I rx
 have key:∀{e:PyData} {as:List Addr} {u:Value},SeqAt.shaped e=true->Reads s.heap u e as->SeqAt.EqAt X.A.in1 s u v (PyData.eqv e d):=λ{e as u} h1 h2=>by
  refine SeqAt.eqAt_reads _ _ _ _ _ _ _ _ h2 r2 (OA h1) (OA s1) ?_
  have:=SeqAt.depth_of_shaped h1
  show X.A.units + 1 + _ < _
  omega
 rcases hq with hq |hq
 ·obtain⟨its,r,pl,hz⟩:=I.list hq
  obtain⟨f,e1,e2⟩:=nG I d r hs s2
  refine SeqAt.notIn_listAt f pl.isList (λw hw=>?_) ⟨.bl _,H,I,rfl,?_⟩
  ·obtain⟨e,as,hm,rd,ef⟩:=e2 w (by simpa using hw)
   rw[ef];exact key (s2 e hm) rd
  ·rw[show its.toArray.any f=its.any f by simp,e1];exact q
 ·obtain⟨its,r,pl,hz⟩:=I.tuple hq
  obtain⟨f,e1,e2⟩:=nG I d r hs s2
  refine SeqAt.notIn_tupleAt f pl (λw hw=>?_) ⟨.bl _,H,I,rfl,?_⟩
  ·obtain⟨e,as,hm,rd,ef⟩:=e2 w (by simpa using hw)
   rw[ef];exact key (s2 e hm) rd
  ·rw[show its.toArray.any f=its.any f by simp,e1];exact q
end
abbrev D:=PyData
def kD:Key->D
 | .inl i=>.int i
 | .inr x=>.str x
mutual
inductive Rp (K:Frag)(G:Hp):V->D->Prop
 |non:Rp K G .non .none
 |bl (b:Bool):Rp K G (.bl b) (.bool b)
 |int (i:Int):Rp K G (.int i) (.int i)
 |str (x:Str):Rp K G (.str x) (.str x)
 |tup {a:Addr} {xs:List V} {ds:List D}:gB K G a xs->cF K G xs ds->Rp K G (.ref a) (.tuple ds)
 |lst {a:Addr} {xs:List V} {ds:List D}:G a=some (.lst xs)->cF K G xs ds->Rp K G (.ref a) (.list ds)
 |scr {a:Addr} {ns:List Int}:iM K G a (ns.map V.int)->Rp K G (.ref a) (.dict [(.none,.list (ns.map int))])
 |dK {a:Addr} {kvs:List (Key×V)} {ds:List (D×D)}:G a=some (.dK kvs)->Am K G kvs ds->Rp K G (.ref a) (.dict ds)
 |dT {a:Addr} {kvs:List (List Key×V)} {ds:List (D×D)}:G a=some (.dT kvs)->Bg K G kvs ds->Rp K G (.ref a) (.dict ds)
inductive cF (K:Frag)(G:Hp):List V->List D->Prop
 |nil:cF K G [] []
 |cons {x:V} {xs:List V} {d:D} {ds:List D}:Rp K G x d->cF K G xs ds->cF K G (x :: xs) (d :: ds)
inductive Am (K:Frag)(G:Hp):List (Key×V)->List (D×D)->Prop
 |nil:Am K G [] []
 |cons {k:Key} {x:V} {xs:List (Key×V)} {d:D} {ds:List (D×D)}:Rp K G x d->Am K G xs ds->Am K G ((k,x) :: xs) ((kD k,d) :: ds)
inductive Bg (K:Frag)(G:Hp):List (List Key×V)->List (D×D)->Prop
 |nil:Bg K G [] []
 |cons {k:List Key} {x:V} {xs:List (List Key×V)} {d:D} {ds:List (D×D)}:Rp K G x d->Bg K G xs ds->Bg K G ((k,x) :: xs) ((.tuple (k.map kD),d) :: ds)
end
section
variable {K:Frag}{G G' H H':Hp}
def Ji {b:Addr}{o:HO}(h:Kt H b o)(hu:∀ps,o≠.tbl ps):H b=some o:=by
 obtain⟨u,e,k,_⟩:=h.some
 rw[e,k hu]
def BN {b:Addr}{o:HO}{xs:List V}(h:Kt H b o)(e:H b=some (.lst xs)):o=.lst xs:=by
 obtain⟨u,eu,k1,k2⟩:=h.some
 rw[e] at eu
 cases eu
 by_cases c:∃ps,o=.tbl ps
 ·obtain⟨ps,z⟩:=k2 c;cases z
 ·exact (k1 λps z=>c ⟨ps,z⟩).symm
theorem lT {a b:Addr}{o u:HO}(h:Kt H b u)(hb:b≠a)(ha:∀x y,H a≠some (.aY x y)):Kt (upd H a o) b u:=by
 cases u with
 |tbl ps=>
  obtain⟨m,e,t,k⟩:=h
  refine⟨m,by rw[aB hb];exact e,t,λc hc=>?_⟩
  obtain⟨x,ex,ix⟩:=k c hc
  exact⟨x,by rw[aB (λz=>ha x _ (z▸ex))];exact ex,ix⟩
 |_=>exact (aB hb).trans h
def Rd.mono {a:Addr}{u:HO}(h:Rd G a u)(s:ax G G')(hu:∀ps,u≠.tbl ps:=by intro _ z;cases z):Rd G' a u:=h.elim (λe=>.inl (Ji (s _ _ e) hu)) λ⟨o,e⟩=>.inr ⟨o,s _ _ e⟩
mutual
theorem Rp.mono (s:ax G G'):∀{x:V} {d:D},Rp K G x d->Rp K G' x d
 |_,_,.non=>.non
 |_,_,.bl b=>.bl b
 |_,_,.int i=>.int i
 |_,_,.str x=>.str x
 |_,_,.tup h hs=>.tup (h.grow s.grow) (cF.mono s hs)
 |_,_,.lst h hs=>.lst (s _ _ h) (cF.mono s hs)
 |_,_,.scr h=>.scr (s.seq h)
 |_,_,.dK h hs=>.dK (s _ _ h) (Am.mono s hs)
 |_,_,.dT h hs=>.dT (s _ _ h) (Bg.mono s hs)
theorem cF.mono (s:ax G G'):∀{xs:List V} {ds:List D},cF K G xs ds->cF K G' xs ds
 |_,_,.nil=>.nil
 |_,_,.cons h hs=>.cons (Rp.mono s h) (cF.mono s hs)
theorem Am.mono (s:ax G G'):∀{xs:List (Key×V)} {ds:List (D×D)},Am K G xs ds->Am K G' xs ds
 |_,_,.nil=>.nil
 |_,_,.cons h hs=>.cons (Rp.mono s h) (Am.mono s hs)
theorem Bg.mono (s:ax G G'):∀{xs:List (List Key×V)} {ds:List (D×D)},Bg K G xs ds->Bg K G' xs ds
 |_,_,.nil=>.nil
 |_,_,.cons h hs=>.cons (Rp.mono s h) (Bg.mono s hs)
end
theorem cF.len:∀{xs:List V} {ds:List D},cF K G xs ds->xs.length=ds.length
 |_,_,.nil=>rfl
 |_,_,.cons _ t=>by simp[cF.len t]
theorem cF.at:∀{xs:List V} {ds:List D} {i:Nat} {d:D},cF K G xs ds->ds[i]? =some d->∃x,xs[i]? =some x/\Rp K G x d
 |_,_,_,_,.nil,e=>by simp at e
 |_,_,0,_,.cons r _,e=>by simp at e;subst e;exact⟨_,rfl,r⟩
 |_,_,i + 1,x,.cons _ t,e=>by
  obtain⟨u,h1,h2⟩:=cF.at (i:=i) (d:=x) t (by simpa using e)
  exact⟨u,by simpa using h1,h2⟩
theorem cF.at':∀{xs:List V} {ds:List D} {i:Nat} {x:V},cF K G xs ds->xs[i]? =some x->∃d,ds[i]? =some d/\Rp K G x d
 |_,_,_,_,.nil,e=>by simp at e
 |_,_,0,_,.cons r _,e=>by simp at e;subst e;exact⟨_,rfl,r⟩
 |_,_,i + 1,x,.cons _ t,e=>by
  obtain⟨u,h1,h2⟩:=cF.at' (i:=i) (x:=x) t (by simpa using e)
  exact⟨u,by simpa using h1,h2⟩
theorem cF.append:∀{xs ys:List V} {ds es:List D},cF K G xs ds->cF K G ys es->cF K G (xs ++ ys) (ds ++ es)
 |_,_,_,_,.nil,s=>s
 |_,_,_,_,.cons r t,s=>.cons r (cF.append t s)
def cF.snoc {xs:List V}{ds:List D}{x:V}{d:D}(h:cF K G xs ds)(q:Rp K G x d):cF K G (xs ++ [x]) (ds ++ [d]):=h.append (.cons q .nil)
theorem cF.take:∀{xs:List V} {ds:List D} (n:Nat),cF K G xs ds->cF K G (xs.take n) (ds.take n)
 |_,_,0,_=>.nil
 |_,_,_ + 1,.nil=>.nil
 |_,_,n + 1,.cons r t=>.cons r (cF.take n t)
theorem cF.drop:∀{xs:List V} {ds:List D} (n:Nat),cF K G xs ds->cF K G (xs.drop n) (ds.drop n)
 |_,_,0,r=>r
 |_,_,_ + 1,.nil=>.nil
 |_,_,n + 1,.cons _ t=>cF.drop n t
theorem cF.set {x:V}{d:D}(r:Rp K G x d):∀{xs:List V} {ds:List D} (i:Nat),cF K G xs ds->cF K G (xs.set i x) (ds.set i d)
 |_,_,_,.nil=>.nil
 |_,_,0,.cons _ t=>.cons r t
 |_,_,i + 1,.cons q t=>.cons q (cF.set r i t)
theorem cF.rep {n:Nat}{xs:List V}{ds:List D}(h:cF K G xs ds):cF K G (List.replicate n xs).flatten (List.replicate n ds).flatten:=by
 induction n with
 |zero=>exact .nil
 |succ n ih=>rw[N7,N7,Ow,Ow];exact h.append ih
mutual
def Bi:D->Bool
 | .dict _=>false
 | .list ds=>sd ds
 | .tuple ds=>sd ds
 |_=>true
def sd:List D->Bool
 | []=>true
 |d :: ds=>Bi d && sd ds
end
mutual
theorem Rp.rep:∀{x:V} {d:D},Rp K G x d->Bi d=true->Rep K G x d
 |_,_,.non,_=>.non
 |_,_,.bl b,_=>.bl b
 |_,_,.int i,_=>.int i
 |_,_,.str x,_=>.str x
 |_,_,.tup h hs,e=>.tup h (cF.reps hs (by simpa[Bi] using e))
 |_,_,.lst h hs,e=>.lst (.inl (.inl h)) (cF.reps hs (by simpa[Bi] using e))
 |_,_,.scr _,e=>by simp[Bi] at e
 |_,_,.dK _ _,e=>by simp[Bi] at e
 |_,_,.dT _ _,e=>by simp[Bi] at e
theorem cF.reps:∀{xs:List V} {ds:List D},cF K G xs ds->sd ds=true->kA K G xs ds
 |_,_,.nil,_=>.nil
 |_,_,.cons h hs,e=>.cons (Rp.rep h (by simp[sd] at e;exact e.1)) (cF.reps hs (by simp[sd] at e;exact e.2))
end
def Own (K:Frag)(G H:Hp)(a:Addr):D->Prop
 | .list ds=>∃xs,H a=some (.lst xs)/\cF K G xs ds
 | .dict ds=>(∃kvs,H a=some (.dK kvs)/\Am K G kvs ds)\/∃kvs,H a=some (.dT kvs)/\Bg K G kvs ds
 |_=>False
def Own.obj {a:Addr}{d:D}(h:Own K G H a d):∃o,H a=some o:=by
 cases d <;> first |exact h.elim |skip
 ·obtain⟨xs,e,_⟩:=h;exact⟨_,e⟩
 ·rcases h with⟨_,e,_⟩ | ⟨_,e,_⟩ <;> exact⟨_,e⟩
def Own.mono {a:Addr}{d:D}(h:Own K G H a d)(s:ax G G')(m:∀o,H a=some o->Kt H' a o):Own K G' H' a d:=by
 cases d <;> first |exact h.elim |skip
 ·obtain⟨xs,e,r⟩:=h;exact⟨xs,m _ e,r.mono s⟩
 ·rcases h with⟨k,e,r⟩ | ⟨k,e,r⟩
  ·exact .inl ⟨k,m _ e,r.mono s⟩
  ·exact .inr ⟨k,m _ e,r.mono s⟩
def Own.rp {a:Addr}{d:D}(h:Own K G H a d)(n:G a=none){G':Hp}(s:ax G G')(e:∀o,H a=some o->G' a=some o):Rp K G' (.ref a) d:=by
 cases d <;> first |exact h.elim |skip
 ·obtain⟨xs,q,r⟩:=h;exact .lst (e _ q) (r.mono s)
 ·rcases h with⟨k,q,r⟩ | ⟨k,q,r⟩
  ·exact .dK (e _ q) (r.mono s)
  ·exact .dT (e _ q) (r.mono s)
def mw (K:Frag)(B:Option Addr)(G H:Hp)(v:V)(d:D):Prop:=Rp K G v d\/∃a,v=.ref a/\B≠some a/\Own K G H a d
def iG (B:Option Addr)(H H':Hp):Prop:=(∀b o,H b=some o->B≠some b->Kt H' b o)/\∀b o u,H b=some (.aY o u)->H' b=some (.aY o u)
def iG.refl (B:Option Addr)(H:Hp):iG B H H:=⟨λ_ _ h _=>Kt.of h,λ_ _ _ h=>h⟩
theorem yg {B:Option Addr}{b:Addr}{o:HO}(h1:Kt H b o)(y:iG B H H')(n:B≠some b):Kt H' b o:=by
 cases o with
 |tbl ps=>
  obtain⟨m,e,t,k⟩:=h1
  obtain⟨m2,e2,t2,k2⟩:=y.1 b _ e n
  refine⟨m ++ m2,by rw[e2,Array.append_assoc],by rw[OJ];exact t.app t2,λc hc=>?_⟩
  rw[OJ,Nz] at hc
  rcases hc with hc |hc
  ·obtain⟨o,eo,io⟩:=k c hc;exact⟨o,y.2 c _ _ eo,io⟩
  ·exact k2 c hc
 |_=>exact y.1 b _ h1 n
def iG.trans {B:Option Addr}{H1:Hp}(x:iG B H H1)(y:iG B H1 H'):iG B H H':=⟨λb o h n=>yg (x.1 b o h n) y n,λb o u h=>y.2 b o u (x.2 b o u h)⟩
def ax.mov (s:ax H H')(B:Option Addr):iG B H H':=⟨λb o h _=>s b o h,λb o u h=>s b _ h⟩
def mw.mono {B:Option Addr}{v:V}{d:D}(h:mw K B G H v d)(s:ax G G')(m:iG B H H'):mw K B G' H' v d:=by
 rcases h with h | ⟨a,e,n,h⟩
 ·exact .inl (h.mono s)
 ·exact .inr ⟨a,e,n,h.mono s λo q=>m.1 a o q n⟩
def mw.rpH {B:Option Addr}{v:V}{d:D}(h:mw K B G H v d)(s:ax G H):Rp K H v d:=by
 rcases h with h | ⟨a,rfl,n,h⟩
 ·exact h.mono s
 ·cases d <;> first |exact h.elim |skip
  ·obtain⟨xs,q,r⟩:=h;exact .lst q (r.mono s)
  ·rcases h with⟨k,q,r⟩ | ⟨k,q,r⟩
   ·exact .dK q (r.mono s)
   ·exact .dT q (r.mono s)
def mw.list {B:Option Addr}{v:V}{ds:List D}(h:mw K B G H v (.list ds))(s:ax G H):∃a xs,v=.ref a/\Rd H a (.lst xs)/\cF K G xs ds:=by
 rcases h with h | ⟨a,rfl,n,xs,q,r⟩
 ·cases h with
  |lst h r=>exact⟨_,_,rfl,.inl (s _ _ h),r⟩
 ·exact⟨a,xs,rfl,.inl q,r⟩
def mw.tuple {B:Option Addr}{v:V}{ds:List D}(h:mw K B G H v (.tuple ds))(s:ax G H):∃a xs,v=.ref a/\gB K H a xs/\cF K G xs ds:=by
 rcases h with h | ⟨a,rfl,n,h⟩
 ·cases h with
  |tup h r=>exact⟨_,_,rfl,h.grow s.grow,r⟩
 ·exact h.elim
def mw.int {B:Option Addr}{v:V}{i:Int}(h:mw K B G H v (.int i)):v=.int i:=by
 rcases h with h | ⟨a,rfl,n,h⟩
 ·cases h;rfl
 ·exact h.elim
def mw.bool {B:Option Addr}{v:V}{b:Bool}(h:mw K B G H v (.bool b)):v=.bl b:=by
 rcases h with h | ⟨a,rfl,n,h⟩
 ·cases h;rfl
 ·exact h.elim
def mw.str {B:Option Addr}{v:V}{x:Str}(h:mw K B G H v (.str x)):v=.str x:=by
 rcases h with h | ⟨a,rfl,n,h⟩
 ·cases h;rfl
 ·exact h.elim
def mw.none {B:Option Addr}{v:V}(h:mw K B G H v .none):v=.non:=by
 rcases h with h | ⟨a,rfl,n,h⟩
 ·cases h;rfl
 ·exact h.elim
end
def Fz:HO->Prop
 | .tup _=>True
 | .aY _ _=>True
 |_=>False
def Mx (H:Hp)(b:Addr):Prop:=H b≠none/\∀o,H b=some o->¬Fz o
def Mx.lst {H:Hp}{b:Addr}{xs:List V}(h:H b=some (.lst xs)):Mx H b:=⟨by rw[h];simp,λys z=>by rw[h] at z;cases z;exact λy=>y⟩
theorem Mx.same {H H':Hp}{b:Addr}(h:Mx H b)(m:∀o,H b=some o->Kt H' b o):Mx H' b:=by
 obtain⟨h1,h2⟩:=h
 cases e:H b with
 |none=>exact absurd e h1
 |some o=>
  obtain⟨u,eu,k1,k2⟩:=(m o e).some
  refine⟨by rw[eu];simp,λxs z=>?_⟩
  rw[eu] at z
  cases z
  by_cases c:∃ps,o=.tbl ps
  ·obtain⟨ps,e⟩:=k2 c;rw[e];exact λy=>y
  ·rw[k1 λps e=>c ⟨ps,e⟩];exact h2 o e
def Own.mx {K:Frag}{G H:Hp}{a:Addr}{d:D}(h:Own K G H a d):Mx H a:=by
 cases d <;> first |exact h.elim |skip
 ·obtain⟨xs,e,_⟩:=h;exact Mx.lst e
 ·rcases h with⟨k,e,_⟩ | ⟨k,e,_⟩ <;> exact⟨by rw[e];simp,λys z=>by rw[e] at z;cases z;exact λy=>y⟩
open Classical in
noncomputable def jw (G H:Hp):Hp:=λb=>match G b with
 |some o=>some o
 |none=>match H b with
  |some o=>if Fz o then some o else none
  |none=>none
def oz {G H:Hp}:ax G (jw G H):=λb o e=>Kt.of (by unfold jw;rw[e])
theorem zg {G H:Hp}(s:ax G H){b:Addr}{o:HO}(e:H b=some o)(f:Fz o):jw G H b=some o:=by
 unfold jw
 cases q:G b with
 |some u=>
  obtain⟨u',eu,k1,k2⟩:=(s b u q).some
  rw[e] at eu
  cases eu
  by_cases c:∃ps,u=.tbl ps
  ·obtain⟨ps,z⟩:=k2 c;subst z;exact f.elim
  ·rw[k1 λps z=>c ⟨ps,z⟩]
 |none=>simp only[e];rw[Nc f]
theorem n0 {G H:Hp}(s:ax G H):ax (jw G H) H:=λb o e=>by
 unfold jw at e
 cases q:G b with
 |some u=>rw[q] at e;cases e;exact s b _ q
 |none=>
  rw[q] at e
  cases q2:H b with
  |none=>rw[q2] at e;cases e
  |some u=>
   rw[q2] at e
   dsimp only at e
   split at e
   ·cases e;exact Kt.of q2
   ·cases e
theorem uQ {G H H':Hp}(hh:ax H H'){b:Addr}(m:Mx H b):jw G H' b=G b:=by
 unfold jw
 cases q:G b with
 |some u=>rfl
 |none=>
  obtain⟨h1,h2⟩:=m
  cases e:H b with
  |none=>exact absurd e h1
  |some o=>
   have hm:=(show Mx H b from⟨h1,h2⟩).same (hh b)
   cases e2:H' b with
   |none=>rfl
   |some u=>simp only;rw[Nk (hm.2 u e2)]
def nD {K:Frag}{G H:Hp}(s:ax G H){a:Addr}{xs:List V}(h:gB K H a xs):gB K (jw G H) a xs:=by
 rcases h with (h | ⟨o,h⟩) |h
 ·exact .inl (.inl (zg s h trivial))
 ·exact .inl (.inr ⟨o,zg s h trivial⟩)
 ·exact .inr h
structure Fx where
 K:Frag
 H0:Hp
 G0:Hp
 par:List Addr
 ca:Str->Addr
 br:Nat->Bool
 bx:Option Addr
inductive Sl where
 |no |fz (d:D) |ow (d:D) |bx |br (d:D)
abbrev En:=List Sl
inductive Nv where
 |no |da (d:D) |bx
def Sl.val:Sl->Nv
 | .no=>.no
 | .fz d=>.da d
 | .ow d=>.da d
 | .br d=>.da d
 | .bx=>.bx
def vl (env:En):List Nv:=env.map Sl.val
def Ma (Γ:Fx)(B:Option Addr)(G H:Hp)(i:Nat)(o:Option (Option V)):Sl->Prop
 | .no=>True
 | .fz d=>∃v,o=some (some v)/\Rp Γ.K G v d
 | .ow d=>∃a,o=some (some (.ref a))/\Γ.H0 a=none/\G a=none/\B≠some a/\Own Γ.K G H a d
 | .bx=>∃a,o=some (some (.ref a))/\B=some a
 | .br d=>Γ.br i=true/\∃a,o=some (some (.ref a))/\B≠some a/\a∉Γ.par/\Own Γ.K G H a d
structure SR (Γ:Fx)(B:Option Addr)(G H:Hp)(σ:St)(env:En)(β:Int):Prop where
 sub:ax G H
 old:ax Γ.G0 G
 new:∀b,Mx Γ.H0 b->Γ.G0 b=none->G b=none
 keep:∀b o,Γ.H0 b=some o->b∉Γ.par->Kt H b o
 pin:∀b,b∈Γ.par->Mx H b
 fix:∀b,Γ.bx=some b->B=some b
 box:∀b,B=some b->H b=some (.lst [.int β])/\G b=none/\(b∈Γ.par\/Γ.H0 b=none)
 len:σ.length=env.length
 slot:∀(i:Nat) (s:Sl),env[i]? =some s->Ma Γ B G H i (σ[i]?) s
 sep:∀(i j:Nat) (a:Addr) (d e:D),env[i]? =some (.ow d)->env[j]? =some (.ow e)->σ[i]? =some (some (.ref a))->σ[j]? =some (some (.ref a))->i=j
structure Ext (G H G' H':Hp):Prop where
 hh:ax H H'
 gg:ax G G'
 gh:ax G' H'
 on:∀b,Mx H b->G' b=G b
def Ext.refl {G H:Hp}(s:ax G H):Ext G H G H:=⟨ax.refl _,ax.refl _,s,λ_ _=>rfl⟩
def Ext.tups {G H H':Hp}(s:ax G H)(hh:ax H H'):Ext G H (jw G H') H':=⟨hh,oz,n0 (s.trans hh),λ_ m=>uQ hh m⟩
def Ext.new {G H:Hp}(s:ax G H){p:Addr}{o:HO}(h:H p=none):Ext G H (upd G p o) (upd H p o):=by
 refine⟨ax.new h,ax.new (s.free h),λb u e=>?_,λb hb=>?_⟩
 ·by_cases z:b=p
  ·subst z;rw[aC] at e;exact Kt.of (by rw[aC];exact e)
  ·rw[aB z] at e;exact lT (s b u e) z (λx y w=>by rw[h] at w;cases w)
 ·exact aB (λz=>hb.1 (by rw[z];exact h))
def Ext.own {G H:Hp}(s:ax G H){p:Addr}{o:HO}(h:H p=none):Ext G H G (upd H p o):=
 ⟨ax.new h,ax.refl _,s.trans (ax.new h),λ_ _=>rfl⟩
def Ext.trans {G H G1 H1 G2 H2:Hp}(x:Ext G H G1 H1)(y:Ext G1 H1 G2 H2):Ext G H G2 H2:=by
 refine⟨x.hh.trans y.hh,x.gg.trans y.gg,y.gh,λb hb=>?_⟩
 rw[y.on b (hb.same λo e=>x.hh b o e),x.on b hb]
section
variable {Γ:Fx}{B:Option Addr}{G H G' H':Hp}{σ:St}{env:En}{β:Int}
def SR.there (I:SR Γ B G H σ env β){b:Addr}(h:Γ.H0 b≠none):H b≠none:=by
 by_cases hp:b∈Γ.par
 ·exact (I.pin b hp).1
 ·cases e:Γ.H0 b with
  |none=>exact absurd e h
  |some o=>obtain⟨u,eu,_⟩:=(I.keep b o e hp).some;rw[eu];simp
def SR.thereM (I:SR Γ B G H σ env β){b:Addr}(h:Mx Γ.H0 b):Mx H b:=by
 by_cases hp:b∈Γ.par
 ·exact I.pin b hp
 ·exact h.same λo e=>I.keep b o e hp
def SR.ext (I:SR Γ B G H σ env β)(x:Ext G H G' H'):SR Γ B G' H' σ env β:=by
 refine⟨x.gh,I.old.trans x.gg,λb h1 h2=>?_,λb o h1 h2=>(I.keep b o h1 h2).step x.hh,λb hb=>?_,I.fix,λb e=>?_,I.len,λi s e=>?_,I.sep⟩
 ·rw[x.on b (I.thereM h1)];exact I.new b h1 h2
 ·exact (I.pin b hb).same λo e=>x.hh b o e
 ·obtain⟨h1,h2,h3⟩:=I.box b e
  exact⟨x.hh b _ h1,by rw[x.on b (Mx.lst h1)];exact h2,h3⟩
 ·have q:=I.slot i s e
  cases s with
  |no=>trivial
  |fz d=>obtain⟨v,h1,h2⟩:=q;exact⟨v,h1,h2.mono x.gg⟩
  |ow d=>
   obtain⟨a,h1,h2,h3,h4,h5⟩:=q
   exact⟨a,h1,h2,by rw[x.on a h5.mx];exact h3,h4,h5.mono x.gg λo q=>x.hh a o q⟩
  |bx=>exact q
  |br d=>obtain⟨b1,a,h1,h4,hp,h5⟩:=q;exact⟨b1,a,h1,h4,hp,h5.mono x.gg λo q=>x.hh a o q⟩
def ij (env:En)(i:Nat):En:=match env[i]? with
 |some (.ow d)=>env.set i (.fz d)
 |_=>env
def aY (L:List Nat)(env:En):En:=L.foldl ij env
def cH (L M:List Nat)(env:En):aY (L ++ M) env=aY M (aY L env):=by unfold aY;rw[List.foldl_append]
def xk (env:En)(i:Nat)(s:Sl)(h:∀t,env[i]? =some t->t.val=s.val):vl (env.set i s)=vl env:=by
 unfold vl
 apply List.ext_getElem?
 intro j
 rw[Nm,Nm,List.getElem?_set]
 by_cases e:i=j
 ·subst e
  by_cases hi:i < env.length
  ·simp only[Ol,hi]
   have:=h _ (M9 hi)
   simp[M9 hi,this]
  ·simp only[Ol,hi,Ov]
   rw[Oq (by omega)]
 ·simp[e]
def E9 (env:En)(i:Nat):vl (ij env i)=vl env:=by
 unfold ij
 split
 ·rename_i d e
  exact xk _ _ _ λt ht=>by rw[e] at ht;cases ht;rfl
 ·rfl
theorem e8 (L:List Nat)(env:En):vl (aY L env)=vl env:=by
 unfold aY
 induction L generalizing env with
 |nil=>rfl
 |cons i L ih=>rw[List.foldl_cons,ih,E9]
theorem Dp {i:Nat}{d:D}(h:(vl env)[i]? =some (.da d)):env[i]? =some (.fz d)\/env[i]? =some (.ow d)\/env[i]? =some (.br d):=by
 unfold vl at h
 rw[Nm] at h
 cases e:env[i]? with
 |none=>rw[e] at h;simp at h
 |some s=>
  rw[e] at h
  cases s with
  |no=>simp[Sl.val] at h
  |fz d'=>simp[Sl.val] at h;subst h;exact .inl rfl
  |ow d'=>simp[Sl.val] at h;subst h;exact .inr (.inl rfl)
  |bx=>simp[Sl.val] at h
  |br d'=>simp[Sl.val] at h;subst h;exact .inr (.inr rfl)
theorem KD {i:Nat}(h:(vl env)[i]? =some .bx):env[i]? =some .bx:=by
 unfold vl at h
 rw[Nm] at h
 cases e:env[i]? with
 |none=>rw[e] at h;simp at h
 |some s=>
  rw[e] at h
  cases s with
  |bx=>rfl
  |_=>simp[Sl.val] at h
def SR.freeze (I:SR Γ B G H σ env β)(i:Nat)(hb:Γ.br i=false){d:D}(h:(vl env)[i]? =some (.da d)):∃G' v,SR Γ B G' H σ (ij env i) β/\ax G G'/\σ[i]? =some (some v)/\Rp Γ.K G' v d:=by
 rcases Dp h with e |e |e
 ·obtain⟨v,h1,h2⟩:=I.slot i _ e
  exact⟨G,v,by unfold ij;rw[e];exact I,ax.refl _,h1,h2⟩
 rotate_left
 ·obtain⟨z,_⟩:=I.slot i _ e
  rw[hb] at z;cases z
 ·obtain⟨a,h1,h2,h3,h4,h5⟩:=I.slot i _ e
  obtain⟨o,ho⟩:=h5.obj
  have sG:ax G (upd G a o):=ax.new h3
  have hi:i < env.length:=(Ng.mp e).1
  have hr:Rp Γ.K (upd G a o) (.ref a) d:=h5.rp h3 sG λo' q=>by rw[ho] at q;cases q;exact aC
  refine⟨upd G a o,.ref a,?_,sG,h1,hr⟩
  unfold ij
  rw[e]
  refine⟨λb u q=>?_,I.old.trans sG,λb n1 n2=>?_,I.keep,I.pin,I.fix,λb q=>?_,by rw[Oi];exact I.len,λj s q=>?_,λj k c d1 d2 q1 q2 q3 q4=>?_⟩
  ·by_cases z:b=a
   ·subst z;rw[aC] at q;cases q;exact Kt.of ho
   ·rw[aB z] at q;exact I.sub b u q
  ·rw[aB (λz=>n1.1 (by rw[z];exact h2))];exact I.new b n1 n2
  ·obtain⟨k1,k2,k3⟩:=I.box b q
   exact⟨k1,by rw[aB (λz=>h4 (by rw[<-z];exact q))];exact k2,k3⟩
  ·by_cases z:j=i
   ·subst z
    rw[ND hi] at q
    cases q
    exact⟨.ref a,h1,hr⟩
   ·rw[NA (Ne.symm z)] at q
    have w:=I.slot j s q
    cases s with
    |no=>trivial
    |fz d'=>obtain⟨v,w1,w2⟩:=w;exact⟨v,w1,w2.mono sG⟩
    |ow d'=>
     obtain⟨c,w1,w2,w3,w4,w5⟩:=w
     have ca:c≠a:=λz2=>z (I.sep j i c d' d q e w1 (by rw[z2];exact h1))
     exact⟨c,w1,w2,by rw[aB ca];exact w3,w4,w5.mono sG λo q=>Kt.of q⟩
    |bx=>exact w
    |br d'=>obtain⟨b1,c,w1,w4,wp,w5⟩:=w;exact⟨b1,c,w1,w4,wp,w5.mono sG λo q=>Kt.of q⟩
  ·have ne:∀{j:Nat} {d':D},(env.set i (Sl.fz d))[j]? =some (.ow d')->env[j]? =some (.ow d'):=λ{j d'} q=>by
    by_cases z:j=i
    ·subst z;rw[ND hi] at q;cases q
    ·rw[NA (Ne.symm z)] at q;exact q
   exact I.sep j k c d1 d2 (ne q1) (ne q2) q3 q4
theorem SR.aY (I:SR Γ B G H σ env β)(L:List Nat)(hb:∀i,i∈L->Γ.br i=false):∃G',SR Γ B G' H σ (aY L env) β/\ax G G':=by
 induction L generalizing env G with
 |nil=>exact⟨G,I,ax.refl _⟩
 |cons i L ih=>
  show ∃G',SR Γ B G' H σ (L2.aY L (ij env i)) β/\ax G G'
  have key:∃G1,SR Γ B G1 H σ (ij env i) β/\ax G G1:=by
   cases e:env[i]? with
   |none=>exact⟨G,by unfold ij;rw[e];exact I,ax.refl _⟩
   |some s=>
    cases s with
    |ow d=>
     obtain⟨G1,v,h1,h2,_⟩:=I.freeze i (hb i (Np ..)) (d:=d) (by unfold vl;rw[Nm,e];rfl)
     exact⟨G1,h1,h2⟩
    |_=>exact⟨G,by unfold ij;rw[e];exact I,ax.refl _⟩
  obtain⟨G1,I1,s1⟩:=key
  obtain⟨G2,I2,s2⟩:=ih I1 λj hj=>hb j (Nn _ hj)
  exact⟨G2,I2,s1.trans s2⟩
def SR.set (I:SR Γ B G H σ env β){i:Nat}(hi:i < env.length){v:V}{d:D}(h:Rp Γ.K G v d):SR Γ B G H (σ.set i (some v)) (env.set i (.fz d)) β:=by
 have hs:i < σ.length:=by rw[I.len];exact hi
 refine⟨I.sub,I.old,I.new,I.keep,I.pin,I.fix,I.box,by rw[Oi,Oi];exact I.len,λj s q=>?_,λj k c d1 d2 q1 q2 q3 q4=>?_⟩
 ·by_cases z:j=i
  ·subst z
   rw[ND hi] at q
   cases q
   exact⟨v,by rw[ND hs],h⟩
  ·rw[NA (Ne.symm z)] at q ⊢
   exact I.slot j s q
 ·have ne:∀{j:Nat} {d':D},(env.set i (Sl.fz d))[j]? =some (.ow d')->j≠i/\env[j]? =some (.ow d'):=λ{j d'} q=>by
   by_cases z:j=i
   ·subst z;rw[ND hi] at q;cases q
   ·rw[NA (Ne.symm z)] at q;exact⟨z,q⟩
  obtain⟨n1,e1⟩:=ne q1
  obtain⟨n2,e2⟩:=ne q2
  rw[NA (Ne.symm n1)] at q3
  rw[NA (Ne.symm n2)] at q4
  exact I.sep j k c d1 d2 e1 e2 q3 q4
def SR.setOw (I:SR Γ B G H σ env β){i:Nat}(hi:i < env.length){a:Addr}{d:D}(h0:Γ.H0 a=none)(hg:G a=none)(hb:B≠some a)(h:Own Γ.K G H a d)(hn:∀(j:Nat) (d':D),env[j]? =some (.ow d')->j≠i->σ[j]?≠some (some (.ref a))):SR Γ B G H (σ.set i (some (.ref a))) (env.set i (.ow d)) β:=by
 have hs:i < σ.length:=by rw[I.len];exact hi
 refine⟨I.sub,I.old,I.new,I.keep,I.pin,I.fix,I.box,by rw[Oi,Oi];exact I.len,λj s q=>?_,λj k c d1 d2 q1 q2 q3 q4=>?_⟩
 ·by_cases z:j=i
  ·subst z
   rw[ND hi] at q
   cases q
   exact⟨a,by rw[ND hs],h0,hg,hb,h⟩
  ·rw[NA (Ne.symm z)] at q ⊢
   exact I.slot j s q
 ·by_cases z1:j=i
  ·by_cases z2:k=i
   ·rw[z1,z2]
   ·subst z1
    rw[NA (Ne.symm z2)] at q2 q4
    rw[ND hs] at q3
    cases q3
    exact absurd q4 (hn k d2 q2 z2)
  ·by_cases z2:k=i
   ·subst z2
    rw[NA (Ne.symm z1)] at q1 q3
    rw[ND hs] at q4
    cases q4
    exact absurd q3 (hn j d1 q1 z1)
   ·rw[NA (Ne.symm z1)] at q1 q3
    rw[NA (Ne.symm z2)] at q2 q4
    exact I.sep j k c d1 d2 q1 q2 q3 q4
def SR.fresh (I:SR Γ B G H σ env β){a:Addr}(h:H a=none):Γ.H0 a=none/\G a=none/\B≠some a/\∀(j:Nat) (d:D),env[j]? =some (.ow d)->σ[j]?≠some (some (.ref a)):=by
 have hB:B≠some a:=λz=>by rw[(I.box a z).1] at h;cases h
 refine⟨?_,I.sub.free h,hB,λj d e z=>?_⟩
 ·cases e:Γ.H0 a with
  |none=>rfl
  |some o=>exact absurd h (I.there (by rw[e];simp))
 ·obtain⟨c,h1,_,_,_,h5⟩:=I.slot j _ e
  rw[z] at h1
  cases h1
  obtain⟨o,ho⟩:=h5.obj
  rw[h] at ho;cases ho
def SR.write (I:SR Γ B G H σ env β)(hb:∀j,Γ.br j=false){i:Nat}{a:Addr}{d d':D}{o:HO}(e:env[i]? =some (.ow d))(ea:σ[i]? =some (some (.ref a)))(h:∀H',H' a=some o->ax G H'->Own Γ.K G H' a d'):SR Γ B G (upd H a o) σ (env.set i (.ow d')) β:=by
 obtain⟨a',h1,h2,h3,h4,h5⟩:=I.slot i _ e
 rw[ea] at h1;cases h1
 have hi:i < env.length:=(Ng.mp e).1
 have ha:∀x y,H a≠some (.aY x y):=λx y w=>h5.mx.2 _ w trivial
 have sub:ax G (upd H a o):=λb u q=>lT (I.sub b u q) (λz=>by rw[z,h3] at q;cases q) ha
 refine⟨sub,I.old,I.new,λb u q n=>?_,λb q=>?_,I.fix,λb q=>?_,by rw[Oi];exact I.len,λj s q=>?_,λj k c d1 d2 q1 q2 q3 q4=>?_⟩
 ·exact lT (I.keep b u q n) (λz=>by rw[z,h2] at q;cases q) ha
 ·by_cases z:b=a
  ·subst z;exact (h _ aC sub).mx
  ·exact (I.pin b q).same λo e=>Kt.of (by rw[aB z];exact e)
 ·obtain⟨k1,k2,k3⟩:=I.box b q
  exact⟨by rw[aB (λz=>h4 (by rw[<-z];exact q))];exact k1,k2,k3⟩
 ·by_cases z:j=i
  ·subst z
   rw[ND hi] at q
   cases q
   exact⟨a,ea,h2,h3,h4,h _ aC sub⟩
  ·rw[NA (Ne.symm z)] at q
   have w:=I.slot j s q
   cases s with
   |no=>trivial
   |fz d1=>exact w
   |ow d1=>
    obtain⟨c,w1,w2,w3,w4,w5⟩:=w
    have ca:c≠a:=λz2=>z (I.sep j i c d1 d q e w1 (by rw[z2];exact ea))
    exact⟨c,w1,w2,w3,w4,w5.mono (ax.refl _) λo q=>Kt.of (by rw[aB ca];exact q)⟩
   |bx=>exact w
   |br d1=>obtain⟨b1,_⟩:=w;rw[hb j] at b1;cases b1
 ·have back:∀{j:Nat} {d1:D},(env.set i (Sl.ow d'))[j]? =some (.ow d1)->∃d2,env[j]? =some (.ow d2):=λ{j d1} q=>by
   by_cases z:j=i
   ·subst z;exact⟨d,e⟩
   ·rw[NA (Ne.symm z)] at q;exact⟨d1,q⟩
  obtain⟨_,b1⟩:=back q1
  obtain⟨_,b2⟩:=back q2
  exact I.sep j k c _ _ b1 b2 q3 q4
end
inductive R (α:Type) where
 |ok (a:α) (β:Int)
 |exc (c:Str)
 |bad
def R.bnd {α γ:Type}(r:R α)(k:α->Int->R γ):R γ:=match r with
 | .ok a β=>k a β
 | .exc c=>.exc c
 | .bad=>.bad
def R.of {α:Type}(o:Option α)(β:Int):R α:=match o with
 |some a=>.ok a β
 |none=>.bad
abbrev VF (α:Type):=List Nv->Int->R α
def Kp (Γ:Fx)(H':Hp):Prop:=∀b o,Γ.H0 b=some o->b∉Γ.par->Kt H' b o
def Out {α:Type}(Γ:Fx)(E:XK)(r:R α)(P:α->Int->Prop):Prop:=match r with
 | .ok a β=>P a β
 | .exc c=>∀H',Kp Γ H'->E (.ref (Γ.ca c)) none H'
 | .bad=>False
section
variable {α γ:Type}{Γ:Fx}{E:XK}
theorem Out.bnd {r:R α}{k:α->Int->R γ}{P:γ->Int->Prop}(h:Out Γ E (r.bnd k) P):Out Γ E r λa β=>Out Γ E (k a β) P:=by
 cases r with
 |ok a β=>exact h
 |exc c=>exact h
 |bad=>exact h
theorem Out.imp {r:R α}{P P':α->Int->Prop}(h:Out Γ E r P)(i:∀a β,P a β->P' a β):Out Γ E r P':=by
 cases r with
 |ok a β=>exact i a β h
 |exc c=>exact h
 |bad=>exact h
theorem Out.of {o:Option α}{β:Int}{P:α->Int->Prop}(h:Out Γ E (R.of o β) P):∃a,o=some a/\P a β:=by
 cases o with
 |none=>exact h.elim
 |some a=>exact⟨a,rfl,h⟩
end
inductive Md where
 |b |v |w
def VO (K:Frag)(B:Option Addr)(H G' H':Hp):Md->D->V->Prop
 | .b,d,v=>mw K B G' H' v d
 | .v,d,v=>Rp K G' v d
 | .w,d,v=>∃a,v=.ref a/\H a=none/\G' a=none/\Own K G' H' a d
def pT (Γ:Fx)(E:XK)(f:VF D)(L:List Nat)(md:Md):TE:=λσ H Q=>∃env G B β,SR Γ B G H σ env β/\
 Out Γ E (f (vl env) β) λd β'=>∀v G' H',SR Γ B G' H' σ (aY L env) β'->ax G G'->iG B H H'->VO Γ.K B H G' H' md d v->Q v H'
def SE (X:Cx)(Γ:Fx)(E:XK)(e:Expr)(f:VF D)(L:List Nat)(md:Md):Prop:=PE X e (pT Γ E f L md)
def qT (Γ:Fx)(E:XK)(f:VF Bool)(L:List Nat):TT:=λσ H Q=>∃env G B β,SR Γ B G H σ env β/\
 Out Γ E (f (vl env) β) λc β'=>∀G' H',SR Γ B G' H' σ (aY L env) β'->ax G G'->iG B H H'->Q c H'
def xU (X:Cx)(Γ:Fx)(E:XK)(e:Expr)(f:VF Bool)(L:List Nat):Prop:=PT X e (qT Γ E f L)
def oq (X:Cx)(Γ:Fx)(E:XK)(e:Expr)(f:VF Bool)(L:List Nat):Prop:=PW X e (qT Γ E f L)
def aT (Γ:Fx)(E:XK)(f:VF (List D))(L:List Nat):TA:=λσ H Q=>∃env G B β,SR Γ B G H σ env β/\
 Out Γ E (f (vl env) β) λds β'=>∀vs G' H',SR Γ B G' H' σ (aY L env) β'->ax G G'->iG B H H'->cF Γ.K G' vs ds->Q vs H'
def SA (X:Cx)(Γ:Fx)(E:XK)(es:List Expr)(f:VF (List D))(L:List Nat):Prop:=PA X es (aT Γ E f L)
def PE.post' {X:Cx}{e:Expr}{t u:TE}(h:PE X e t)(m:∀σ H Q,u σ H Q->t σ H Q):PE X e u:=λpins s σ H Q I q=>h pins s σ H Q I (m σ H Q q)
def PT.post {X:Cx}{e:Expr}{t u:TT}(h:PT X e t)(m:∀σ H Q,u σ H Q->t σ H Q):PT X e u:=λpins s σ H Q I q=>h pins s σ H Q I (m σ H Q q)
def PW.post {X:Cx}{e:Expr}{t u:TT}(h:PW X e t)(m:∀σ H Q,u σ H Q->t σ H Q):PW X e u:=λwh pins s σ H Q I q=>h wh pins s σ H Q I (m σ H Q q)
def PA.post {X:Cx}{es:List Expr}{t u:TA}(h:PA X es t)(m:∀σ H Q,u σ H Q->t σ H Q):PA X es u:=λpos pins s σ H Q I q=>h pos pins s σ H Q I (m σ H Q q)
def PS.post {X:Cx}{st:Stmt}{t u:TS}(h:PS X st t)(m:∀D σ H,u D σ H->t D σ H):PS X st u:=λpins s σ H D I q=>h pins s σ H D I (m D σ H q)
def dat:Option Nv->Option D
 |some (.da d)=>some d
 |_=>none
def gv (i:Nat):VF D:=λvs β=>R.of (dat vs[i]?) β
def cst (d:D):VF D:=λ_ β=>.ok d β
section
variable {X:Cx}{Γ:Fx}{E:XK}{e a b c:Expr}{f fa fb fc:VF D}{L La Lb Lc:List Nat}{md ma mb mc:Md}{pos:Pos}
theorem join_some {o:Option Nv}{d:D}(h:dat o=some d):o=some (.da d):=by
 cases o with
 |none=>cases h
 |some o=>cases o with
  |da x=>cases h;rfl
  |_=>cases h
def SR.letIn {B:Option Addr}{G H:Hp}{σ:St}{env:En}{β:Int}(I:SR Γ B G H σ env β){p:Addr}{d:D}(h0:Γ.H0 p=none)(hg:G p=none)(hb:B≠some p)(hn:∀(j:Nat) (d':D),env[j]? =some (.ow d')->σ[j]?≠some (some (.ref p)))(h:Own Γ.K G H p d) :
  ∃G',SR Γ B G' H σ env β/\ax G G'/\Rp Γ.K G' (.ref p) d:=by
 obtain⟨o,ho⟩:=h.obj
 have sG:ax G (upd G p o):=ax.new hg
 refine⟨upd G p o,⟨λb u q=>?_,I.old.trans sG,λb n1 n2=>?_,I.keep,I.pin,I.fix,λb q=>?_,I.len,λj s q=>?_,I.sep⟩,sG,h.rp hg sG λo' q=>by rw[ho] at q;cases q;exact aC⟩
 ·by_cases z:b=p
  ·subst z;rw[aC] at q;cases q;exact Kt.of ho
  ·rw[aB z] at q;exact I.sub b u q
 ·rw[aB (λz=>n1.1 (by rw[z];exact h0))];exact I.new b n1 n2
 ·obtain⟨k1,k2,k3⟩:=I.box b q
  exact⟨k1,by rw[aB (λz=>hb (by rw[<-z];exact q))];exact k2,k3⟩
 ·have w:=I.slot j s q
  cases s with
  |no=>trivial
  |fz d'=>obtain⟨v,w1,w2⟩:=w;exact⟨v,w1,w2.mono sG⟩
  |ow d'=>
   obtain⟨c,w1,w2,w3,w4,w5⟩:=w
   have ca:c≠p:=λz2=>hn j d' q (by rw[<-z2];exact w1)
   exact⟨c,w1,w2,by rw[aB ca];exact w3,w4,w5.mono sG λo q=>Kt.of q⟩
  |bx=>exact w
  |br d'=>obtain⟨b1,c,w1,w4,wp,w5⟩:=w;exact⟨b1,c,w1,w4,wp,w5.mono sG λo q=>Kt.of q⟩
def uU {env:En}{i j:Nat}{d:D}(h:(ij env i)[j]? =some (.ow d)):env[j]? =some (.ow d):=by
 unfold ij at h
 split at h
 ·rename_i d' e
  by_cases z:i=j
  ·subst z
   rw[ND (Ng.mp e).1] at h;cases h
  ·rw[NA z] at h;exact h
 ·exact h
theorem qA {L:List Nat}{env:En}{j:Nat}{d:D}(h:(aY L env)[j]? =some (.ow d)):env[j]? =some (.ow d):=by
 unfold aY at h
 induction L generalizing env with
 |nil=>exact h
 |cons i L ih=>exact uU (ih h)
def SR.letW {B:Option Addr}{G H G' H':Hp}{σ:St}{env:En}{β β':Int}{L:List Nat}{d:D}{v:V}(I:SR Γ B G H σ env β)(I':SR Γ B G' H' σ (L2.aY L env) β')(h:VO Γ.K B H G' H' .w d v):∃G2,SR Γ B G2 H' σ (L2.aY L env) β'/\ax G' G2/\Rp Γ.K G2 v d:=by
 obtain⟨p,rfl,h1,h2,h3⟩:=h
 obtain⟨q1,q2,q3,q4⟩:=I.fresh h1
 exact I'.letIn q1 h2 q3 (λj d' e=>q4 j d' (qA e)) h3
def SE.wv (h:SE X Γ E e f L .w):SE X Γ E e f L .v:=by
 refine PE.post' h λσ H Q ⟨env,G,B,β,I,o⟩=>⟨env,G,B,β,I,o.imp λd β' k v G' H' I' s m vo=>?_⟩
 obtain⟨G2,I2,s2,r⟩:=I.letW I' vo
 exact k v G2 H' I2 (s.trans s2) m r
theorem VO.brw {B:Option Addr}{H G' H':Hp}{d:D}{v:V}{K:Frag}(h:VO K B H G' H' md d v)(hB:∀x,B=some x->H x≠none):mw K B G' H' v d:=by
 cases md with
 |b=>exact h
 |v=>exact .inl h
 |w=>
  obtain⟨p,rfl,h1,h2,h3⟩:=h
  exact .inr ⟨p,rfl,λz=>hB p z h1,h3⟩
def SR.boxThere {B:Option Addr}{G H:Hp}{σ:St}{env:En}{β:Int}(I:SR Γ B G H σ env β):∀x,B=some x->H x≠none:=λx e=>by rw[(I.box x e).1];simp
def ae (i:Nat){x:Str}(hN:X.N[i]? =some x:=by rfl)(hv:y7 X.env.scope x:=by first |exact Or.inl rfl |exact Or.inr (Or.inl rfl) |exact Or.inr (Or.inr rfl))(hd:(x == ("__debug__":Str))=false:=by decide)
  (hcd:(x == ("__classdict__":Str))=false:=by decide):SE X Γ E (.Name x pos) (gv i) [] .b:=by
 refine PE.post' (ki hN hv hd hcd) λσ H Q ⟨env,G,B,β,I,o⟩=>?_
 obtain⟨d,e,k⟩:=o.of
 have e:=join_some e
 rcases Dp e with q |q |q
 ·obtain⟨v,h1,h2⟩:=I.slot i _ q
  exact⟨v,h1,k v G H I (ax.refl _) (iG.refl _ _) (.inl h2)⟩
 ·obtain⟨p,h1,h2,h3,h4,h5⟩:=I.slot i _ q
  exact⟨.ref p,h1,k _ G H I (ax.refl _) (iG.refl _ _) (.inr ⟨p,rfl,h4,h5⟩)⟩
 ·obtain⟨_,p,h1,h4,_,h5⟩:=I.slot i _ q
  exact⟨.ref p,h1,k _ G H I (ax.refl _) (iG.refl _ _) (.inr ⟨p,rfl,h4,h5⟩)⟩
def av (i:Nat)(hb:Γ.br i=false){x:Str}(hN:X.N[i]? =some x:=by rfl)(hv:y7 X.env.scope x:=by first |exact Or.inl rfl |exact Or.inr (Or.inl rfl) |exact Or.inr (Or.inr rfl))(hd:(x == ("__debug__":Str))=false:=by decide)
  (hcd:(x == ("__classdict__":Str))=false:=by decide):SE X Γ E (.Name x pos) (gv i) [i] .v:=by
 refine PE.post' (ki hN hv hd hcd) λσ H Q ⟨env,G,B,β,I,o⟩=>?_
 obtain⟨d,e,k⟩:=o.of
 obtain⟨G',v,I',s,h1,h2⟩:=I.freeze i hb (join_some e)
 exact⟨v,h1,k v G' H I' s (iG.refl _ _) h2⟩
def Cy {v:V}{d:D}(h:PE X e (tC v))(r:∀G,Rp Γ.K G v d):SE X Γ E e (cst d) [] .v:=by
 refine PE.post' h λσ H Q ⟨env,G,B,β,I,o⟩=>?_
 exact o v G H I (ax.refl _) (iG.refl _ _) (r G)
def ak {i:Int}{j}:SE X Γ E (.Constant (.int i) j pos) (cst (.int i)) [] .v:=Cy xD λ_=>.int i
def cS {i:Bool}{j}:SE X Γ E (.Constant (.bool i) j pos) (cst (.bool i)) [] .v:=Cy yR λ_=>.bl i
def IA {j}:SE X Γ E (.Constant .none j pos) (cst .none) [] .v:=Cy GX λ_=>.non
def kc {x:Str}{j}:SE X Γ E (.Constant (.str x) j pos) (cst (.str x)) [] .v:=Cy HQ λ_=>.str x
def zl {x:Str}{i:Int}{t:Tok}(hg:Gl X x)(hm:X.mg x=some (.int i t))(hd:(x == ("__debug__":Str))=false:=by decide):SE X Γ E (.Name x pos) (cst (.int i)) [] .v:=Cy (ES hg hm (show RelV (.int i) _ from⟨_,rfl⟩) hd) λ_=>.int i
def two {W:V->V->Hp->Prop}{B:Option Addr}{G H:Hp}{σ:St}{env:En}{β:Int}(I:SR Γ B G H σ env β)
  (h:Out Γ E (fa (vl env) β) λd1 β1=>Out Γ E (fb (vl env) β1) λd2 β2=>∀x y G2 H2,SR Γ B G2 H2 σ (aY (La ++ Lb) env) β2->ax G G2->iG B H H2->mw Γ.K B G2 H2 x d1->mw Γ.K B G2 H2 y d2->W x y H2) :
  pT Γ E fa La ma σ H λx H1=>pT Γ E fb Lb mb σ H1 λy H2=>W x y H2:=by
 refine⟨env,G,B,β,I,h.imp λd1 β1 h x G1 H1 I1 s1 m1 vx=>⟨aY La env,G1,B,β1,I1,?_⟩⟩
 rw[e8]
 refine h.imp λd2 β2 k y G2 H2 I2 s2 m2 vy=>?_
 refine k x y G2 H2 (by rw[cH];exact I2) (s1.trans s2) (m1.trans m2) ((vx.brw I.boxThere).mono s2 m2) (vy.brw I1.boxThere)
def nt (K:Frag)(r:R2)(g:D->D->Option D)(md:Md):Prop:=∀(B:Option Addr) (G H:Hp) (x y:V) (dx dy d:D) (Q:VK),ax G H->(∀x,B=some x->H x≠none)->mw K B G H x dx->mw K B G H y dy->g dx dy=some d->
 (∀v G' H',Ext G H G' H'->VO K B H G' H' md d v->Q v H')->r x y H Q
def f2 (fa fb:VF D)(g:D->D->Option D):VF D:=λvs β=>(fa vs β).bnd λx β1=>(fb vs β1).bnd λy β2=>R.of (g x y) β2
theorem fT {B:Option Addr}{H H2:Hp}(m:iG B H H2)(hB:∀x,B=some x->H2 x≠none){p:Addr}(h:H2 p=none):H p=none:=by
 cases e:H p with
 |none=>rfl
 |some o=>obtain⟨u,eu,_⟩:=(m.1 p o e λz=>hB p z h).some;rw[eu] at h;cases h
theorem VO.back {K:Frag}{B:Option Addr}{H H2 G' H':Hp}{d:D}{v:V}(h:VO K B H2 G' H' md d v)(m:iG B H H2)(hB:∀x,B=some x->H2 x≠none):VO K B H G' H' md d v:=by
 cases md with
 |b=>exact h
 |v=>exact h
 |w=>obtain⟨p,e,h1,h2,h3⟩:=h;exact⟨p,e,fT m hB h1,h2,h3⟩
def pY {r:R2}{g:D->D->Option D}{Q:VK}(pr:nt Γ.K r g md){B:Option Addr}{G H:Hp}{σ:St}{env:En}{β:Int}(I:SR Γ B G H σ env β)
  (h:Out Γ E (f2 fa fb g (vl env) β) λd β'=>∀v G' H',SR Γ B G' H' σ (aY (La ++ Lb) env) β'->ax G G'->iG B H H'->VO Γ.K B H G' H' md d v->Q v H') :
  pT Γ E fa La ma σ H λx H1=>pT Γ E fb Lb mb σ H1 λy H2=>r x y H2 Q:=by
 refine two I (h.bnd.imp λd1 β1 h=>h.bnd.imp λd2 β2 h x y G2 H2 I2 s2 m2 bx by'=>?_)
 obtain⟨d,e,k⟩:=h.of
 refine pr B G2 H2 x y d1 d2 d Q I2.sub I2.boxThere bx by' e λv G' H' x' vo=>?_
 exact k v G' H' (I2.ext x') (s2.trans x'.gg) (m2.trans (x'.hh.mov B)) (vo.back m2 I2.boxThere)
def bu {op:Operator}{r:R2}{g:D->D->Option D}(ho:kG X (binaryOp op) r)(pr:nt Γ.K r g md)(ha:SE X Γ E a fa La ma)(hb:SE X Γ E b fb Lb mb):SE X Γ E (.BinOp a op b pos) (f2 fa fb g) (La ++ Lb) md:=
 PE.post' (tK ho ha hb) λσ H Q ⟨env,G,B,β,I,o⟩=>pY pr I o
def c5 {op:CmpOp}{r:R2}{g:D->D->Option D}(ho:kG X (compareOp op) r)(pr:nt Γ.K r g md)(ha:SE X Γ E a fa La ma)(hb:SE X Γ E b fb Lb mb)(hm:behindInMarks op b=false):SE X Γ E (.Compare a [op] [b] pos) (f2 fa fb g) (La ++ Lb) md:=
 PE.post' (E1 ho ha hb hm) λσ H Q ⟨env,G,B,β,I,o⟩=>pY pr I o
def aH {r:R2}{g:D->D->Option D}(hr:DA X r)(pr:nt Γ.K r g md)(ha:SE X Γ E a fa La ma)(hb:SE X Γ E b fb Lb mb)(hs:yZ b):SE X Γ E (.Subscript a b pos) (f2 fa fb g) (La ++ Lb) md:=
 PE.post' (mR hr ha hb hs) λσ H Q ⟨env,G,B,β,I,o⟩=>pY pr I o
def B6 (K:Frag)(r:V->Hp->VK->Prop)(g:D->Option D)(md:Md):Prop:=∀(B:Option Addr) (G H:Hp) (x:V) (dx d:D) (Q:VK),ax G H->(∀x,B=some x->H x≠none)->mw K B G H x dx->g dx=some d->
 (∀v G' H',Ext G H G' H'->VO K B H G' H' md d v->Q v H')->r x H Q
def f1 (fa:VF D)(g:D->Option D):VF D:=λvs β=>(fa vs β).bnd λx β1=>R.of (g x) β1
def lb {r:V->Hp->VK->Prop}{g:D->Option D}{Q:VK}(pr:B6 Γ.K r g md){B:Option Addr}{G H:Hp}{σ:St}{env:En}{β:Int}(I:SR Γ B G H σ env β)
  (h:Out Γ E (f1 fa g (vl env) β) λd β'=>∀v G' H',SR Γ B G' H' σ (aY La env) β'->ax G G'->iG B H H'->VO Γ.K B H G' H' md d v->Q v H') :
  pT Γ E fa La ma σ H λx H1=>r x H1 Q:=by
 refine⟨env,G,B,β,I,h.bnd.imp λd1 β1 h x G1 H1 I1 s1 m1 vx=>?_⟩
 obtain⟨d,e,k⟩:=h.of
 refine pr B G1 H1 x d1 d Q I1.sub I1.boxThere (vx.brw I.boxThere) e λv G' H' x' vo=>?_
 exact k v G' H' (I1.ext x') (s1.trans x'.gg) (m1.trans (x'.hh.mov B)) (vo.back m1 I1.boxThere)
def Dr {op:UnaryOp}{r:V->Hp->VK->Prop}{g:D->Option D}(ho:Lj X (unaryOp op) r)(pr:B6 Γ.K r g md)(ha:SE X Γ E a fa La ma):SE X Γ E (.UnaryOp op a pos) (f1 fa g) La md:=
 PE.post' (JF ho ha) λσ H Q ⟨env,G,B,β,I,o⟩=>lb pr I o
def aN {id:String}{r:List V->Hp->VK->Prop}{g:D->Option D}{x:Str}{p:Pos}(hc:iJ X (.builtin id) r)(pr:B6 Γ.K (λx=>r [x]) g md)(hg:Gl X x)(hm:X.mg x=none)(hv:bootBuiltins x=some (.builtin id))(ha:SE X Γ E a fa La ma)(hn:x≠"__name__":=by decide)(hdb:(x == ("__debug__":Str))=false:=by decide)
  (he:starEach [a] X.env=(false,eval a X.env) :: starEach [] X.env:=by rfl):SE X Γ E (.Call (.Name x p) [a] [] pos) (f1 fa g) La md:=
 PE.post' (qZ hc hg hm hv (bc ha cp he) hn hdb he) λσ H Q ⟨env,G,B,β,I,o⟩=>lb (r:=λx=>r [x]) pr I o
def jv {id:String}{r:List V->Hp->VK->Prop}{g:D->Option D}{x:Str}{p:Pos}(hc:iJ X (.type id) r)(pr:B6 Γ.K (λx=>r [x]) g md)(hg:Gl X x)(hm:X.mg x=none)(hv:bootBuiltins x=some (.type id))(ha:SE X Γ E a fa La ma)(hn:x≠"__name__":=by decide)(hdb:(x == ("__debug__":Str))=false:=by decide)
  (he:starEach [a] X.env=(false,eval a X.env) :: starEach [] X.env:=by rfl):SE X Γ E (.Call (.Name x p) [a] [] pos) (f1 fa g) La md:=
 PE.post' (mn hc hg hm hv (bc ha cp he) hn hdb he) λσ H Q ⟨env,G,B,β,I,o⟩=>lb (r:=λx=>r [x]) pr I o
def eh (fa fb:VF D):VF D:=λvs β=>(fa vs β).bnd λx β1=>match x with
 | .bool true=>fb vs β1
 | .bool false=>.ok (.bool false) β1
 |_=>.bad
def GA (fa fb:VF D):VF D:=λvs β=>(fa vs β).bnd λx β1=>match x with
 | .bool false=>fb vs β1
 | .bool true=>.ok (.bool true) β1
 |_=>.bad
def fN {op}(h:SE X Γ E a fa La md):SE X Γ E (.BoolOp op [a] pos) fa La md:=IJ h
theorem fH {rest:List Expr}(ha:SE X Γ E a fa La ma)(hb:SE X Γ E (.BoolOp .And (b :: rest) pos) fb Lb .v)(hbr:∀i,i∈Lb->Γ.br i=false):SE X Γ E (.BoolOp .And (a :: b :: rest) pos) (eh fa fb) (La ++ Lb) .v:=by
 refine PE.post' (GP ha hb) λσ H Q ⟨env,G,B,β,I,o⟩=>?_
 refine⟨env,G,B,β,I,o.bnd.imp λd1 β1 h x G1 H1 I1 s1 m1 vx=>?_⟩
 have bx:=vx.brw I.boxThere
 cases d1 with
 |bool c=>
  obtain rfl:=bx.bool
  refine⟨c,rfl,?_⟩
  cases c with
  |true=>exact rj ⟨_,G1,B,β1,I1,by rw[e8];exact h.imp λd β' k v G' H' I' s' m' vo=>k v G' H' (by rw[cH];exact I') (s1.trans s') (m1.trans m') vo⟩
  |false=>
   obtain⟨G2,I2,s2⟩:=I1.aY Lb hbr
   exact rF (h _ G2 H1 (by rw[cH];exact I2) (s1.trans s2) m1 (.bl false))
 |_=>exact h.elim
theorem Gh {rest:List Expr}(ha:SE X Γ E a fa La ma)(hb:SE X Γ E (.BoolOp .Or (b :: rest) pos) fb Lb .v)(hbr:∀i,i∈Lb->Γ.br i=false):SE X Γ E (.BoolOp .Or (a :: b :: rest) pos) (GA fa fb) (La ++ Lb) .v:=by
 refine PE.post' (Jp ha hb) λσ H Q ⟨env,G,B,β,I,o⟩=>?_
 refine⟨env,G,B,β,I,o.bnd.imp λd1 β1 h x G1 H1 I1 s1 m1 vx=>?_⟩
 have bx:=vx.brw I.boxThere
 cases d1 with
 |bool c=>
  obtain rfl:=bx.bool
  refine⟨c,rfl,?_⟩
  cases c with
  |true=>
   obtain⟨G2,I2,s2⟩:=I1.aY Lb hbr
   exact rj (h _ G2 H1 (by rw[cH];exact I2) (s1.trans s2) m1 (.bl true))
  |false=>exact rF ⟨_,G1,B,β1,I1,by rw[e8];exact h.imp λd β' k v G' H' I' s' m' vo=>k v G' H' (by rw[cH];exact I') (s1.trans s') (m1.trans m') vo⟩
 |_=>exact h.elim
def zX:D->Option D
 | .bool c=>some (.bool (!c))
 |_=>none
theorem yx (ha:SE X Γ E a fa La ma):SE X Γ E (.UnaryOp .Not a pos) (f1 fa zX) La .v:=by
 refine PE.post' (GC ha) λσ H Q ⟨env,G,B,β,I,o⟩=>?_
 refine lb (r:=λx H1 Q=>∃c,x=.bl c/\Q (.bl (!c)) H1) ?_ I o
 intro B G H x dx d Q s hB bx e k
 cases dx with
 |bool c=>
  obtain rfl:=bx.bool
  cases e
  exact⟨c,rfl,k _ G H (Ext.refl s) (.bl _)⟩
 |_=>cases e
def GR:D->Option Bool
 | .none=>some false
 | .bool b=>some b
 | .int i=>some (i != 0)
 | .str y=>if y.length<=sizeLine then some ((y.length:Int) != 0) else none
 | .list ds=>some (!ds.isEmpty)
 | .tuple ds=>some (!ds.isEmpty)
 | .dict _=>none
def fP (fa:VF D):VF Bool:=λvs β=>(fa vs β).bnd λx β1=>R.of (GR x) β1
def pe {K:Frag}{G:Hp}{xs:List V}{ds:List D}(r:cF K G xs ds):(!ds.isEmpty)= !xs.isEmpty:=by cases r <;> rfl
theorem bD (hK:X.K=Γ.K)(ha:SE X Γ E a fa La ma)(he:∀whole,isTrue a X.env whole=(do let v <-whole;standAt a.pos;holding [v] (truthy v)):=by intro _;rfl):xU X Γ E a (fP fa) La:=by
 refine PT.post (BX ha he) λσ H Q ⟨env,G,B,β,I,o⟩=>?_
 refine⟨env,G,B,β,I,o.bnd.imp λd1 β1 h x G1 H1 I1 s1 m1 vx=>?_⟩
 obtain⟨c,e,k⟩:=h.of
 have bx:=vx.brw I.boxThere
 refine⟨c,?_,k G1 H1 I1 s1 m1⟩
 rw[hK]
 cases d1 with
 |none=>obtain rfl:=bx.none;cases e;rfl
 |bool b=>obtain rfl:=bx.bool;cases e;rfl
 |int i=>obtain rfl:=bx.int;cases e;rfl
 |str y=>
  obtain rfl:=bx.str
  simp only[GR] at e
  split at e
  ·cases e;exact⟨by assumption,rfl⟩
  ·cases e
 |list ds=>obtain⟨p,xs,rfl,hq,r⟩:=bx.list I1.sub;cases e;exact .inl ⟨xs,.inl hq,pe r⟩
 |tuple ds=>obtain⟨p,xs,rfl,hq,r⟩:=bx.tuple I1.sub;cases e;exact .inr (.inl ⟨xs,hq,pe r⟩)
 |dict ds=>cases e
def cz (fa:VF D):VF Bool:=λvs β=>(fa vs β).bnd λx β1=>match x with
 | .bool c=>.ok c β1
 |_=>.bad
theorem a8 {op:CmpOp}{r:R2}{g:D->D->Option D}(ho:kG X (compareOp op) r)(pr:nt Γ.K r g .v)(ha:SE X Γ E a fa La ma)(hb:SE X Γ E b fb Lb mb)(hm:behindInMarks op b=false):xU X Γ E (.Compare a [op] [b] pos) (cz (f2 fa fb g)) (La ++ Lb):=by
 refine PT.post (Fs ho ha hb hm) λσ H Q ⟨env,G,B,β,I,o⟩=>?_
 refine pY pr I (o.bnd.imp λd β' h v G' H' I' s' m' vo=>?_)
 cases d with
 |bool c=>cases vo;exact⟨c,rfl,h G' H' I' s' m'⟩
 |_=>exact h.elim
def kB (t:VF Bool):VF Bool:=λvs β=>(t vs β).bnd λc β1=>.ok (!c) β1
def xj (t u:VF Bool):VF Bool:=λvs β=>(t vs β).bnd λc β1=>if c=true then u vs β1 else .ok false β1
def ie (t u:VF Bool):VF Bool:=λvs β=>(t vs β).bnd λc β1=>if c=true then .ok true β1 else u vs β1
variable {ta tb tc:VF Bool}
def bM (ha:xU X Γ E a ta La):xU X Γ E (.UnaryOp .Not a pos) (kB ta) La:=by
 refine PT.post (Gy ha) λσ H Q ⟨env,G,B,β,I,o⟩=>?_
 exact⟨env,G,B,β,I,o.bnd.imp λc β1 h=>h⟩
def oq.t (h:oq X Γ E e ta La):xU X Γ E e ta La:=PW.pt h
def p9 (ha:xU X Γ E a ta La):oq X Γ E (.BoolOp .And [a] pos) ta La:=zK ha
def fL (ha:xU X Γ E a ta La):oq X Γ E (.BoolOp .Or [a] pos) ta La:=GF ha
theorem uV {rest:List Expr}(ha:xU X Γ E a ta La)(hb:oq X Γ E (.BoolOp .And (b :: rest) pos) tb Lb)(hbr:∀i,i∈Lb->Γ.br i=false):oq X Γ E (.BoolOp .And (a :: b :: rest) pos) (xj ta tb) (La ++ Lb):=by
 refine PW.post (Cd ha hb) λσ H Q ⟨env,G,B,β,I,o⟩=>?_
 refine⟨env,G,B,β,I,o.bnd.imp λc β1 h G1 H1 I1 s1 m1=>?_⟩
 cases c with
 |true=>exact rj ⟨_,G1,B,β1,I1,by rw[e8];exact Out.imp h λd β' k G' H' I' s' m'=>k G' H' (by rw[cH];exact I') (s1.trans s') (m1.trans m')⟩
 |false=>
  obtain⟨G2,I2,s2⟩:=I1.aY Lb hbr
  exact rF (h G2 H1 (by rw[cH];exact I2) (s1.trans s2) m1)
theorem gC {rest:List Expr}(ha:xU X Γ E a ta La)(hb:oq X Γ E (.BoolOp .Or (b :: rest) pos) tb Lb)(hbr:∀i,i∈Lb->Γ.br i=false):oq X Γ E (.BoolOp .Or (a :: b :: rest) pos) (ie ta tb) (La ++ Lb):=by
 refine PW.post (Ju ha hb) λσ H Q ⟨env,G,B,β,I,o⟩=>?_
 refine⟨env,G,B,β,I,o.bnd.imp λc β1 h G1 H1 I1 s1 m1=>?_⟩
 cases c with
 |true=>
  obtain⟨G2,I2,s2⟩:=I1.aY Lb hbr
  exact rj (h G2 H1 (by rw[cH];exact I2) (s1.trans s2) m1)
 |false=>exact rF ⟨_,G1,B,β1,I1,by rw[e8];exact Out.imp h λd β' k G' H' I' s' m'=>k G' H' (by rw[cH];exact I') (s1.trans s') (m1.trans m')⟩
def KY (t:VF Bool)(fa fb:VF D):VF D:=λvs β=>(t vs β).bnd λc β1=>if c=true then fa vs β1 else fb vs β1
theorem Kr (hc:xU X Γ E c tc Lc)(ha:SE X Γ E a fa La md)(hb:SE X Γ E b fb Lb md)(hbr:∀i,i∈La ++ Lb->Γ.br i=false):SE X Γ E (.IfExp c a b pos) (KY tc fa fb) (Lc ++ (La ++ Lb)) md:=by
 refine PE.post' (CF hc ha hb) λσ H Q ⟨env,G,B,β,I,o⟩=>?_
 refine⟨env,G,B,β,I,o.bnd.imp λc β1 h G1 H1 I1 s1 m1=>?_⟩
 obtain⟨G2,I2,s2⟩:=I1.aY (La ++ Lb) hbr
 have idem:∀M:List Nat,(∀i,i∈M->i∈La ++ Lb)->aY M (aY (La ++ Lb) (aY Lc env))=aY (La ++ Lb) (aY Lc env):=by
  have key:∀(M:List Nat) (en:En) (k:Nat),k∈M->∀d',(aY M en)[k]?≠some (.ow d'):=by
   intro M
   induction M with
   |nil=>intro en k hm;cases hm
   |cons i M ih=>
    intro en k hm d' z
    rcases Nh.mp hm with y |y
    ·subst y
     have z1:(ij en k)[k]? =some (.ow d'):=qA (L:=M) z
     have z2:=uU z1
     unfold ij at z1
     rw[z2] at z1
     dsimp only at z1
     rw[ND (Ng.mp z2).1] at z1;cases z1
    ·exact ih (ij en i) k y d' z
  intro M
  induction M with
  |nil=>intro _;rfl
  |cons i M ih=>
   intro hM
   show aY M (ij _ i)=_
   have:ij (aY (La ++ Lb) (aY Lc env)) i=aY (La ++ Lb) (aY Lc env):=by
    have hn:=key (La ++ Lb) (aY Lc env) i (hM i (Np ..))
    generalize aY (La ++ Lb) (aY Lc env)=en at hn ⊢
    unfold ij
    split
    ·rename_i d e;exact absurd e (hn d)
    ·rfl
   rw[this]
   exact ih λj hj=>hM j (Nn _ hj)
 have go:∀{f:VF D} {M:List Nat},(∀i,i∈M->i∈La ++ Lb)->Out Γ E (f (vl env) β1) (λd β'=>∀v G' H',SR Γ B G' H' σ (aY (Lc ++ (La ++ Lb)) env) β'->ax G G'->iG B H H'->VO Γ.K B H G' H' md d v->Q v H')->pT Γ E f M md σ H1 Q:=λ{f M} hM h=>by
  refine⟨_,G2,B,β1,I2,?_⟩
  rw[e8,e8]
  refine h.imp λd β' k v G' H' I' s' m' vo=>?_
  rw[idem M hM,<-cH] at I'
  exact k v G' H' I' ((s1.trans s2).trans s') (m1.trans m') (vo.back m1 I1.boxThere)
 cases c with
 |true=>exact rj (go (λi hi=>OQ _ hi) h)
 |false=>exact rF (go (λi hi=>NH _ hi) h)
def ag:VF (List D):=λ_ β=>.ok [] β
def aa (fa:VF D)(fr:VF (List D)):VF (List D):=λvs β=>(fa vs β).bnd λx β1=>(fr vs β1).bnd λxs β2=>.ok (x :: xs) β2
variable {fr:VF (List D)}{es:List Expr}
def af:SA X Γ E [] ag []:=PA.post cp λσ H Q ⟨env,G,B,β,I,o⟩=>o [] G H I (ax.refl _) (iG.refl _ _) .nil
def ab (ha:SE X Γ E a fa La .v)(hr:SA X Γ E es fr Lb)(hs:starEach (a :: es) X.env=(false,eval a X.env) :: starEach es X.env:=by rfl):SA X Γ E (a :: es) (aa fa fr) (La ++ Lb):=by
 refine PA.post (bc ha hr hs) λσ H Q ⟨env,G,B,β,I,o⟩=>?_
 refine⟨env,G,B,β,I,o.bnd.imp λd1 β1 h x G1 H1 I1 s1 m1 vx=>⟨aY La env,G1,B,β1,I1,?_⟩⟩
 rw[e8]
 refine h.bnd.imp λds β2 k xs G2 H2 I2 s2 m2 r=>?_
 exact k (x :: xs) G2 H2 (by rw[cH];exact I2) (s1.trans s2) (m1.trans m2) (.cons (vx.mono s2) r)
def bY (fr:VF (List D)):VF D:=λvs β=>(fr vs β).bnd λds β1=>if ds.length<=sizeLine then .ok (.tuple ds) β1 else .bad
def cC (fr:VF (List D)):VF D:=λvs β=>(fr vs β).bnd λds β1=>if ds.length<=sizeLine then .ok (.list ds) β1 else .bad
def b7 {x1}(h:SA X Γ E es fr L):SE X Γ E (.Tuple es x1 pos) (bY fr) L .v:=by
 refine PE.post' (yt h) λσ H Q ⟨env,G,B,β,I,o⟩=>?_
 refine⟨env,G,B,β,I,o.bnd.imp λds β1 k xs G1 H1 I1 s1 m1 r=>?_⟩
 by_cases hz:ds.length<=sizeLine
 ·rw[Nc hz] at k
  refine⟨by rw[r.len];exact hz,λp hp=>?_⟩
  have x:=Ext.new I1.sub (o:=.tup xs) hp
  exact k _ _ _ (I1.ext x) (s1.trans x.gg) (m1.trans (x.hh.mov B)) (.tup (.inl (.inl aC)) (r.mono x.gg))
 ·rw[Nk hz] at k;exact k.elim
def bQ (h:SA X Γ E es fr L):SE X Γ E (.List es pos) (cC fr) L .w:=by
 refine PE.post' (Dz h) λσ H Q ⟨env,G,B,β,I,o⟩=>?_
 refine⟨env,G,B,β,I,o.bnd.imp λds β1 k xs G1 H1 I1 s1 m1 r=>?_⟩
 by_cases hz:ds.length<=sizeLine
 ·rw[Nc hz] at k
  refine⟨by rw[r.len];exact hz,λp hp=>?_⟩
  have x:=Ext.own I1.sub (o:=.lst xs) hp
  exact k _ _ _ (I1.ext x) s1 (m1.trans (x.hh.mov B)) ⟨p,rfl,fT m1 I1.boxThere hp,I1.sub.free hp,xs,aC,r⟩
 ·rw[Nk hz] at k;exact k.elim
inductive FR where
 |ok (d:D) (fresh:Bool)
 |exc (c:Str)
 |bad
def FV (K:Frag)(H G' H':Hp)(fr:Bool)(d:D)(v:V):Prop:=if fr=true then ∃a,v=.ref a/\H a=none/\G' a=none/\Own K G' H' a d else Rp K G' v d
def DD (K:Frag)(ca:Str->Addr)(n:Nat)(F:List D->FR):Sp:=λvs H Q E=>∃G ds,ax G H/\ds.length=n/\cF K G vs ds/\match F ds with
 | .ok d fr=>∀v G' H',ax H H'->ax G G'->ax G' H'->(∀b,Mx H b->G b=none->G' b=none)->FV K H G' H' fr d v->Q v H'
 | .exc c=>∀H',ax H H'->E (.ref (ca c)) none H'
 | .bad=>False
structure bR (P:Program)(w:World)(K:Frag)(mg:Str->Option Value)(base:Heap)(ca:Str->Addr)(x:Str)(ps:List Str)(k:Nat)(F:List D->FR):Prop where
 ex:∃f fd,mg x=some (.ref f)/\PySem.W.keepIn K (.ref f)=true/\Binds K fd ps []/\fq P w K mg base (nE P w) k f fd ps (DD K ca ps.length F)
 len:∀ds,F ds≠.bad->ds.length=ps.length
def aw (F:List D->FR)(fr:VF (List D)):VF D:=λvs β=>(fr vs β).bnd λds β1=>match F ds with
 | .ok d _=>.ok d β1
 | .exc c=>.exc c
 | .bad=>.bad
def sO (F:List D->FR)(fr:VF (List D)):VF D:=λvs β=>(fr vs β).bnd λds β1=>match F ds with
 | .ok d true=>.ok d β1
 | .ok _ false=>.bad
 | .exc c=>.exc c
 | .bad=>.bad
def SR.called {B:Option Addr}{G1 H1 G2 H2:Hp}{σ:St}{env:En}{β:Int}(I1:SR Γ B G1 H1 σ env β)(h:ax H1 H2)(g:ax G1 G2)(s:ax G2 H2)(n:∀b,Mx H1 b->G1 b=none->G2 b=none):SR Γ B G2 H2 σ env β/\iG B H1 H2:=by
 refine⟨⟨s,I1.old.trans g,λb n1 n2=>?_,λb o e np=>(I1.keep b o e np).step h,λb hb=>?_,I1.fix,λb e=>?_,I1.len,λi t e=>?_,I1.sep⟩,h.mov B⟩
 ·exact n b (I1.thereM n1) (I1.new b n1 n2)
 ·exact (I1.pin b hb).same λo e=>h b o e
 ·obtain⟨h1,h2,h3⟩:=I1.box b e
  exact⟨h b _ h1,n b (Mx.lst h1) h2,h3⟩
 ·have q:=I1.slot i t e
  cases t with
  |no=>trivial
  |fz d=>obtain⟨v,h1,h2⟩:=q;exact⟨v,h1,h2.mono g⟩
  |ow d=>
   obtain⟨p,h1,h2,h3,h4,h5⟩:=q
   exact⟨p,h1,h2,n p h5.mx h3,h4,h5.mono g λo q=>h p o q⟩
  |bx=>exact q
  |br d=>obtain⟨b1,p,h1,h4,hp,h5⟩:=q;exact⟨b1,p,h1,h4,hp,h5.mono g λo q=>h p o q⟩
def SR.kp {B:Option Addr}{G H H':Hp}{σ:St}{env:En}{β:Int}(I:SR Γ B G H σ env β)(h:ax H H'):Kp Γ H':=λb o e n=>(I.keep b o e n).step h
theorem oN {F:List D->FR}{ps:List Str}{Q:VK}{B:Option Addr}{G H:Hp}{σ:St}{env:En}{β:Int}(I:SR Γ B G H σ env β)(hK:X.K=Γ.K){wv:Bool}
  (h:Out Γ E (if wv=true then sO F fr (vl env) β else aw F fr (vl env) β) λd β'=>∀v G' H',SR Γ B G' H' σ (aY L env) β'->ax G G'->iG B H H'->VO Γ.K B H G' H' (if wv=true then .w else .v) d v->Q v H') (hl:∀ds,F ds≠.bad->ds.length=ps.length) :
  aT Γ E fr L σ H λvs H1=>DD X.K Γ.ca ps.length F vs H1 Q E:=by
 refine⟨env,G,B,β,I,?_⟩
 have h:Out Γ E (fr (vl env) β) λds β1=>Out Γ E (match F ds with
   | .ok d true=>.ok d β1
   | .ok d false=>if wv=true then .bad else .ok d β1
   | .exc c=>.exc c
   | .bad=>.bad) λd β'=>∀v G' H',SR Γ B G' H' σ (aY L env) β'->ax G G'->iG B H H'->VO Γ.K B H G' H' (if wv=true then .w else .v) d v->Q v H':=by
  cases wv with
  |true=>
   simp only[Ol] at h ⊢
   refine h.bnd.imp λds β1 h=>?_
   cases q:F ds with
   |ok d b=>rw[q] at h;cases b <;> exact h
   |exc c=>rw[q] at h;exact h
   |bad=>rw[q] at h;exact h
  |false=>
   simp only[Oc,Ov] at h ⊢
   refine h.bnd.imp λds β1 h=>?_
   cases q:F ds with
   |ok d b=>rw[q] at h;cases b <;> exact h
   |exc c=>rw[q] at h;exact h
   |bad=>rw[q] at h;exact h
 refine h.imp λds β1 k vs G1 H1 I1 s1 m1 r=>?_
 refine⟨G1,ds,I1.sub,?_,by rw[hK];exact r,?_⟩
 ·exact hl ds λz=>by rw[z] at k;exact k
 cases q:F ds with
 |bad=>rw[q] at k;exact k
 |exc c=>rw[q] at k;exact λH' s=>k H' (I1.kp s)
 |ok d b=>
  rw[q] at k
  intro v G' H' hh hg hs hn fv
  obtain⟨I2,m2⟩:=I1.called hh hg hs hn
  cases b with
  |true=>
   obtain⟨p,rfl,p1,p2,p3⟩:∃a,v=.ref a/\H1 a=none/\G' a=none/\Own X.K G' H' a d:=fv
   rw[hK] at p3
   have hp:=fT m1 I1.boxThere p1
   cases wv with
   |true=>exact k _ G' H' I2 (s1.trans hg) (m1.trans m2) ⟨p,rfl,hp,p2,p3⟩
   |false=>
    obtain⟨q1,q2,q3,q4⟩:=I1.fresh p1
    obtain⟨G3,I3,s3,r3⟩:=I2.letIn q1 p2 q3 q4 p3
    exact k _ G3 H' I3 ((s1.trans hg).trans s3) (m1.trans m2) r3
  |false=>
   cases wv with
   |true=>exact k.elim
   |false=>
    have fv:Rp X.K G' v d:=fv
    rw[hK] at fv
    exact k _ G' H' I2 (s1.trans hg) (m1.trans m2) fv
def aE {x:Str}{ps:List Str}{k:Nat}{F:List D->FR}{p:Pos}(hf:bR X.prog X.w X.K X.mg X.base Γ.ca x ps k F)(hr:dJ k X.A)(hx:Passes (nE X.prog X.w) X E)(hK:X.K=Γ.K)(hg:Gl X x)(ha:SA X Γ E (a :: es) fr L)(hdb:(x == ("__debug__":Str))=false:=by decide)
  (he:starEach (a :: es) X.env=(false,eval a X.env) :: starEach es X.env:=by rfl) (hpl:(backTo pos (starEach es X.env)).any (·.1)=false:=by rfl):SE X Γ E (.Call (.Name x p) (a :: es) [] pos) (aw F fr) L .v:=by
 obtain⟨f,fd,hm,hk,hb,hF⟩:=hf.ex
 refine PE.post' (nK (dvs:=[]) hF hr hg hm hk hb .nil hx ha hdb he hpl) λσ H Q ⟨env,G,B,β,I,o⟩=>?_
 show aT Γ E fr L σ H λvs H1=>DD X.K Γ.ca ps.length F (vs ++ []) H1 Q E
 have:=oN (Q:=Q) (wv:=false) (ps:=ps) I hK o hf.len
 simpa using this
def BK {x:Str}{ps:List Str}{k:Nat}{F:List D->FR}{p:Pos}(hf:bR X.prog X.w X.K X.mg X.base Γ.ca x ps k F)(hr:dJ k X.A)(hx:Passes (nE X.prog X.w) X E)(hK:X.K=Γ.K)(hg:Gl X x)(ha:SA X Γ E (a :: es) fr L)(hdb:(x == ("__debug__":Str))=false:=by decide)
  (he:starEach (a :: es) X.env=(false,eval a X.env) :: starEach es X.env:=by rfl) (hpl:(backTo pos (starEach es X.env)).any (·.1)=false:=by rfl):SE X Γ E (.Call (.Name x p) (a :: es) [] pos) (sO F fr) L .w:=by
 obtain⟨f,fd,hm,hk,hb,hF⟩:=hf.ex
 refine PE.post' (nK (dvs:=[]) hF hr hg hm hk hb .nil hx ha hdb he hpl) λσ H Q ⟨env,G,B,β,I,o⟩=>?_
 show aT Γ E fr L σ H λvs H1=>DD X.K Γ.ca ps.length F (vs ++ []) H1 Q E
 have:=oN (Q:=Q) (wv:=true) (ps:=ps) I hK o hf.len
 simpa using this
end
inductive SO where
 |nx (env:En) (β:Int)
 |bk (env:En) (β:Int)
 |ct (env:En) (β:Int)
 |rt (d:D) (fr:Bool) (β:Int)
 |exc (c:Str)
 |bad
abbrev SF:=En->Int->SO
def RV (Γ:Fx)(G' H':Hp)(fr:Bool)(d:D)(v:V):Prop:=if fr=true then ∃a,v=.ref a/\Γ.H0 a=none/\G' a=none/\Own Γ.K G' H' a d else Rp Γ.K G' v d
def sJ (Γ:Fx)(E:XK)(G:Hp)(N:Ends):SO->Prop
 | .nx env β=>∀B G' H' σ,SR Γ B G' H' σ env β->ax G G'->N.nx σ H'
 | .bk env β=>∀B G' H' σ,SR Γ B G' H' σ env β->ax G G'->N.bk σ H'
 | .ct env β=>∀B G' H' σ,SR Γ B G' H' σ env β->ax G G'->N.ct σ H'
 | .rt d fr β=>∀B G' H' σ env v,SR Γ B G' H' σ env β->ax G G'->RV Γ G' H' fr d v->N.rt v H'
 | .exc c=>∀H',Kp Γ H'->E (.ref (Γ.ca c)) none H'
 | .bad=>False
def sT (Γ:Fx)(E:XK)(m:SF):TS:=λN σ H=>∃env G B β,SR Γ B G H σ env β/\sJ Γ E G N (m env β)
def SS (X:Cx)(Γ:Fx)(E:XK)(st:Stmt)(m:SF):Prop:=PS X st (sT Γ E m)
def Dq (X:Cx)(Γ:Fx)(E:XK)(st:List Stmt)(m:SF):Prop:=rO X st (sT Γ E m)
def rO.post {X:Cx}{st:List Stmt}{t u:TS}(h:rO X st t)(m:∀D σ H,u D σ H->t D σ H):rO X st u:=λpins s σ H D I q=>h pins s σ H D I (m D σ H q)
def aJ (m m':SF):SF:=λenv β=>match m env β with
 | .nx env' β'=>m' env' β'
 |r=>r
def jh:SF:=λenv β=>.nx env β
section
variable {X:Cx}{Γ:Fx}{E:XK}{e a b c:Expr}{f fa fb:VF D}{L La Lb:List Nat}{md ma mb:Md}{pos:Pos}{st:Stmt}{sts:List Stmt}{m m':SF}{ta:VF Bool}
theorem sJ.weak {G G1:Hp}{N:Ends}{r:SO}(h:sJ Γ E G N r)(s:ax G G1):sJ Γ E G1 N r:=by
 cases r with
 |nx env β=>exact λB G' H' σ I s'=>h B G' H' σ I (s.trans s')
 |bk env β=>exact λB G' H' σ I s'=>h B G' H' σ I (s.trans s')
 |ct env β=>exact λB G' H' σ I s'=>h B G' H' σ I (s.trans s')
 |rt d fr β=>exact λB G' H' σ env v I s'=>h B G' H' σ env v I (s.trans s')
 |exc c=>exact h
 |bad=>exact h
def bh:Dq X Γ E [] jh:=rO.post zh λN σ H ⟨env,G,B,β,I,o⟩=>o B G H σ I (ax.refl _)
theorem aq (h:SS X Γ E st m)(h':Dq X Γ E sts m'):Dq X Γ E (st :: sts) (aJ m m'):=by
 refine rO.post (ju h h') λN σ H ⟨env,G,B,β,I,o⟩=>?_
 refine⟨env,G,B,β,I,?_⟩
 unfold aJ at o
 cases q:m env β with
 |nx env' β'=>rw[q] at o;exact λB' G' H' σ' I' s'=>⟨env',G',B',β',I',o.weak s'⟩
 |bk env' β'=>rw[q] at o;exact o
 |ct env' β'=>rw[q] at o;exact o
 |rt d fr β'=>rw[q] at o;exact o
 |exc c=>rw[q] at o;exact o
 |bad=>rw[q] at o;exact o
def ay (h:SS X Γ E st m):Dq X Γ E [st] m:=jL h
def toS {α:Type}(r:R α)(k:α->Int->SO):SO:=match r with
 | .ok x β=>k x β
 | .exc c=>.exc c
 | .bad=>.bad
theorem c8 {α:Type}{G:Hp}{N:Ends}{r:R α}{k:α->Int->SO}{P:α->Int->Prop}(h:sJ Γ E G N (toS r k))(i:∀x β,sJ Γ E G N (k x β)->P x β):Out Γ E r P:=by
 cases r with
 |ok x β=>exact i x β h
 |exc c=>exact h
 |bad=>exact h
def SR.set' {B:Option Addr}{G H:Hp}{σ:St}{env:En}{β:Int}(I:SR Γ B G H σ env β)(i:Nat){v:V}{d:D}(h:Rp Γ.K G v d):SR Γ B G H (σ.set i (some v)) (env.set i (.fz d)) β:=by
 by_cases hi:i < env.length
 ·exact I.set hi h
 ·have h1:env.set i (.fz d)=env:=OF (by omega)
  have h2:σ.set i (some v)=σ:=OF (by rw[I.len];omega)
  rw[h1,h2];exact I
def SR.setOw' {B:Option Addr}{G H:Hp}{σ:St}{env:En}{β:Int}(I:SR Γ B G H σ env β)(i:Nat){a:Addr}{d:D}(h0:Γ.H0 a=none)(hg:G a=none)(hb:B≠some a)(h:Own Γ.K G H a d)(hn:∀(j:Nat) (d':D),env[j]? =some (.ow d')->σ[j]?≠some (some (.ref a))):SR Γ B G H (σ.set i (some (.ref a))) (env.set i (.ow d)) β:=by
 by_cases hi:i < env.length
 ·exact I.setOw hi h0 hg hb h λj d' e _=>hn j d' e
 ·have h1:env.set i (.ow d)=env:=OF (by omega)
  have h2:σ.set i (some (.ref a))=σ:=OF (by rw[I.len];omega)
  rw[h1,h2];exact I
def bO (i:Nat)(L:List Nat)(f:VF D):SF:=λenv β=>toS (f (vl env) β) λd β'=>.nx ((aY L env).set i (.fz d)) β'
def bg {i:Nat}{x:Str}{pos':Pos}(he:SE X Γ E e f L .v)(hN:X.N.Nodup)(hi:X.N[i]? =some x:=by rfl)(hx:Loc X.env.scope x:=by first |exact Or.inl rfl |exact Or.inr rfl)(hs:swapsWith e (some (.Name x pos')) pos.line X.env=pure false:=by rfl)(hf:X.fn x=true\/X.env.scope.names.lookup x=some .local:=by first |exact .inl rfl |exact .inr rfl |assumption) :
  SS X Γ E (.Assign [.Name x pos'] e pos) (bO i L f):=by
 refine PS.post (qd hN hi hx he hs hf) λN σ H ⟨env,G,B,β,I,o⟩=>?_
 refine⟨env,G,B,β,I,c8 o λd β' k v G' H' I' s' m' vo=>?_⟩
 exact k B G' H' _ (I'.set' i vo) s'
def lA (i:Nat)(L:List Nat)(f:VF D):SF:=λenv β=>toS (f (vl env) β) λd β'=>.nx ((aY L env).set i (.ow d)) β'
def jM {i:Nat}{x:Str}{pos':Pos}(he:SE X Γ E e f L .w)(hN:X.N.Nodup)(hi:X.N[i]? =some x:=by rfl)(hx:Loc X.env.scope x:=by first |exact Or.inl rfl |exact Or.inr rfl)(hs:swapsWith e (some (.Name x pos')) pos.line X.env=pure false:=by rfl)(hf:X.fn x=true\/X.env.scope.names.lookup x=some .local:=by first |exact .inl rfl |exact .inr rfl |assumption) :
  SS X Γ E (.Assign [.Name x pos'] e pos) (lA i L f):=by
 refine PS.post (qd hN hi hx he hs hf) λN σ H ⟨env,G,B,β,I,o⟩=>?_
 refine⟨env,G,B,β,I,c8 o λd β' k v G' H' I' s' m' vo=>?_⟩
 obtain⟨p,rfl,h1,h2,h3⟩:=vo
 obtain⟨q1,q2,q3,q4⟩:=I.fresh h1
 exact k B G' H' _ (I'.setOw' i q1 h2 q3 h3 λj d' z=>q4 j d' (qA z)) s'
def mT (L:List Nat)(f:VF D):SF:=λenv β=>toS (f (vl env) β) λ_ β'=>.nx (aY L env) β'
def mi (he:SE X Γ E e f L md)(hs:swapsWith e none pos.line X.env=pure false:=by rfl):SS X Γ E (.Expr e pos) (mT L f):=by
 refine PS.post (pZ he hs) λN σ H ⟨env,G,B,β,I,o⟩=>?_
 exact⟨env,G,B,β,I,c8 o λd β' k v G' H' I' s' m' vo=>k B G' H' _ I' s'⟩
def a9 (f:VF D):SF:=λenv β=>toS (f (vl env) β) λd β'=>.rt d false β'
def aK (he:SE X Γ E e f L .v):SS X Γ E (.Return (some e) pos) (a9 f):=by
 refine PS.post (oB he) λN σ H ⟨env,G,B,β,I,o⟩=>?_
 exact⟨env,G,B,β,I,c8 o λd β' k v G' H' I' s' m' vo=>k B G' H' σ _ v I' s' vo⟩
def o4 (f:VF D):SF:=λenv β=>toS (f (vl env) β) λd β'=>.rt d true β'
def mE (he:SE X Γ E e f L .w):SS X Γ E (.Return (some e) pos) (o4 f):=by
 refine PS.post (oB he) λN σ H ⟨env,G,B,β,I,o⟩=>?_
 refine⟨env,G,B,β,I,c8 o λd β' k v G' H' I' s' m' vo=>?_⟩
 obtain⟨p,rfl,h1,h2,h3⟩:=vo
 obtain⟨q1,_⟩:=I.fresh h1
 exact k B G' H' σ _ _ I' s' ⟨p,rfl,q1,h2,h3⟩
def tP (i:Nat):SF:=λenv β=>match env[i]? with
 |some (.fz d)=>.rt d false β
 |some (.ow d)=>.rt d true β
 |_=>.bad
theorem pV (i:Nat){x:Str}{p:Pos}(hN:X.N[i]? =some x:=by rfl)(hv:y7 X.env.scope x:=by first |exact Or.inl rfl |exact Or.inr (Or.inl rfl) |exact Or.inr (Or.inr rfl))(hd:(x == ("__debug__":Str))=false:=by decide)
  (hcd:(x == ("__classdict__":Str))=false:=by decide):SS X Γ E (.Return (some (.Name x p)) pos) (tP i):=by
 refine PS.post (oB (ki hN hv hd hcd)) λN σ H ⟨env,G,B,β,I,o⟩=>?_
 unfold tP at o
 cases q:env[i]? with
 |none=>rw[q] at o;exact o.elim
 |some s=>
  rw[q] at o
  cases s with
  |no=>exact o.elim
  |bx=>exact o.elim
  |br d=>exact o.elim
  |fz d=>
   obtain⟨v,h1,h2⟩:=I.slot i _ q
   exact⟨v,h1,o B G H σ env v I (ax.refl _) h2⟩
  |ow d=>
   obtain⟨p,h1,h2,h3,h4,h5⟩:=I.slot i _ q
   exact⟨_,h1,o B G H σ env _ I (ax.refl _) ⟨p,rfl,h2,h3,h5⟩⟩
def gZ (L:List Nat)(t:VF Bool)(m m':SF):SF:=λenv β=>toS (t (vl env) β) λc β'=>if c=true then m (aY L env) β' else m' (aY L env) β'
theorem bW {x y:List Stmt}(hc:xU X Γ E c ta L)(ha:Dq X Γ E x m)(hb:Dq X Γ E y m'):SS X Γ E (.If c x y pos) (gZ L ta m m'):=by
 refine PS.post (FK hc ha hb) λN σ H ⟨env,G,B,β,I,o⟩=>?_
 refine⟨env,G,B,β,I,c8 o λd β' k G' H' I' s' m'=>?_⟩
 cases d with
 |true=>exact rj ⟨_,G',B,β',I',sJ.weak k s'⟩
 |false=>exact rF ⟨_,G',B,β',I',sJ.weak k s'⟩
def iz (L:List Nat)(t:VF Bool)(m:SF):Nat->SF
 | 0=>λ_ _=>.bad
 |n + 1=>λenv β=>toS (t (vl env) β) λc β'=>if c=true then (match m (aY L env) β' with
   | .nx env2 β2=>iz L t m n env2 β2
   | .ct env2 β2=>iz L t m n env2 β2
   | .bk env2 β2=>.nx env2 β2
   |r=>r) else .nx (aY L env) β'
theorem nI {x:List Stmt}(n:Nat)(hp:PassesOwn (model X.prog X.w) X.A X.env X.xe)(hc:xU X Γ E c ta L)(hb:Dq X Γ E x m):SS X Γ E (.While c x [] pos) (iz L ta m n):=by
 refine PS.post (BH hp hc hb) λN σ H ⟨env,G,B,β,I,o⟩=>?_
 refine⟨λk σ H=>∃env G1 B β,SR Γ B G1 H σ env β/\ax G G1/\sJ Γ E G1 N (iz L ta m k env β),⟨n,env,G,B,β,I,ax.refl _,o⟩,?_⟩
 rintro k σ H ⟨env,G1,B,β,I,sG,o⟩
 cases k with
 |zero=>exact o.elim
 |succ k=>
  refine⟨env,G1,B,β,I,c8 o λd β' q G' H' I' s' m'=>?_⟩
  cases d with
  |false=>exact rF (q B G' H' σ I' s')
  |true=>
   refine rj ⟨λσ H=>∃env G1 B β,SR Γ B G1 H σ env β/\ax G G1/\sJ Γ E G1 N (iz L ta m k env β),λσ' H' h=>⟨k,Nat.lt_succ_self k,h⟩,aY L env,G',B,β',I',?_⟩
   rw[Nc rfl] at q
   cases r:m (aY L env) β' with
   |nx env2 β2=>rw[r] at q;exact λB2 G2 H2 σ2 I2 s2=>⟨env2,G2,B2,β2,I2,(sG.trans s').trans s2,sJ.weak q (s'.trans s2)⟩
   |ct env2 β2=>rw[r] at q;exact λB2 G2 H2 σ2 I2 s2=>⟨env2,G2,B2,β2,I2,(sG.trans s').trans s2,sJ.weak q (s'.trans s2)⟩
   |bk env2 β2=>rw[r] at q;exact λB2 G2 H2 σ2 I2 s2=>q B2 G2 H2 σ2 I2 (s'.trans s2)
   |rt d fr β2=>rw[r] at q;exact sJ.weak q s'
   |exc c=>rw[r] at q;exact q
   |bad=>rw[r] at q;exact q
def Walk (K:Frag)(B:Option Addr)(G H1:Hp)(ds:List D)(J:It):Prop:=∀Gc H (i:Nat),ax G Gc->ax Gc H->iG B H1 H->
 (i < ds.length->J.go i H/\∀x H',J.yld i H x H'->∃G' d,Ext Gc H G' H'/\ds[i]? =some d/\Rp K G' x d)/\(ds.length<=i->J.stop i H)
def Walk.any {K:Frag}{B:Option Addr}{G H1:Hp}{ds:List D}{J:It}(h:Walk K B G (λ_=>none) ds J):Walk K B G H1 ds J:=λGc H i s1 s2 _=>h Gc H i s1 s2 ⟨(λb o e=>by cases e),λb o u e=>by cases e⟩
def iT (Γ:Fx)(E:XK)(f:VF (List D))(L:List Nat)(md:Md):TI:=λσ H Rr=>∃env G B β,SR Γ B G H σ env β/\
 Out Γ E (f (vl env) β) λds β'=>∀J G' H',SR Γ B G' H' σ (aY L env) β'->ax G G'->iG B H H'->Walk Γ.K B G' (match md with | .b=>H' |_=>λ_=>none) ds J->Rr J H'
def SI (X:Cx)(Γ:Fx)(E:XK)(tg e:Expr)(f:VF (List D))(L:List Nat)(md:Md):Prop:=PI X tg e (iT Γ E f L md)
def PI.post {X:Cx}{tg e:Expr}{t u:TI}(h:PI X tg e t)(m:∀σ H Q,u σ H Q->t σ H Q):PI X tg e u:=λpins s σ H Q I q=>h pins s σ H Q I (m σ H Q q)
variable {tg:Expr}
def pN:D->Option (List D)
 | .list ds=>some ds
 | .tuple ds=>some ds
 |_=>none
def bL (fa:VF D):VF (List D):=λvs β=>(fa vs β).bnd λx β1=>R.of (pN x) β1
end
def MX (K:Frag)(tl:TE):TI:=λσ H R=>tl σ H λx H1=>∃a xs,x=.ref a/\((iM K H1 a xs/\R (Ba K a) H1)\/(gB K H1 a xs/\R (Gq K a) H1))
section
variable {X:Cx}{tg l:Expr}{tl:TE}
def FX (hl:PE X l tl):PI X tg l (MX X.K tl):=by
 intro pins s σ H R I h
 refine cK (hl pins s σ H _ I h) λv s1 ⟨x,H1,I1,r1,q1⟩=>?_
 obtain⟨a,xs,e,q⟩:=q1
 subst e
 cases r1
 rcases q with⟨hq,q⟩ | ⟨hq,q⟩
 ·obtain⟨its,rv,p,hz⟩:=I1.list hq
  refine OP p.isList ?_
  refine⟨s1.heap.objs.size,[s1.heap.objs.size],_,_,H1,rfl,I1.kept (t':=s1.toks) λb o e=>Nd _ e,oy a _,⟨_,Nu _ rfl,rfl,rfl⟩,λb hb=>?_,q⟩
  have e:b=s1.heap.objs.size:=by simpa using hb
  subst e
  exact I1.fpOk (Na _) (I1.hok.fresh (Na _))
 ·obtain⟨its,rv,p,hz⟩:=I1.tuple hq
  refine OX (show s1.heap.IsTuple a its.toArray from p) ?_
  refine⟨s1.heap.objs.size,[s1.heap.objs.size],_,_,H1,rfl,I1.kept (t':=s1.toks) λb o e=>Nd _ e,qB a _,⟨_,Nu _ rfl,rfl,rfl⟩,λb hb=>?_,q⟩
  have e:b=s1.heap.objs.size:=by simpa using hb
  subst e
  exact I1.fpOk (Na _) (I1.hok.fresh (Na _))
end
section
variable {X:Cx}{Γ:Fx}{E:XK}{e a b c:Expr}{f fa fb:VF D}{L La Lb:List Nat}{md ma mb:Md}{pos:Pos}{st:Stmt}{sts:List Stmt}{m m':SF}{ta:VF Bool}{tg:Expr}
def oG {K:Frag}{B:Option Addr}{G H1:Hp}{p:Addr}{xs:List V}{ds:List D}(h:∀Gc H,ax G Gc->ax Gc H->iG B H1 H->iM K H p xs)(r:cF K G xs ds):Walk K B G H1 ds (Ba K p):=λGc H i s1 s2 m=>by
 have hq:=h Gc H s1 s2 m
 refine⟨λhi=>⟨?_,λx H' y=>?_⟩,λhi=>⟨xs,hq,by rw[r.len];exact hi⟩⟩
 ·have hi':i < xs.length:=by rw[r.len];exact hi
  exact⟨xs,xs[i],hq,by simp[hi']⟩
 ·obtain⟨rfl,y⟩:=y
  obtain⟨d,e,q⟩:=r.at' (y xs hq)
  exact⟨Gc,d,Ext.refl s2,e,q.mono s1⟩
def v7 {K:Frag}{B:Option Addr}{G H1:Hp}{p:Addr}{xs:List V}{ds:List D}(h:∀Gc H,ax G Gc->ax Gc H->iG B H1 H->gB K H p xs)(r:cF K G xs ds):Walk K B G H1 ds (Gq K p):=λGc H i s1 s2 m=>by
 have hq:=h Gc H s1 s2 m
 refine⟨λhi=>⟨?_,λx H' y=>?_⟩,λhi=>⟨xs,hq,by rw[r.len];exact hi⟩⟩
 ·have hi':i < xs.length:=by rw[r.len];exact hi
  exact⟨xs,xs[i],hq,by simp[hi']⟩
 ·obtain⟨rfl,y⟩:=y
  obtain⟨d,e,q⟩:=r.at' (y xs hq)
  exact⟨Gc,d,Ext.refl s2,e,q.mono s1⟩
theorem Mp (hK:X.K=Γ.K)(ha:SE X Γ E a fa La .v):SI X Γ E tg a (bL fa) La .v:=by
 refine PI.post (FX ha) λσ H Q ⟨env,G,B,β,I,o⟩=>?_
 refine⟨env,G,B,β,I,o.bnd.imp λd1 β1 h x G1 H1 I1 s1 m1 vx=>?_⟩
 obtain⟨ds,e,k⟩:=h.of
 rw[hK]
 have vx:Rp Γ.K G1 x d1:=vx
 cases d1 with
 |list l=>
  cases e
  cases vx with
  | @lst p xs _ hq r=>exact⟨p,xs,rfl,.inl ⟨.inl (Rd.mono (.inl hq) I1.sub),k _ G1 H1 I1 s1 m1 (oG (λGc H t1 t2 _=>.inl (Rd.mono (.inl hq) (t1.trans t2))) r)⟩⟩
 |tuple l=>
  cases e
  cases vx with
  | @tup p xs _ hq r=>exact⟨p,xs,rfl,.inr ⟨hq.grow I1.sub.grow,k _ G1 H1 I1 s1 m1 (v7 (λGc H t1 t2 _=>hq.grow (t1.trans t2).grow) r)⟩⟩
 |_=>cases e
theorem kn (hK:X.K=Γ.K)(ha:SE X Γ E a fa La ma):SI X Γ E tg a (bL fa) La .b:=by
 refine PI.post (FX ha) λσ H Q ⟨env,G,B,β,I,o⟩=>?_
 refine⟨env,G,B,β,I,o.bnd.imp λd1 β1 h x G1 H1 I1 s1 m1 vx=>?_⟩
 obtain⟨ds,e,k⟩:=h.of
 rw[hK]
 have vx:=vx.brw I.boxThere
 cases d1 with
 |list l=>
  cases e
  rcases vx with vx | ⟨p,rfl,hb,xs,q,r⟩
  ·cases vx with
   | @lst p xs _ hq r=>exact⟨p,xs,rfl,.inl ⟨.inl (Rd.mono (.inl hq) I1.sub),k _ G1 H1 I1 s1 m1 (oG (λGc H t1 t2 _=>.inl (Rd.mono (.inl hq) (t1.trans t2))) r)⟩⟩
  ·exact⟨p,xs,rfl,.inl ⟨.inl (.inl q),k _ G1 H1 I1 s1 m1 (oG (λGc H t1 t2 mv=>.inl (.inl (mv.1 p _ q hb))) r)⟩⟩
 |tuple l=>
  cases e
  rcases vx with vx | ⟨p,rfl,hb,q⟩
  ·cases vx with
   | @tup p xs _ hq r=>exact⟨p,xs,rfl,.inr ⟨hq.grow I1.sub.grow,k _ G1 H1 I1 s1 m1 (v7 (λGc H t1 t2 _=>hq.grow (t1.trans t2).grow) r)⟩⟩
  ·exact q.elim
 |_=>cases e
def dg (lo:Int)(n:Nat):List D:=(List.range n).map λ(k:Nat)=>int (lo + k)
def eM (lo:Int)(n:Nat):(dg lo n).length=n:=by unfold dg;simp
def wI {K:Frag}{B:Option Addr}{G H1:Hp}(lo:Int)(n:Nat):Walk K B G H1 (dg lo n) (Ae lo n):=λGc H i s1 s2 m=>by
 rw[eM]
 refine⟨λhi=>⟨hi,λx H' y=>?_⟩,λhi=>hi⟩
 obtain⟨rfl,rfl⟩:=y
 refine⟨Gc,.int (lo + i),Ext.refl s2,?_,.int _⟩
 unfold dg
 rw[Nm,OU hi];rfl
def Be (j:Int):Bool:=Nat.ble j.natAbs 1000000
def ou {j:Int}(h:Be j=true): -(2 ^ 62)<=j/\j < 2 ^ 62:=by
 have:=Nat.le_of_ble_eq_true h
 omega
def oO {j:Int}(h: -1000<=j)(h2:j<=10000):Be j=true:=Nat.ble_eq_true_of_le (by omega)
def cD (fa:VF D):VF (List D):=λvs β=>(fa vs β).bnd λx β1=>match x with
 | .int j=>if Be j=true then .ok (dg 0 j.toNat) β1 else .bad
 |_=>.bad
def zy (fa fb:VF D):VF (List D):=λvs β=>(fa vs β).bnd λx β1=>(fb vs β1).bnd λy β2=>match x,y with
 | .int i,.int j=>if (Be i && Be j)=true then .ok (dg i (j - i).toNat) β2 else .bad
 |_,_=>.bad
theorem iL {p:Pos}(hg:Gl X "range")(hm:X.mg "range"=none)(ha:SE X Γ E a fa La ma)(hs:starEach [a] X.env= [(false,eval a X.env)]:=by rfl)(hs':starEach [a] X.env=(false,eval a X.env) :: starEach [] X.env:=by rfl):SI X Γ E tg (.Call (.Name "range" p) [a] [] pos) (cD fa) La md:=by
 refine PI.post (mq hg hm (bc ha cp hs') hs) λσ H Q ⟨env,G,B,β,I,o⟩=>?_
 refine⟨env,G,B,β,I,o.bnd.imp λd1 β1 h x G1 H1 I1 s1 m1 vx=>?_⟩
 have vx:=vx.brw I.boxThere
 cases d1 with
 |int j=>
  obtain rfl:=vx.int
  dsimp only at h
  by_cases hj:Be j=true
  ·rw[Nc hj] at h
   exact⟨j,rfl,(ou hj).1,(ou hj).2,h _ G1 H1 I1 s1 m1 (wI 0 _)⟩
  ·rw[Nk hj] at h;exact h.elim
 |_=>exact h.elim
def Je {p:Pos}(hg:Gl X "range")(hm:X.mg "range"=none)(ha:SE X Γ E a fa La ma)(hb:SE X Γ E b fb Lb mb)(hs:starEach [a,b] X.env= [(false,eval a X.env),(false,eval b X.env)]:=by rfl)(hs2:starEach [b] X.env= [(false,eval b X.env)]:=by rfl)(hs':starEach [a,b] X.env=(false,eval a X.env) :: starEach [b] X.env:=by rfl)(hs3:starEach [b] X.env=(false,eval b X.env) :: starEach [] X.env:=by rfl):SI X Γ E tg (.Call (.Name "range" p) [a,b] [] pos) (zy fa fb) (La ++ Lb) md:=by
 refine PI.post (AB hg hm (bc ha (bc hb cp hs3) hs') hs hs2) λσ H Q ⟨env,G,B,β,I,o⟩=>?_
 refine two (W:=λx y H2=>∃i j:Int,[x,y]= [.int i,.int j]/\(-(2 ^ 62)<=i/\i < 2 ^ 62/\ -(2 ^ 62)<=j/\j < 2 ^ 62)/\Q (Ae i (j - i).toNat) H2) I (o.bnd.imp λd1 β1 h=>h.bnd.imp λd2 β2 h x y G2 H2 I2 s2 m2 bx by'=>?_)
 obtain⟨i,j,rfl,rfl⟩:∃i j,d1=.int i/\d2=.int j:=by
  cases d1 <;> cases d2 <;> first |exact h.elim |exact⟨_,_,rfl,rfl⟩
 obtain rfl:=bx.int
 obtain rfl:=by'.int
 dsimp only at h
 by_cases hj:(Be i && Be j)=true
 ·rw[Nc hj] at h
  rw[Ny] at hj
  exact⟨i,j,rfl,⟨(ou hj.1).1,(ou hj.1).2,(ou hj.2).1,(ou hj.2).2⟩,h _ G2 H2 I2 s2 m2 (wI i _)⟩
 ·rw[Nk hj] at h;exact h.elim
inductive Tg where
 |nm (i:Nat)
 |two (i j:Nat)
def pairD:D->Option (D×D)
 | .tuple [x,y]=>some (x,y)
 |_=>none
def C6 {d x y:D}(h:pairD d=some (x,y)):d=.tuple [x,y]:=by
 unfold pairD at h
 split at h
 ·cases h;rfl
 ·cases h
def hW:Tg->D->En->Option En
 | .nm i,d,env=>some (env.set i (.fz d))
 | .two i j,d,env=>(pairD d).map λp=>(env.set i (.fz p.1)).set j (.fz p.2)
def nR:Tg->D->List Nv->Option (List Nv)
 | .nm i,d,vs=>some (vs.set i (.da d))
 | .two i j,d,vs=>(pairD d).map λp=>(vs.set i (.da p.1)).set j (.da p.2)
def yu (env:En)(i:Nat)(s:Sl):vl (env.set i s)=(vl env).set i s.val:=by unfold vl;rw[List.map_set]
theorem Ei (t:Tg)(d:D)(env:En):(hW t d env).map vl=nR t d (vl env):=by
 cases t with
 |nm i=>show some (vl _)=some _;rw[yu];rfl
 |two i j=>
  show ((pairD d).map _).map vl=(pairD d).map _
  cases pairD d with
  |none=>rfl
  |some p=>show some (vl _)=some _;rw[yu,yu];rfl
def gT (Γ:Fx)(t:Tg):TG:=λv σ H Q=>∃env G B β d env',SR Γ B G H σ env β/\Rp Γ.K G v d/\hW t d env=some env'/\∀σ',SR Γ B G H σ' env' β->Q σ' H
def SG (X:Cx)(Γ:Fx)(tg:Expr)(t:Tg):Prop:=PG X tg (gT Γ t)
def PG.post {X:Cx}{tg:Expr}{t u:TG}(h:PG X tg t)(m:∀v σ H Q,u v σ H Q->t v σ H Q):PG X tg u:=λpins s σ H v uu Q I r q=>h pins s σ H v uu Q I r (m v σ H Q q)
def cI {i:Nat}{x:Str}(hN:X.N.Nodup)(hi:X.N[i]? =some x:=by rfl)(hx:Loc X.env.scope x:=by first |exact Or.inl rfl |exact Or.inr rfl)(hf:X.fn x=true\/X.env.scope.names.lookup x=some .local:=by first |exact .inl rfl |exact .inr rfl |assumption):SG X Γ (.Name x pos) (.nm i):=by
 refine PG.post (dC hN hi hx hf) λv σ H Q ⟨env,G,B,β,d,env',I,r,e,k⟩=>?_
 cases e
 exact k _ (I.set' i r)
theorem iH {i j:Nat}{x y:Str}{px py:Pos}{n:Nat}(hN:X.N.Nodup)(hc:X.calm=true:=by rfl)(hK:X.K=Γ.K:=by rfl)(hi:X.N[i]? =some x:=by rfl)(hj:X.N[j]? =some y:=by rfl)(hx:Loc X.env.scope x:=by first |exact Or.inl rfl |exact Or.inr rfl)(hy:Loc X.env.scope y:=by first |exact Or.inl rfl |exact Or.inr rfl)
  (hf:X.fn x=true\/X.env.scope.names.lookup x=some .local:=by first |exact .inl rfl |exact .inr rfl |assumption) (hf':X.fn y=true\/X.env.scope.names.lookup y=some .local:=by first |exact .inl rfl |exact .inr rfl |assumption):SG X Γ (.Tuple [.Name x px,.Name y py] n pos) (.two i j):=by
 refine PG.post (qK (n:=2) hc (fg (dC hN hi hx hf) (fg (dC hN hj hy hf') nH))) λv σ H Q ⟨env,G,B,β,d,env',I,r,e,k⟩=>?_
 rw[hK]
 have e:(pairD d).map (λp=>(env.set i (.fz p.1)).set j (.fz p.2))=some env':=e
 cases q:pairD d with
 |none=>rw[q] at e;cases e
 |some p=>
  obtain⟨dx,dy⟩:=p
  rw[q] at e
  cases e
  obtain rfl:=C6 q
  cases r with
  | @tup p xs _ hq r=>
   cases r with
   |cons r1 r=>
    cases r with
    |cons r2 r=>
     cases r
     exact⟨p,_,rfl,hq.grow I.sub.grow,rfl,_,_,rfl,_,_,rfl,rfl,k _ ((I.set' i r1).set' j r2)⟩
def lD (t:Tg)(m:SF):List D->SF
 | []=>λenv β=>.nx env β
 |d :: ds=>λenv β=>match hW t d env with
  |none=>.bad
  |some env1=>match m env1 β with
   | .nx env2 β2=>lD t m ds env2 β2
   | .ct env2 β2=>lD t m ds env2 β2
   | .bk env2 β2=>.nx env2 β2
   |r=>r
def gE (t:Tg)(L:List Nat)(fi:VF (List D))(m:SF):SF:=λenv β=>toS (fi (vl env) β) λds β'=>lD t m ds (aY L env) β'
def iA {t:Tg}{fi:VF (List D)}{x:List Stmt}(hp:PassesOwn (model X.prog X.w) X.A X.env X.xe)(hc:X.calm=true)(hi:SI X Γ E tg e fi L .v)(hg:SG X Γ tg t)(hb:Dq X Γ E x m)(hs:∀x,foldedSetIterable e X.env x=pure x:=by intro _;rfl):SS X Γ E (.For tg e x [] pos) (gE t L fi m):=by
 refine PS.post (t7 hp hc hi hg hb hs) λN σ H ⟨env,G,B,β,I,o⟩=>?_
 refine⟨env,G,B,β,I,c8 o λds β' q J G' H' I' s' m' w=>?_⟩
 have w:Walk Γ.K B G' (λ_=>none) ds J:=w
 refine⟨λi n σ H=>n=ds.length - i/\i<=ds.length/\∃env G1 B β,SR Γ B G1 H σ env β/\ax G' G1/\sJ Γ E G1 N (lD t m (ds.drop i) env β),⟨ds.length,by simp,N3 _,aY L env,G',B,β',I',ax.refl _,by rw[List.drop_zero];exact sJ.weak q s'⟩,?_⟩
 rintro i n σ H ⟨rfl,hi,env,G1,B1,β1,I1,s1,q⟩
 obtain⟨w1,w2⟩:=w G1 H i s1 I1.sub ⟨(λb o e=>by cases e),λb o u e=>by cases e⟩
 by_cases hlt:i < ds.length
 ·obtain⟨go,yl⟩:=w1 hlt
  refine .inr ⟨go,λσ H=>∃env G2 B β,SR Γ B G2 H σ env β/\ax G' G2/\sJ Γ E G2 N (lD t m (ds.drop (i + 1)) env β),λσ2 H2 h=>⟨ds.length - (i + 1),by omega,rfl,hlt,h⟩,λx H2 y=>?_⟩
  obtain⟨G2,d,x2,ed,rd⟩:=yl x H2 y
  have I2:=I1.ext x2
  have q:=sJ.weak q x2.gg
  rw[O8 hlt] at q
  have ed':ds[i]=d:=by rw[M9 hlt] at ed;exact Option.some.inj ed
  rw[ed'] at q
  unfold lD at q
  cases eb:hW t d env with
  |none=>rw[eb] at q;exact q.elim
  |some env1=>
   rw[eb] at q
   refine⟨env,G2,B1,β1,d,env1,I2,rd,eb,λσ3 I3=>⟨env1,G2,B1,β1,I3,?_⟩⟩
   have s2:=s1.trans x2.gg
   dsimp only at q
   cases r:m env1 β1 with
   |nx env2 β2=>rw[r] at q;exact λB2 G3 H3 σ2 I2 s3=>⟨env2,G3,B2,β2,I2,s2.trans s3,sJ.weak q s3⟩
   |ct env2 β2=>rw[r] at q;exact λB2 G3 H3 σ2 I2 s3=>⟨env2,G3,B2,β2,I2,s2.trans s3,sJ.weak q s3⟩
   |bk env2 β2=>rw[r] at q;exact λB2 G3 H3 σ2 I2 s3=>q B2 G3 H3 σ2 I2 s3
   |rt d fr β2=>rw[r] at q;exact q
   |exc c=>rw[r] at q;exact q
   |bad=>rw[r] at q;exact q
 ·have e:i=ds.length:=by omega
  subst e
  rw[drop_length] at q
  exact .inl ⟨w2 (Na _),q B1 G1 H σ I1 (ax.refl _)⟩
end
abbrev Fx.jK (Γ:Fx)(H0 G0:Hp)(par:List Addr)(br:Nat->Bool)(bx:Option Addr):Fx:=⟨Γ.K,H0,G0,par,Γ.ca,br,bx⟩
def fj (own:Nat)(ixs:List Nat)(vs:List Nv):List Nv:=List.replicate own .no ++ ixs.map λi=>(vs[i]?).getD .no
def Jw:Option Sl->Sl
 |some (.ow d)=>.br d
 |some s=>s
 |none=>.no
def benv (own:Nat)(ixs:List Nat)(env:En):En:=List.replicate own .no ++ ixs.map λi=>Jw env[i]?
theorem EG (o:Option Sl):(Jw o).val=(o.map Sl.val).getD .no:=by
 cases o with
 |none=>rfl
 |some s=>cases s <;> rfl
def Ej (own:Nat)(ixs:List Nat)(env:En):vl (benv own ixs env)=fj own ixs (vl env):=by
 unfold vl benv fj
 rw[NT,Pl,Pn]
 congr 1
 refine Oz λi _=>?_
 show (Jw env[i]?).val=_
 rw[EG,Nm]
def yB (env:En):Prop:=∀(i:Nat) (d:D),env[i]?≠some (.ow d)
theorem v9 {env:En}(h:yB env)(L:List Nat):aY L env=env:=by
 unfold aY
 induction L with
 |nil=>rfl
 |cons i L ih=>
  rw[List.foldl_cons]
  have:ij env i=env:=by
   unfold ij
   split
   ·rename_i d e;exact absurd e (h i d)
   ·rfl
  rw[this];exact ih
def tx (own:Nat)(ixs:List Nat)(env:En):yB (benv own ixs env):=λi d e=>by
 unfold benv at e
 have hm:=Nw e
 rcases Nz.mp hm with h |h
 ·have:=Od h;cases this
 ·obtain⟨k,_,hk⟩:=NN.mp h
  cases q:env[k]? with
  |none=>rw[q] at hk;cases hk
  |some s=>rw[q] at hk;cases s <;> cases hk
def qY {env:En}(h:yB env)(i:Nat)(d:D):yB (env.set i (.fz d)):=λj d' e=>by
 by_cases z:i=j
 ·subst z
  by_cases hi:i < env.length
  ·rw[ND hi] at e;cases e
  ·rw[OF (by omega)] at e;exact h _ _ e
 ·rw[NA z] at e;exact h _ _ e
theorem Aj {env env1:En}{t:Tg}{d:D}(h:yB env)(e:hW t d env=some env1):yB env1:=by
 cases t with
 |nm i=>cases e;exact qY h i d
 |two i j=>
  have e:(pairD d).map _=some env1:=e
  cases q:pairD d with
  |none=>rw[q] at e;cases e
  |some p=>rw[q] at e;cases e;exact qY (qY h _ _) _ _
theorem AW {env env1:En}{t:Tg}{d:D}(e:hW t d env=some env1)(d':D):hW t d' env1=hW t d' env:=by
 cases t with
 |nm i=>cases e;show some _=some _;rw[set_set]
 |two i j=>
  have e:(pairD d).map _=some env1:=e
  cases q:pairD d with
  |none=>rw[q] at e;cases e
  |some p=>
   rw[q] at e;cases e
   show (pairD d').map _=(pairD d').map _
   cases pairD d' with
   |none=>rfl
   |some p'=>
    show some _=some _
    congr 1
    dsimp only
    by_cases z:i=j
    ·subst z;simp[set_set]
    ·rw[List.set_comm _ _ (Ne.symm z),set_set,set_set]
def Ext.mov {G H G' H':Hp}(x:Ext G H G' H')(B:Option Addr):iG B H H':=x.hh.mov B
section
variable {Γ:Fx}{B:Option Addr}{G H G1 H1 Gc Hc:Hp}{σ σ':St}{env envb:En}{β β':Int}{own:Nat}{ixs:List Nat}{Da:Addr}{acc:List V}
def yF (envb:En):Nat->Bool:=λj=>match envb[j]? with
 |some (.br _)=>true
 |_=>false
def SR.block (I:SR Γ B G H σ env β)(own:Nat)(ixs:List Nat)(hD:H Da=none):SR (Γ.jK (upd H Da (.lst [])) G (Da :: B.toList) (yF (benv own ixs env)) B) B G (upd H Da (.lst [])) (dQ own ixs σ) (benv own ixs env) β:=by
 obtain⟨q1,q2,q3,q4⟩:=I.fresh hD
 have nB:∀b,B=some b->b≠Da:=λb e z=>q3 (by rw[<-z];exact e)
 refine⟨I.sub.trans (ax.new hD),ax.refl _,λb _ h=>h,λb o h _=>Kt.of h,λb hb=>?_,λb e=>e,λb e=>?_,?_,λi s e=>?_,λi j c d d' e=>absurd e (tx own ixs env i d)⟩
 ·rcases Nh.mp hb with z |z
  ·subst z;exact Mx.lst aC
  ·have z':B=some b:=by simpa using z
   exact Mx.lst (by rw[aB (nB b z')];exact (I.box b z').1)
 ·obtain⟨h1,h2,_⟩:=I.box b e
  exact⟨by rw[aB (nB b e)];exact h1,h2,.inl (Nn _ (by simpa using e))⟩
 ·unfold dQ benv;simp
 ·by_cases hi:i < own
  ·unfold benv at e
   rw[NI (by simpa using hi),Oe,Nc hi] at e
   cases e;trivial
  ·have e0:=e
   unfold benv at e
   rw[NO (by simpa using hi),NX,Nm] at e
   cases ek:ixs[i - own]? with
   |none=>rw[ek] at e;cases e
   |some k=>
    rw[ek] at e
    have e:Jw env[k]? =s:=Option.some.inj e
    have es:(dQ own ixs σ)[i]? =some ((σ[k]?).join):=by
     unfold dQ
     rw[NO (by simpa using hi),NX,Nm,ek];rfl
    rw[es]
    cases q:env[k]? with
    |none=>rw[q] at e;subst e;trivial
    |some t=>
     rw[q] at e
     have w:=I.slot k t q
     cases t with
     |no=>subst e;trivial
     |fz d=>subst e;obtain⟨v,h1,h2⟩:=w;exact⟨v,by rw[h1];rfl,h2⟩
     |bx=>subst e;obtain⟨a,h1,h2⟩:=w;exact⟨a,by rw[h1];rfl,h2⟩
     |ow d=>
      subst e
      obtain⟨a,h1,h2,h3,h4,h5⟩:=w
      obtain⟨o,ho⟩:=h5.obj
      have aD:a≠Da:=aO ho hD
      refine⟨by show yF _ i=true;unfold yF;rw[e0];rfl,a,by rw[h1];rfl,h4,?_,h5.mono (ax.refl _) λo q=>Kt.of (by rw[aB aD];exact q)⟩
      intro hm
      rcases Nh.mp hm with z |z
      ·exact aD z
      ·exact h4 (by simpa using z)
     |br d=>
      subst e
      obtain⟨b1,a,h1,h4,hp,h5⟩:=w
      obtain⟨o,ho⟩:=h5.obj
      have aD:a≠Da:=aO ho hD
      refine⟨by show yF _ i=true;unfold yF;rw[e0];rfl,a,by rw[h1];rfl,h4,?_,h5.mono (ax.refl _) λo q=>Kt.of (by rw[aB aD];exact q)⟩
      intro hm
      rcases Nh.mp hm with z |z
      ·exact aD z
      ·exact h4 (by simpa using z)
def SR.unblock (I:SR Γ B G H σ env β){br:Nat->Bool}(hD:H Da=none)(J:SR (Γ.jK (upd H Da (.lst [])) G (Da :: B.toList) br B) B Gc Hc σ' envb β'):SR Γ B Gc Hc σ env β'/\iG B H Hc/\Gc Da=none:=by
 obtain⟨q1,q2,q3,q4⟩:=I.fresh hD
 have up:∀{b:Addr},Mx H b->Mx (upd H Da (.lst [])) b:=λ{b} h=>h.same λo e=>Kt.of (by rw[aB (aO e hD)];exact e)
 have mv0:∀b o,H b=some o->B≠some b->Kt Hc b o:=λb o e n=>J.keep b o (show upd H Da (.lst []) b=some o by rw[aB (aO e hD)];exact e) λhm=>by
  rcases Nh.mp hm with z |z
  ·rw[z,hD] at e;cases e
  ·exact n (by simpa using z)
 have mv:iG B H Hc:=⟨mv0,λb o u e=>mv0 b _ e λz=>by rw[(I.box b z).1] at e;cases e⟩
 refine⟨⟨J.sub,I.old.trans J.old,λb h1 h2=>J.new b (up (I.thereM h1)) (I.new b h1 h2),λb o h1 h2=>yg (I.keep b o h1 h2) mv λz=>?_,λb hb=>J.thereM (up (I.pin b hb)),I.fix,λb e=>?_,I.len,λi s e=>?_,I.sep⟩,mv,J.new Da (Mx.lst (show upd H Da (.lst []) Da=some (.lst []) from aC)) q2⟩
 ·obtain⟨_,_,h3⟩:=I.box b z
  rcases h3 with h3 |h3
  ·exact h2 h3
  ·rw[h1] at h3;cases h3
 ·obtain⟨j1,j2,_⟩:=J.box b e
  exact⟨j1,j2,(I.box b e).2.2⟩
 ·have w:=I.slot i s e
  cases s with
  |no=>trivial
  |fz d=>obtain⟨v,h1,h2⟩:=w;exact⟨v,h1,h2.mono J.old⟩
  |bx=>exact w
  |ow d=>
   obtain⟨a,h1,h2,h3,h4,h5⟩:=w
   exact⟨a,h1,h2,J.new a (up h5.mx) h3,h4,h5.mono J.old λo q=>mv.1 a o q h4⟩
  |br d=>
   obtain⟨b1,a,h1,h4,hp,h5⟩:=w
   exact⟨b1,a,h1,h4,hp,h5.mono J.old λo q=>mv.1 a o q h4⟩
def SR.updD {ys:List V}(J:SR Γ B G H σ env β)(hp:Da∈Γ.par)(h0:Mx Γ.H0 Da)(g0:Γ.G0 Da=none)(hB:B≠some Da):SR Γ B G (upd H Da (.lst ys)) σ env β:=by
 have gD:=J.new Da h0 g0
 have ha:∀x y,H Da≠some (.aY x y):=λx y w=>(J.pin Da hp).2 _ w trivial
 refine⟨λb u q=>lT (J.sub b u q) (λz=>by rw[z,gD] at q;cases q) ha,J.old,J.new,λb u q n=>lT (J.keep b u q n) (λz=>n (by rw[z];exact hp)) ha,λb hb=>?_,J.fix,λb e=>?_,J.len,λi s e=>?_,J.sep⟩
 ·by_cases z:b=Da
  ·subst z;exact Mx.lst aC
  ·exact (J.pin b hb).same λo e=>Kt.of (by rw[aB z];exact e)
 ·obtain⟨h1,h2⟩:=J.box b e
  exact⟨by rw[aB (λz=>hB (by rw[<-z];exact e))];exact h1,h2⟩
 ·have w:=J.slot i s e
  cases s with
  |no=>trivial
  |fz d=>exact w
  |bx=>exact w
  |ow d=>
   obtain⟨a,h1,h2,h3,h4,h5⟩:=w
   have aD:a≠Da:=λz=>h0.1 (by rw[<-z];exact h2)
   exact⟨a,h1,h2,h3,h4,h5.mono (ax.refl _) λo q=>Kt.of (by rw[aB aD];exact q)⟩
  |br d=>
   obtain⟨b1,a,h1,h4,hpa,h5⟩:=w
   have aD:a≠Da:=λz=>hpa (by rw[z];exact hp)
   exact⟨b1,a,h1,h4,hpa,h5.mono (ax.refl _) λo q=>Kt.of (by rw[aB aD];exact q)⟩
end
def R.okb {α γ:Type}(r:R α)(k:α->Int->R γ):R γ:=match r with
 | .ok a β=>k a β
 |_=>.bad
def hX (t:Tg)(ft:VF Bool)(fe:VF D)(vs:List Nv):List D->Int->R (List D)
 | [],β=>.ok [] β
 |d :: ds,β=>match nR t d vs with
  |none=>.bad
  |some vs1=>(ft vs1 β).okb λc β1=>if c=true then (fe vs1 β1).okb λx β2=>(hX t ft fe vs ds β2).okb λxs β3=>.ok (x :: xs) β3 else hX t ft fe vs ds β1
def aM (own:Nat)(ixs:List Nat)(t:Tg)(fi:VF (List D))(ft:VF Bool)(fe:VF D):VF D:=λvs β=>(fi vs β).bnd λds β1=>if ds.length<=sizeLine then (hX t ft fe (fj own ixs vs) ds β1).okb λxs β2=>.ok (.list xs) β2 else .bad
def jm:VF Bool:=λ_ β=>.ok true β
def FN (own:Nat)(ixs Lc:List Nat)(j:Nat):Bool:=decide (j < own) || (match ixs[j - own]? with
 |some i=>Lc.contains i
 |none=>false)
theorem Eu {α γ:Type}{Γ:Fx}{E:XK}{r:R α}{k:α->Int->R γ}{P:γ->Int->Prop}(h:Out Γ E (r.okb k) P):∃a β,r=.ok a β/\Out Γ E (k a β) P:=by
 cases r with
 |ok a β=>exact⟨a,β,rfl,h⟩
 |exc c=>exact h.elim
 |bad=>exact h.elim
section
variable {X:Cx}{Γ:Fx}{E:XK}{tg iter elt:Expr}{ifs:List Expr}{scope:Scope}{NB:List Str}{own:Nat}{ixs Li Lc Lt Le:List Nat}{t:Tg}{fi:VF (List D)}{ft:VF Bool}{fe:VF D}{pos:Pos}
def cN {X:Cx}{Γ:Fx}{E:XK}:Dg X [] (qT Γ E jm []):=λpins s σ H Q I ⟨env,G,B,β,J,o⟩=>uS pins s σ H Q I (o G H J (ax.refl _) (iG.refl _ _))
def eG {X:Cx}{Γ:Fx}{E:XK}{c:Expr}{ta:VF Bool}{L:List Nat}(h:xU X Γ E c ta L):Dg X [c] (qT Γ E ta L):=yQ h
def j8 {NB:List Str}{scope:Scope}{C:Addr}{ex:List Addr}{s3:Shared}{H3:Hp}{pn:List (Addr×Obj)}{P:Program}{w:World}:Passes (nE P w) (jK X NB scope C ex s3 H3 pn) E0:=λpins σ H s e s' I h=>by
 obtain⟨_,_,_,_,_,_,_,_,_,q⟩:=h
 exact q.elim
abbrev gU (Γ:Fx)(t:Tg):TG:=λv σ H Q=>∃H0 G0 par br bx,gT (Γ.jK H0 G0 par br bx) t v σ H Q
abbrev tU (Γ:Fx)(own:Nat)(ixs Lc:List Nat)(ft:VF Bool)(Lt:List Nat):TT:=λσ H Q=>∃H0 G0 par br bx,(∀j,FN own ixs Lc j=true->br j=false)/\qT (Γ.jK H0 G0 par br bx) E0 ft Lt σ H Q
abbrev eU (Γ:Fx)(own:Nat)(ixs Lc:List Nat)(fe:VF D)(Le:List Nat):TE:=λσ H Q=>∃H0 G0 par br bx,(∀j,FN own ixs Lc j=true->br j=false)/\pT (Γ.jK H0 G0 par br bx) E0 fe Le .v σ H Q
def FI {σ:St}{H:Hp}{Q:VK}(hLc:∀i,i∈Lc->Γ.br i=false)(h:pT Γ E (aM own ixs t fi ft fe) (Li ++ Lc) .w σ H Q):yA own ixs (iT Γ E fi Li .b) (gU Γ t) (tU Γ own ixs Lc ft Lt) (eU Γ own ixs Lc fe Le) σ H Q:=by
 obtain⟨env,G,B,β,I,o⟩:=h
 refine⟨env,G,B,β,I,o.bnd.imp λds β1 h J G1 H1 I1 s1 m1 wk Da hD=>?_⟩
 have wk:Walk Γ.K B G1 H1 ds J:=wk
 by_cases hz:ds.length<=sizeLine
 case neg=>rw[Nk hz] at h;exact h.elim
 rw[Nc hz] at h
 obtain⟨xs0,β0,e0,h⟩:=Eu h
 have h:∀v G' H',SR Γ B G' H' σ (aY (Li ++ Lc) env) β0->ax G G'->iG B H H'->VO Γ.K B H G' H' .w (.list xs0) v->Q v H':=h
 obtain⟨G2,I2,s2⟩:=I1.aY Lc hLc
 rw[<-cH] at I2
 obtain⟨q1,q2,q3,q4⟩:=I2.fresh hD
 have Ib0:=I2.block own ixs hD
 generalize hbr:yF (benv own ixs (aY (Li ++ Lc) env))=br at Ib0
 have hbo:∀j,FN own ixs Lc j=true->br j=false:=by
  intro j hj
  rw[<-hbr]
  unfold yF
  split
  ·rename_i d e
   exfalso
   unfold benv at e
   by_cases hjo:j < own
   ·rw[NI (by simpa using hjo),Oe,Nc hjo] at e;cases e
   ·rw[NO (by simpa using hjo),NX,Nm] at e
    unfold FN at hj
    rw[Nx hjo,Bool.false_or] at hj
    cases ek:ixs[j - own]? with
    |none=>rw[ek] at hj;cases hj
    |some k=>
     rw[ek] at hj e
     have hk:k∈Lc:=by simpa using hj
     have e:Jw (aY (Li ++ Lc) env)[k]? =.br d:=Option.some.inj e
     cases q:(aY (Li ++ Lc) env)[k]? with
     |none=>rw[q] at e;cases e
     |some s=>
      rw[q] at e
      cases s with
      |no=>cases e
      |fz _=>cases e
      |bx=>cases e
      |br d'=>
       obtain⟨b1,_⟩:=I2.slot k _ q
       rw[hLc k hk] at b1;cases b1
      |ow d'=>
       rw[cH] at q
       have key:∀(M:List Nat) (en:En),k∈M->∀d',(aY M en)[k]?≠some (.ow d'):=by
        intro M
        induction M with
        |nil=>intro en hm;cases hm
        |cons i M ih=>
         intro en hm d' z
         rcases Nh.mp hm with y |y
         ·subst y
          have z1:(ij en k)[k]? =some (.ow d'):=qA (L:=M) z
          have z2:=uU z1
          unfold ij at z1
          rw[z2] at z1
          dsimp only at z1
          rw[ND (Ng.mp z2).1] at z1;cases z1
         ·exact ih (ij en i) y d' z
       exact key Lc _ hk d' q
  ·rfl
 have evb:vl (benv own ixs (aY (Li ++ Lc) env))=fj own ixs (vl env):=by rw[Ej,e8]
 refine⟨λi n σ' H'=>n=ds.length - i/\i<=ds.length/\∃envb Gc β' acc accd,SR (Γ.jK (upd H1 Da (.lst [])) G2 (Da :: B.toList) br B) B Gc H' σ' envb β'/\(envb=benv own ixs (aY (Li ++ Lc) env)\/∃d,hW t d (benv own ixs (aY (Li ++ Lc) env))=some envb)/\
   H' Da=some (.lst acc)/\cF Γ.K Gc acc accd/\accd.length<=i/\∃xs,hX t ft fe (fj own ixs (vl env)) (ds.drop i) β'=.ok xs β0/\accd ++ xs=xs0,
  ⟨ds.length,by simp,N3 _,_,G2,β1,[],[],Ib0,.inl rfl,aC,.nil,N3 _,xs0,by rw[List.drop_zero];exact e0,rfl⟩,?_⟩
 rintro i n σ' H' ⟨rfl,hi',envb,Gc,β',acc,accd,Ib,eb,hacc,racc,lacc,xs,ec,exs⟩
 obtain⟨Io,mv,gD⟩:=I2.unblock hD Ib
 obtain⟨w1,w2⟩:=wk Gc H' i (s2.trans Ib.old) Ib.sub mv
 by_cases hlt:i < ds.length
 ·obtain⟨go,yl⟩:=w1 hlt
  refine .inr ⟨go,λσ' H'=>∃envb Gc β' acc accd,SR (Γ.jK (upd H1 Da (.lst [])) G2 (Da :: B.toList) br B) B Gc H' σ' envb β'/\(envb=benv own ixs (aY (Li ++ Lc) env)\/∃d,hW t d (benv own ixs (aY (Li ++ Lc) env))=some envb)/\
   H' Da=some (.lst acc)/\cF Γ.K Gc acc accd/\accd.length<=i + 1/\∃xs,hX t ft fe (fj own ixs (vl env)) (ds.drop (i + 1)) β'=.ok xs β0/\accd ++ xs=xs0,λσ2 H2 hh=>⟨ds.length - (i + 1),by omega,rfl,hlt,hh⟩,λx H2 y=>?_⟩
  obtain⟨G3,d,x3,ed,rd⟩:=yl x H2 y
  have I3:=Ib.ext x3
  have ed':ds[i]=d:=by rw[M9 hlt] at ed;exact Option.some.inj ed
  rw[O8 hlt,ed'] at ec
  unfold hX at ec
  cases ebv:nR t d (fj own ixs (vl env)) with
  |none=>rw[ebv] at ec;cases ec
  |some vs1=>
   rw[ebv] at ec
   dsimp only at ec
   obtain⟨env1,eb1,ev1⟩:∃env1,hW t d (benv own ixs (aY (Li ++ Lc) env))=some env1/\vl env1=vs1:=by
    have:=Ei t d (benv own ixs (aY (Li ++ Lc) env))
    rw[evb,ebv] at this
    cases q:hW t d (benv own ixs (aY (Li ++ Lc) env)) with
    |none=>rw[q] at this;cases this
    |some env1=>rw[q] at this;exact⟨env1,rfl,Option.some.inj this⟩
   have eb2:hW t d envb=some env1:=by
    rcases eb with rfl | ⟨d0,eb⟩
    ·exact eb1
    ·rw[AW eb];exact eb1
   have no1:yB env1:=Aj (tx _ _ _) eb1
   have a2:H2 Da=some (.lst acc):=x3.hh _ _ hacc
   refine⟨_,_,_,_,_,envb,G3,B,β',d,env1,I3,rd,eb2,λσ3 I4=>?_⟩
   refine⟨_,_,_,_,_,hbo,env1,G3,B,β',I4,?_⟩
   rw[ev1]
   cases et:ft vs1 β' with
   |exc c=>rw[et] at ec;cases ec
   |bad=>rw[et] at ec;cases ec
   |ok c β2=>
    rw[et] at ec
    intro G4 H4 I5 s4 m4
    rw[v9 no1] at I5
    have a4:H4 Da=some (.lst acc):=m4.1 _ _ a2 q3
    cases c with
    |false=>
     refine rF ⟨env1,G4,β2,acc,accd,I5,.inr ⟨d,eb1⟩,a4,racc.mono (x3.gg.trans s4),by omega,xs,?_,exs⟩
     exact ec
    |true=>
     refine rj ⟨_,_,_,_,_,hbo,env1,G4,B,β2,I5,?_⟩
     rw[ev1]
     have ec:((fe vs1 β2).okb λx β3=>(hX t ft fe (fj own ixs (vl env)) (ds.drop (i + 1)) β3).okb λxs β4=>R.ok (x :: xs) β4)=R.ok xs β0:=ec
     cases ee:fe vs1 β2 with
     |exc c=>rw[ee] at ec;cases ec
     |bad=>rw[ee] at ec;cases ec
     |ok dx β3=>
      rw[ee] at ec
      intro v G5 H5 I6 s5 m5 vo
      rw[v9 no1] at I6
      have a5:H5 Da=some (.lst acc):=m5.1 _ _ a4 q3
      have ec:((hX t ft fe (fj own ixs (vl env)) (ds.drop (i + 1)) β3).okb λxs β4=>R.ok (dx :: xs) β4)=R.ok xs β0:=ec
      cases er:hX t ft fe (fj own ixs (vl env)) (ds.drop (i + 1)) β3 with
      |exc c=>rw[er] at ec;cases ec
      |bad=>rw[er] at ec;cases ec
      |ok ys β4=>
       rw[er] at ec
       cases ec
       refine⟨acc,a5,by rw[racc.len];omega,env1,G5,β3,acc ++ [v],accd ++ [dx],?_,.inr ⟨d,eb1⟩,aC,(racc.mono ((x3.gg.trans s4).trans s5)).snoc vo,by rw[NF];simp;omega,ys,er,by rw[<-exs,OG];rfl⟩
       refine I6.updD (Np ..) (Mx.lst (show upd H1 Da (.lst []) Da=some (.lst []) from aC)) (I2.sub.free hD) q3
 ·have e:i=ds.length:=by omega
  subst e
  rw[drop_length] at ec
  cases ec
  rw[Oy] at exs
  subst exs
  refine .inl ⟨w2 (Na _),⟨acc,hacc⟩,h _ Gc H' Io ((s1.trans s2).trans Ib.old) (m1.trans mv) ⟨Da,rfl,fT m1 I1.boxThere hD,gD,acc,hacc,racc⟩⟩
def bU (hg:∀H0 G0 par br bx C ex s3 H3 pn,SG (jK X NB scope C ex s3 H3 pn) (Γ.jK H0 G0 par br bx) tg t)(C:Addr)(ex:List Addr)(s3:Shared)(H3:Hp)(pn:List (Addr×Obj)):PG (jK X NB scope C ex s3 H3 pn) tg (gU Γ t):=by
 rintro pins s σ H v u Q I r ⟨H0,G0,par,br,bx,q⟩
 exact hg H0 G0 par br bx C ex s3 H3 pn pins s σ H v u Q I r q
def bH (Lc:List Nat)(hc:X.calm=true)(S:cf X NB own ixs scope)(hLc:∀i,i∈Lc->Γ.br i=false)(hi:SI X Γ E tg iter fi Li .b)
  (hg:∀H0 G0 par br bx C ex s3 H3 pn,SG (jK X NB scope C ex s3 H3 pn) (Γ.jK H0 G0 par br bx) tg t)
  (ht:∀H0 G0 par br bx C ex s3 H3 pn,(∀j,FN own ixs Lc j=true->br j=false)->Dg (jK X NB scope C ex s3 H3 pn) ifs (qT (Γ.jK H0 G0 par br bx) E0 ft Lt))
  (he:∀H0 G0 par br bx C ex s3 H3 pn,(∀j,FN own ixs Lc j=true->br j=false)->SE (jK X NB scope C ex s3 H3 pn) (Γ.jK H0 G0 par br bx) E0 elt fe Le .v)
  (hs:∀x,foldedSetIterable iter X.env x=pure x:=by intro _;rfl) :
  SE X Γ E (.ListComp elt [⟨tg,iter,ifs,0⟩] scope pos) (aM own ixs t fi ft fe) (Li ++ Lc) .w:=by
 refine PE.post' (wR (g:=gU Γ t) (tt:=tU Γ own ixs Lc ft Lt) (te:=eU Γ own ixs Lc fe Le) hc S hi (bU hg) (λC ex s3 H3 pn=>?_) (λC ex s3 H3 pn=>?_) hs) λσ H Q h=>FI hLc h
 ·rintro pins s σ H Q I ⟨H0,G0,par,br,bx,b,q⟩
  exact ht H0 G0 par br bx C ex s3 H3 pn b pins s σ H Q I q
 ·rintro pins s σ H Q I ⟨H0,G0,par,br,bx,b,q⟩
  exact he H0 G0 par br bx C ex s3 H3 pn b pins s σ H Q I q
def p5 {i:Nat}{y:Str}{py spos:Pos}(Lc:List Nat)(hc:X.calm=true)(S:cf X NB own ixs scope)(hLc:∀i,i∈Lc->Γ.br i=false)(hi:SI X Γ E tg iter fi Li .b)
  (hg:∀H0 G0 par br bx C ex s3 H3 pn,SG (jK X NB scope C ex s3 H3 pn) (Γ.jK H0 G0 par br bx) tg t)
  (ht:∀H0 G0 par br bx C ex s3 H3 pn,(∀j,FN own ixs Lc j=true->br j=false)->Dg (jK X NB scope C ex s3 H3 pn) ifs (qT (Γ.jK H0 G0 par br bx) E0 ft Lt))
  (he:∀H0 G0 par br bx C ex s3 H3 pn,(∀j,FN own ixs Lc j=true->br j=false)->SE (jK X NB scope C ex s3 H3 pn) (Γ.jK H0 G0 par br bx) E0 elt fe Le .v)
  (hN:X.N.Nodup) (hy:X.N[i]? =some y:=by rfl) (hl:X.env.scope.names.lookup y=some .local:=by rfl)
  (hsw:swapsWith (.ListComp elt [⟨tg,iter,ifs,0⟩] scope pos) (some (.Name y py)) spos.line X.env=pure true:=by rfl)
  (hs:∀x,foldedSetIterable iter X.env x=pure x:=by intro _;rfl) :
  SS X Γ E (.Assign [.Name y py] (.ListComp elt [⟨tg,iter,ifs,0⟩] scope pos) spos) (bO i (Li ++ Lc) (aM own ixs t fi ft fe)):=by
 refine PS.post (Cc (g:=gU Γ t) (tt:=tU Γ own ixs Lc ft Lt) (te:=eU Γ own ixs Lc fe Le) hc S hi (bU hg) (λC ex s3 H3 pn=>?_) (λC ex s3 H3 pn=>?_) hN hy hl hsw hs) λN σ H ⟨env,G,B,β,I,o⟩=>?_
 ·rintro pins s σ H Q I ⟨H0,G0,par,br,bx,b,q⟩
  exact ht H0 G0 par br bx C ex s3 H3 pn b pins s σ H Q I q
 ·rintro pins s σ H Q I ⟨H0,G0,par,br,bx,b,q⟩
  exact he H0 G0 par br bx C ex s3 H3 pn b pins s σ H Q I q
 refine FI hLc ⟨env,G,B,β,I,c8 o λd β' k v G' H' I' s' m' vo=>?_⟩
 obtain⟨G2,I2,s2,r⟩:=I.letW I' vo
 exact k B G2 H' _ (I2.set' i r) (s'.trans s2)
end
def fin:SO->FR
 | .nx _ _=>.ok .none false
 | .rt d fr _=>.ok d fr
 | .exc c=>.exc c
 |_=>.bad
def x9 (n:Nat)(ds:List D):En:=ds.map Sl.fz ++ List.replicate (n - ds.length) .no
def aS (n p:Nat)(m:SF):List D->FR:=λds=>if ds.length=p then fin (m (x9 n ds) 0) else .bad
abbrev Fx.fn (K:Frag)(H G:Hp)(ca:Str->Addr):Fx:=⟨K,H,G,[],ca,λ_=>false,none⟩
def SR.start {K:Frag}{H G:Hp}{ca:Str->Addr}{N:List Str}{vs:List V}{ds:List D}(s:ax G H)(r:cF K G vs ds)(hn:ds.length<=N.length):SR (Fx.fn K H G ca) none G H (start N vs) (x9 N.length ds) 0:=by
 have hl:=r.len
 refine⟨s,ax.refl _,λb _ h=>h,λb o h _=>Kt.of h,λb h=>(by cases h),λb h=>(by cases h),λb h=>(by cases h),?_,λi t e=>?_,λi j a d e h=>?_⟩
 ·unfold L2.start x9;simp;omega
 ·unfold x9 at e
  by_cases hi:i < ds.length
  ·rw[NI (by simpa using hi),Nm,M9 hi] at e
   cases e
   obtain⟨x,hx,rx⟩:=r.at (M9 hi)
   refine⟨x,?_,rx⟩
   unfold L2.start
   rw[NI (by simpa[hl] using hi),Nm,hx];rfl
  ·rw[NO (by simpa using hi),Oe] at e
   split at e
   ·cases e;trivial
   ·cases e
 ·unfold x9 at h
  have hm:=Nw h
  rcases Nz.mp hm with z |z
  ·obtain⟨_,_,z⟩:=NN.mp z;cases z
  ·have:=Od z;cases this
section
variable {P:Program}{w:World}{K:Frag}{mg:Str->Option Value}{base:Heap}{ca:Str->Addr}
def aU {x qual:Str}{st:Stmt}{f:Addr}{fd:FuncData}{N ps:List Str}{k:Nat}{m:SF}(F:Bd K x qual st f fd)(S:aF N ps (ar st))
  (hbody:∀(cdv:Value) (A:Around) (outer:List Env) (s:Shared) (H G:Hp) (E:XK),dJ k (A.deeper (envOfC qual (ar st) s.heap.objs.size f cdv))->Dq (pF (nE P w) P w K mg base N qual (ar st) f cdv A outer s H E) (Fx.fn K H G ca) E (de st) m) :
  fq P w K mg base (nE P w) (k + 1) f fd ps (DD K ca ps.length (aS N.length ps.length m)):=by
 have hpn:ps.length<=N.length:=by have:=congrArg List.length S.pre;rw[NU] at this;omega
 refine F.Be S (λvs H Q E h=>?_) (λcdv A outer s H vs Q E hr h=>?_)
 ·obtain⟨G,ds,sG,hl,r,_⟩:=h
  rw[r.len];exact hl
 ·obtain⟨G,ds,sG,hl,r,h⟩:=h
  refine⟨_,hbody cdv A outer s H G E hr,?_⟩
  have I:=SR.start (ca:=ca) (N:=N) sG r (by omega)
  refine⟨_,G,none,0,I,?_⟩
  unfold aS at h
  rw[Nc hl] at h
  have fin':∀{B G' H' σ env β},SR (Fx.fn K H G ca) B G' H' σ env β->ax H H':=λJ b o e=>J.keep b o e (λz=>by cases z)
  cases q:m (x9 N.length ds) 0 with
  |nx env β=>rw[q] at h;exact λB G' H' σ J s'=>h .non G' H' (fin' J) s' J.sub (λb h1 h2=>J.new b h1 h2) Rp.non
  |bk env β=>rw[q] at h;exact h.elim
  |ct env β=>rw[q] at h;exact h.elim
  |rt d fr β=>
   rw[q] at h
   refine λB G' H' σ env v J s' rv=>h v G' H' (fin' J) s' J.sub (λb h1 h2=>J.new b h1 h2) ?_
   cases fr with
   |true=>exact rv
   |false=>exact rv
  |exc c=>rw[q] at h;exact λH' kp=>h H' λb o e=>kp b o e (λz=>by cases z)
  |bad=>rw[q] at h;exact h.elim
def BY {f:Addr}{fd:FuncData}{ps:List Str}{k:Nat}:fq P w K mg base (nE P w) k f fd ps (DD K ca ps.length λ_=>.bad):=
 ⟨λvs H Q E h=>by obtain⟨_,_,_,_,_,h⟩:=h;exact h.elim,λA outer s H args us vs Q E _ _ _ _ h=>by obtain⟨_,_,_,_,_,h⟩:=h;exact h.elim⟩
def Ey {n:Nat}{F F':List D->FR}(h:∀ds,ds.length=n->F' ds≠.bad->F ds=F' ds){vs:List V}{H:Hp}{Q:VK}{E:XK}(q:DD K ca n F' vs H Q E):DD K ca n F vs H Q E:=by
 obtain⟨G,ds,s,hl,r,q⟩:=q
 refine⟨G,ds,s,hl,r,?_⟩
 by_cases hb:F' ds=.bad
 ·rw[hb] at q;exact q.elim
 ·rw[h ds hl hb];exact q
def bR.imp {x:Str}{ps:List Str}{k:Nat}{F F':List D->FR}(h:bR P w K mg base ca x ps k F)(i:∀ds,F' ds≠.bad->F ds=F' ds):bR P w K mg base ca x ps k F':=by
 obtain⟨f,fd,a,b,c,d⟩:=h.ex
 exact⟨⟨f,fd,a,b,c,d.imp λvs H Q E q=>Ey (λds _=>i ds) q⟩,λds hn=>h.len ds (by rw[i ds hn];exact hn)⟩
def aG {n p:Nat}{m:SF}(ds:List D)(h:aS n p m ds≠.bad):ds.length=p:=by
 unfold aS at h
 by_cases hl:ds.length=p
 ·exact hl
 ·rw[Nk hl] at h;exact absurd rfl h
end
section
variable {X:Cx}{Γ:Fx}{E:XK}{e a b c:Expr}{f fa fb:VF D}{L La Lb:List Nat}{md ma mb:Md}{pos apos cpos np:Pos}
def qX:Option Sl->Bool
 |some (.ow (.list _))=>true
 |_=>false
theorem og {o:Option Sl}(h:qX o=true):∃ds,o=some (.ow (.list ds)):=by
 cases o with
 |none=>cases h
 |some s=>
  cases s with
  |ow d=>cases d with
   |list ds=>exact⟨ds,rfl⟩
   |_=>cases h
  |_=>cases h
def FW (i:Nat)(env:En)(β:Int)(g:List D->Option (List D)):SO:=match env[i]? with
 |some (.ow (.list ds))=>(match g ds with
  |some es=>.nx (env.set i (.ow (.list es))) β
  |none=>.bad)
 |_=>.bad
def nJ (i:Nat)(L:List Nat)(f:VF D):SF:=λenv β=>if qX env[i]? =true then toS (f (vl env) β) λd β'=>FW i (aY L env) β' λds=>if ds.length < sizeLine then some (ds ++ [d]) else none else .bad
def p7 {Γ:Fx}{E:XK}{G:Hp}{N:Ends}{i:Nat}{env:En}{β:Int}{g:List D->Option (List D)}(h:sJ Γ E G N (FW i env β g)):∃ds es,env[i]? =some (.ow (.list ds))/\g ds=some es/\sJ Γ E G N (.nx (env.set i (.ow (.list es))) β):=by
 unfold FW at h
 split at h
 ·rename_i ds q
  cases e:g ds with
  |none=>rw[e] at h;exact h.elim
  |some es=>rw[e] at h;exact⟨ds,es,q,e,h⟩
 ·exact h.elim
def mL (i:Nat){x:Str}(hb:∀j,Γ.br j=false)(he:SE X Γ E e f L .v)(hN:X.N[i]? =some x:=by rfl)(hv:y7 X.env.scope x:=by first |exact Or.inl rfl |exact Or.inr (Or.inl rfl) |exact Or.inr (Or.inr rfl))(hd:(x == ("__debug__":Str))=false:=by decide)
  (hcd:(x == ("__classdict__":Str))=false:=by decide)
  (hbase:attributeBase (.Name x np) "append" X.env (eval (.Name x np) X.env)=eval (.Name x np) X.env:=by rfl)
  (hfew:((backTo cpos (starEach [e] X.env)).all (λx=> !x.1) && (backToKw cpos (keywordEach [] X.env)).all (λx=>x.1.isSome)
   && decide ([e].length + ([]:List Keyword).length + (if ([]:List Keyword).isEmpty then 0 else 1) < 30))=true:=by rfl)
  (hline:(apos.endLine == cpos.line)=true:=by rfl) (hs:starEach [e] X.env=(false,eval e X.env) :: starEach [] X.env:=by rfl)
  (hsw:swapsWith (.Call (.Attribute (.Name x np) "append" apos) [e] [] cpos) none pos.line X.env=pure false:=by rfl) :
  SS X Γ E (.Expr (.Call (.Attribute (.Name x np) "append" apos) [e] [] cpos) pos) (nJ i L f):=by
 refine PS.post (pZ (yP OV PySem.F.slot_list_append PySem.F.type_list_append oC (ki hN hv hd hcd) (bc he cp hs) hbase hfew hline hs rfl) hsw) λN σ H ⟨env,G,B,β,I,o⟩=>?_
 unfold nJ at o
 by_cases hO:qX env[i]? =true
 case neg=>rw[Nk hO] at o;exact o.elim
 rw[Nc hO] at o
 obtain⟨ds0,q0⟩:=og hO
 obtain⟨p,h1,_,_,_,xs,h5,_⟩:=I.slot i _ q0
 refine⟨_,h1,.inl ⟨rfl,xs,.inl (.inl h5)⟩,?_⟩
 refine⟨env,G,B,β,I,c8 o λd β' k v G' H' I' s' m' vo=>?_⟩
 obtain⟨ds,es,q,eg,k⟩:=p7 k
 by_cases hz:ds.length < sizeLine
 case neg=>rw[Nk hz] at eg;cases eg
 rw[Nc hz] at eg
 cases eg
 obtain⟨p',g1,_,_,_,ys,g5,g6⟩:=I'.slot i _ q
 rw[h1] at g1;cases g1
 refine⟨p,ys,v,rfl,rfl,g5,by rw[g6.len];exact hz,?_⟩
 exact k B G' _ σ (I'.write hb q h1 λH2 e2 s2=>⟨_,e2,g6.snoc vo⟩) s'
def JT:V->List V->Hp->VK->Prop:=λx vs H Q=>∃l b xs zs,x=.ref l/\vs= [.ref b]/\H l=some (.lst xs)/\Rd H b (.lst zs)/\xs.length + zs.length<=sizeLine/\Q .non (upd H l (.lst (xs ++ zs)))
def Inv.lstR {pins:List (Addr×Obj)}{σ:St}{H:Hp}{s:Shared}{l:Addr}{xs:List V}(I:Inv X pins σ H s)(hH:Rd H l (.lst xs)):xs.length<=sizeLine/\∃(its:List Value) (n:Nat),Vals xs its/\xs.length=its.length/\s.heap.get? l=some {cls:=.type "list",data:=.seq its.toArray n}:=by
 obtain⟨z,its,n,r,e⟩:=hH.ok I.hok
 exact⟨z,its,n,r,r.length,e⟩
def EB:JG X "list.extend" JT:=by
 intro pins s σ H x vs v us Q I rx rv h
 obtain⟨l,b,xs,zs,rfl,rfl,hH,hB,hz,q⟩:=h
 cases rx
 obtain⟨u,rfl,ru⟩:=rv.one
 cases ru
 obtain⟨z,its,n,r,hl,e⟩:=I.lstM hH
 obtain⟨z2,its2,n2,r2,hl2,e2⟩:=I.lstR hB
 have hsz:its.toArray.size + its2.toArray.size<=sizeLine:=by rw[Nt,Nt];omega
 have hlong:¬(!its.toArray.isEmpty && Builtin.List.listTooLong (its.toArray.size + its2.toArray.size))=true:=by
  rw[wg hsz,Bool.and_false]
  exact Nj
 refine call_meets F.slot_list_extend ⟨_,e,rfl⟩ F.entry_list_extend (F.args_list_extend_2 _ _)
  (AutoSeq1.list_extend_list_list_0 l its.toArray n b its2.toArray n2 hlong (by rw[Nt];omega) (by omega)) ⟨e,e2,?_⟩
 refine⟨.non,_,I.lset (its':=its ++ its2) hH e (by simp) (r.append r2) ?_,rfl,q⟩
 rw[NF]
 omega
def AU (i:Nat)(L:List Nat)(f:VF D):SF:=λenv β=>if qX env[i]? =true then toS (f (vl env) β) λd β'=>FW i (aY L env) β' λds=>match d with
 | .list es=>if ds.length + es.length<=sizeLine then some (ds ++ es) else none
 |_=>none else .bad
theorem AK (i:Nat){x:Str}(hb:∀j,Γ.br j=false)(he:SE X Γ E e f L md)(hN:X.N[i]? =some x:=by rfl)(hv:y7 X.env.scope x:=by first |exact Or.inl rfl |exact Or.inr (Or.inl rfl) |exact Or.inr (Or.inr rfl))(hd:(x == ("__debug__":Str))=false:=by decide)
  (hcd:(x == ("__classdict__":Str))=false:=by decide)
  (hbase:attributeBase (.Name x np) "extend" X.env (eval (.Name x np) X.env)=eval (.Name x np) X.env:=by rfl)
  (hfew:((backTo cpos (starEach [e] X.env)).all (λx=> !x.1) && (backToKw cpos (keywordEach [] X.env)).all (λx=>x.1.isSome)
   && decide ([e].length + ([]:List Keyword).length + (if ([]:List Keyword).isEmpty then 0 else 1) < 30))=true:=by rfl)
  (hline:(apos.endLine == cpos.line)=true:=by rfl) (hs:starEach [e] X.env=(false,eval e X.env) :: starEach [] X.env:=by rfl)
  (hsw:swapsWith (.Call (.Attribute (.Name x np) "extend" apos) [e] [] cpos) none pos.line X.env=pure false:=by rfl) :
  SS X Γ E (.Expr (.Call (.Attribute (.Name x np) "extend" apos) [e] [] cpos) pos) (AU i L f):=by
 refine PS.post (pZ (yP OV PySem.F.slot_list_extend PySem.F.type_list_extend EB (ki hN hv hd hcd) (bc he cp hs) hbase hfew hline hs rfl) hsw) λN σ H ⟨env,G,B,β,I,o⟩=>?_
 unfold AU at o
 by_cases hO:qX env[i]? =true
 case neg=>rw[Nk hO] at o;exact o.elim
 rw[Nc hO] at o
 obtain⟨ds0,q0⟩:=og hO
 obtain⟨p,h1,_,_,_,xs,h5,_⟩:=I.slot i _ q0
 refine⟨_,h1,.inl ⟨rfl,xs,.inl (.inl h5)⟩,?_⟩
 refine⟨env,G,B,β,I,c8 o λd β' k v G' H' I' s' m' vo=>?_⟩
 obtain⟨ds,es,q,eg,k⟩:=p7 k
 cases d with
 |list fs=>
  dsimp only at eg
  by_cases hz:ds.length + fs.length<=sizeLine
  case neg=>rw[Nk hz] at eg;cases eg
  rw[Nc hz] at eg
  cases eg
  obtain⟨p',g1,_,_,_,ys,g5,g6⟩:=I'.slot i _ q
  rw[h1] at g1;cases g1
  obtain⟨pb,zs,rfl,hq,rz⟩:=(vo.brw I.boxThere).list I'.sub
  refine⟨p,pb,ys,zs,rfl,rfl,g5,hq,by rw[g6.len,rz.len];exact hz,?_⟩
  exact k B G' _ σ (I'.write hb q h1 λH2 e2 s2=>⟨_,e2,g6.append rz⟩) s'
 |_=>cases eg
def vC (i:Nat)(Le Li:List Nat)(fe fi:VF D):SF:=λenv β=>toS (fe (vl env) β) λd β1=>if qX (aY Le env)[i]? =true then toS (fi (vl env) β1) λk β2=>FW i (aY (Le ++ Li) env) β2 λds=>match k with
 | .int j=>(rN ds.length j).map λn=>ds.set n d
 |_=>none else .bad
theorem Fq (i:Nat){x:Str}{spos:Pos}(hb:∀j,Γ.br j=false)(he:SE X Γ E e f La .v)(hi:SE X Γ E a fa Lb mb)(hN:X.N[i]? =some x:=by rfl)(hv:y7 X.env.scope x:=by first |exact Or.inl rfl |exact Or.inr (Or.inl rfl) |exact Or.inr (Or.inr rfl))(hd:(x == ("__debug__":Str))=false:=by decide)
  (hcd:(x == ("__classdict__":Str))=false:=by decide)
  (hA:∀v,assign (.Subscript (.Name x np) a spos) X.env v=(do
   let ov <-holding [v] (eval (.Name x np) X.env)
   let iv <-holding [v,ov] (eval a X.env)
   standAt spos
   holding [v,ov,iv] (setItem ov iv v)
   release [v,ov,iv] []):=by intro _;rfl)
  (hs:swapsWithSole [.Subscript (.Name x np) a spos] e pos.line X.env=pure false:=by rfl) (hw:swappedStores [.Subscript (.Name x np) a spos] e X.env=pure none:=by rfl)
  (h1:(assignEach [.Subscript (.Name x np) a spos] X.env).map (·.2)= [assign (.Subscript (.Name x np) a spos) X.env]:=by rfl) :
  SS X Γ E (.Assign [.Subscript (.Name x np) a spos] e pos) (vC i La Lb f fa):=by
 refine PS.post (rl he (vg (ki hN hv hd hcd) hi set_list hA) hs hw h1) λN σ H ⟨env,G,B,β,I,o⟩=>?_
 refine⟨env,G,B,β,I,c8 o λd β1 o v G1 H1 I1 s1 m1 vo=>?_⟩
 by_cases hO:qX (aY La env)[i]? =true
 case neg=>rw[Nk hO] at o;exact o.elim
 rw[Nc hO] at o
 obtain⟨ds0,q0⟩:=og hO
 obtain⟨p,h1,_,_,_,xs,h5,_⟩:=I1.slot i _ q0
 refine⟨_,h1,aY La env,G1,B,β1,I1,?_⟩
 rw[e8]
 refine c8 o λk β2 o w G2 H2 I2 s2 m2 vi=>?_
 rw[<-cH] at I2
 obtain⟨ds,es,q,eg,o⟩:=p7 o
 cases k with
 |int j=>
  dsimp only at eg
  obtain rfl:=(vi.brw I1.boxThere).int
  obtain⟨p',g1,_,_,_,ys,g5,g6⟩:=I2.slot i _ q
  rw[h1] at g1;cases g1
  cases en:rN ds.length j with
  |none=>rw[en] at eg;cases eg
  |some n=>
   rw[en] at eg
   cases eg
   have vo:Rp Γ.K G1 v d:=vo
   refine⟨p,ys,j,n,rfl,rfl,g5,by rw[g6.len];exact en,?_⟩
   exact o B G2 _ σ (I2.write hb q h1 λH3 e3 s3=>⟨_,e3,g6.set (vo.mono s2) n⟩) (s1.trans s2)
 |_=>cases eg
end
section
variable {K:Frag}{X:Cx}
def qr {g:Int->Int->V}{gd:D->D->Option D}(h:∀dx dy d,gd dx dy=some d->∃i j,dx=.int i/\dy=.int j/\∀G,Rp K G (g i j) d):nt K (vE g) gd .v:=by
 intro B G H x y dx dy d Q s hB bx by' e k
 obtain⟨i,j,rfl,rfl,r⟩:=h _ _ _ e
 obtain rfl:=bx.int
 obtain rfl:=by'.int
 exact⟨i,j,rfl,rfl,k _ G H (Ext.refl s) (r G)⟩
def zT {C:Int->Int->Prop}{g:Int->Int->V}{gd:D->D->Option D}(h:∀dx dy d,gd dx dy=some d->∃i j,dx=.int i/\dy=.int j/\C i j/\∀G,Rp K G (g i j) d):nt K (rI C g) gd .v:=by
 intro B G H x y dx dy d Q s hB bx by' e k
 obtain⟨i,j,rfl,rfl,c,r⟩:=h _ _ _ e
 obtain rfl:=bx.int
 obtain rfl:=by'.int
 exact⟨i,j,rfl,rfl,c,k _ G H (Ext.refl s) (r G)⟩
def gI (c:Int->Int->Bool)(g:Int->Int->D):D->D->Option D
 | .int i,.int j=>if c i j=true then some (g i j) else none
 |_,_=>none
def EI (g:Int->Int->D):D->D->Option D
 | .int i,.int j=>some (g i j)
 |_,_=>none
def zP {c:Int->Int->Bool}{g:Int->Int->D}{dx dy d:D}(h:gI c g dx dy=some d):∃i j,dx=.int i/\dy=.int j/\c i j=true/\d=g i j:=by
 unfold gI at h
 split at h
 ·split at h
  ·cases h;exact⟨_,_,rfl,rfl,by assumption,rfl⟩
  ·cases h
 ·cases h
def nk {g:Int->Int->D}{dx dy d:D}(h:EI g dx dy=some d):∃i j,dx=.int i/\dy=.int j/\d=g i j:=by
 unfold EI at h
 split at h
 ·cases h;exact⟨_,_,rfl,rfl,rfl⟩
 ·cases h
def n8:D->D->Option D:=EI λi j=>.int (i - j)
def Gr:nt K (vE λi j=>.int (i - j)) n8 .v:=qr λdx dy d h=>by obtain⟨i,j,rfl,rfl,rfl⟩:=nk h;exact⟨i,j,rfl,rfl,λ_=>.int _⟩
def Hl:D->D->Option D:=gI (λ_ j=>decide (0 < j) && decide (j < 1073741824)) λi j=>.int (i / j)
def J1:nt K (rI Er λi j=>.int (i / j)) Hl .v:=zT λdx dy d h=>by obtain⟨i,j,rfl,rfl,c,rfl⟩:=zP h;exact⟨i,j,rfl,rfl,by simpa[Er] using c,λ_=>.int _⟩
def lF:D->D->Option D:=gI (λ_ j=>decide (0 < j)) λi j=>.int (i % j)
def sN:nt K (rI (λ_ j=>0 < j) λi j=>.int (i % j)) lF .v:=zT λdx dy d h=>by obtain⟨i,j,rfl,rfl,c,rfl⟩:=zP h;exact⟨i,j,rfl,rfl,by simpa using c,λ_=>.int _⟩
def GG (i j:Int):Bool:=decide (0<=j) && decide (j<=1000000) && decide (i.natAbs < 2 ^ 64)
def FC {i j:Int}(h:GG i j=true):GJ i j:=by
 unfold GG at h
 simp only[Ny,NC] at h
 exact⟨h.1.1,h.1.2,h.2⟩
def Ha:D->D->Option D:=gI GG λi j=>.int (i * 2 ^ j.toNat)
def KO:nt K (rI GJ λi j=>.int (i * 2 ^ j.toNat)) Ha .v:=zT λdx dy d h=>by obtain⟨i,j,rfl,rfl,c,rfl⟩:=zP h;exact⟨i,j,rfl,rfl,FC c,λ_=>.int _⟩
def CL:D->D->Option D:=EI λi j=>.int (Builtin.bitAnd i j)
def Js:nt K (vE λi j=>.int (Builtin.bitAnd i j)) CL .v:=qr λdx dy d h=>by obtain⟨i,j,rfl,rfl,rfl⟩:=nk h;exact⟨i,j,rfl,rfl,λ_=>.int _⟩
def K5:D->D->Option D:=EI λi j=>.int (Builtin.bitOr i j)
def JQ:nt K (vE λi j=>.int (Builtin.bitOr i j)) K5 .v:=qr λdx dy d h=>by obtain⟨i,j,rfl,rfl,rfl⟩:=nk h;exact⟨i,j,rfl,rfl,λ_=>.int _⟩
def tE:D->D->Option D:=EI λi j=>.bool (decide (i < j))
def vZ:D->D->Option D:=EI λi j=>.bool (decide (i<=j))
def LO:D->D->Option D:=EI λi j=>.bool (decide (j<=i))
def A2:nt K (vE λi j=>.bl (decide (i < j))) tE .v:=qr λdx dy d h=>by obtain⟨i,j,rfl,rfl,rfl⟩:=nk h;exact⟨i,j,rfl,rfl,λ_=>.bl _⟩
def xG:nt K (vE λi j=>.bl (decide (i<=j))) vZ .v:=qr λdx dy d h=>by obtain⟨i,j,rfl,rfl,rfl⟩:=nk h;exact⟨i,j,rfl,rfl,λ_=>.bl _⟩
def LL:nt K (vE λi j=>.bl (decide (j<=i))) LO .v:=qr λdx dy d h=>by obtain⟨i,j,rfl,rfl,rfl⟩:=nk h;exact⟨i,j,rfl,rfl,λ_=>.bl _⟩
mutual
theorem zk:∀d:D,d.canLay0=true->Bi d=true
 | .none,_=>rfl
 | .bool _,_=>rfl
 | .int _,_=>rfl
 | .str _,_=>rfl
 | .list ds,h=>by simp only[PyData.canLay0] at h;simp only[Bi];exact rG ds h
 | .tuple ds,h=>by simp only[PyData.canLay0] at h;simp only[Bi];exact rG ds h
 | .dict _,h=>by simp[PyData.canLay0] at h
theorem rG:∀ds:List D,PyData.canLayAll0 ds=true->sd ds=true
 | [],_=>rfl
 |d :: ds,h=>by
  simp only[PyData.canLayAll0,Ny] at h
  simp only[sd,Ny]
  exact⟨zk d h.1,rG ds h.2⟩
end
def u5 {d:D}(h:SeqAt.shaped d=true):Bi d=true:=zk d (OA h)
theorem yV:∀{ds:List D},(ds.all SeqAt.shaped)=true->sd ds=true
 | [],_=>rfl
 |d :: ds,h=>by
  rw[all_cons,Ny] at h
  simp only[sd,Ny]
  exact⟨u5 h.1,yV h.2⟩
def cJ (neg:Bool)(x y:D):Option D:=if (SeqAt.shaped x && SeqAt.shaped y)=true then some (.bool (if neg then !PyData.eqv x y else PyData.eqv x y)) else none
def dA {neg:Bool}:nt K (Ir K neg) (cJ neg) .v:=by
 intro B G H x y dx dy d Q s hB bx by' e k
 unfold cJ at e
 split at e
 ·rename_i h
  rw[Ny] at h
  cases e
  exact⟨dx,dy,(bx.rpH s).rep (u5 h.1),(by'.rpH s).rep (u5 h.2),h.1,h.2,k _ G H (Ext.refl s) (.bl _)⟩
 ·cases e
def lH (neg:Bool)(x y:D):Option D:=match pN y with
 |some ds=>if (SeqAt.shaped x && ds.all SeqAt.shaped)=true then some (.bool (if neg then !(ds.any λe=>PyData.eqv e x) else ds.any λe=>PyData.eqv e x)) else none
 |none=>none
theorem mw.seq {B:Option Addr}{G H:Hp}{v:V}{d:D}{ds:List D}(h:mw K B G H v d)(e:pN d=some ds)(s:ax G H):∃a xs,v=.ref a/\(iM K H a xs\/gB K H a xs)/\cF K G xs ds:=by
 cases d with
 |list l=>cases e;obtain⟨a,xs,e,q,r⟩:=h.list s;exact⟨a,xs,e,.inl (.inl q),r⟩
 |tuple l=>cases e;obtain⟨a,xs,e,q,r⟩:=h.tuple s;exact⟨a,xs,e,.inr q,r⟩
 |_=>cases e
theorem oW {neg:Bool}:nt K (IL K neg) (lH neg) .v:=by
 intro B G H x y dx dy d Q s hB bx by' e k
 unfold lH at e
 cases q:pN dy with
 |none=>rw[q] at e;cases e
 |some ds=>
  rw[q] at e
  dsimp only at e
  split at e
  ·rename_i h
   rw[Ny] at h
   cases e
   obtain⟨a,xs,rfl,hq,r⟩:=by'.seq q s
   refine⟨a,xs,dx,ds,rfl,hq,(r.mono s).reps (yV h.2),(bx.rpH s).rep (u5 h.1),h.1,λe he=>NQ.mp h.2 e he,k _ G H (Ext.refl s) (.bl _)⟩
  ·cases e
def rD:D->Bool
 | .none=>true
 |_=>false
def Im {a:Expr}{fa:VF D}{La:List Nat}{ma:Md}{Γ:Fx}{E:XK}{j pos' pos}(ha:SE X Γ E a fa La ma):SE X Γ E (.Compare a [.Is] [.Constant .none j pos'] pos) (f1 fa λd=>some (.bool (rD d))) La .v:=by
 refine PE.post' (GB (Gz ha)) λσ H Q ⟨env,G,B,β,I,o⟩=>?_
 refine lb (r:=λx H1 Q=>Q (.bl (decide (x=.non))) H1) ?_ I o
 intro B G H x dx d Q s hB bx e k
 cases e
 have:decide (x=.non)=rD dx:=by
  cases dx with
  |none=>obtain rfl:=bx.none;rfl
  |bool b=>obtain rfl:=bx.bool;rfl
  |int b=>obtain rfl:=bx.int;rfl
  |str b=>obtain rfl:=bx.str;rfl
  |list b=>obtain⟨a,xs,rfl,_⟩:=bx.list s;rfl
  |tuple b=>obtain⟨a,xs,rfl,_⟩:=bx.tuple s;rfl
  |dict b=>
   rcases bx with bx | ⟨a,rfl,_⟩
   ·cases bx <;> rfl
   ·rfl
 show Q (.bl (decide (x=.non))) H
 rw[this]
 exact k _ G H (Ext.refl s) (.bl _)
theorem cF.ints {G:Hp}:∀ns:List Int,cF K G (ns.map V.int) (ns.map int)
 | []=>.nil
 |n :: ns=>.cons (.int n) (cF.ints ns)
theorem Am.noNone {G:Hp}{kvs:List (Key×V)}{d:D}{r:List (D×D)}(h:Am K G kvs ((.none,d) :: r)):False:=by
 generalize e:(PyData.none,d) :: r=l at h
 cases h with
 |nil=>cases e
 | @cons k x xs d' ds _ _=>
  injection e with e1 _
  injection e1 with e2 _
  cases k <;> cases e2
theorem Bg.noNone {G:Hp}{kvs:List (List Key×V)}{d:D}{r:List (D×D)}(h:Bg K G kvs ((.none,d) :: r)):False:=by
 generalize e:(PyData.none,d) :: r=l at h
 cases h with
 |nil=>cases e
 | @cons k x xs d' ds _ _=>
  injection e with e1 _
  injection e1 with e2 _
  cases e2
def mw.scr {B:Option Addr}{G H:Hp}{v:V}{ds:List D}(h:mw K B G H v (.dict [(.none,.list ds)]))(s:ax G H):∃a xs,v=.ref a/\iM K H a xs/\cF K G xs ds:=by
 rcases h with h | ⟨a,rfl,n,h⟩
 ·cases h with
  | @scr a ns q=>exact⟨a,_,rfl,s.seq q,cF.ints ns⟩
  |dK _ r=>exact r.noNone.elim
  |dT _ r=>exact r.noNone.elim
 ·rcases h with⟨_,_,r⟩ | ⟨_,_,r⟩
  ·exact r.noNone.elim
  ·exact r.noNone.elim
def aV:D->D->Option D
 | .list ds,.int i=>lG ds i
 | .tuple ds,.int i=>lG ds i
 | .str z,.int i=>if z.length<=sizeLine then (lG z.cps.toList i).map λc=>.str ⟨#[c]⟩ else none
 | .dict [(.none,.list ds)],.int i=>lG ds i
 |_,_=>none
theorem t9 {G:Hp}{xs:List V}{ds:List D}{i:Int}{d:D}(r:cF K G xs ds)(h:lG ds i=some d):∃x,lG xs i=some x/\Rp K G x d:=by
 unfold lG at h ⊢
 rw[r.len]
 cases e:rN ds.length i with
 |none=>rw[e] at h;cases h
 |some j=>rw[e] at h;exact r.at h
theorem aX:nt K (MD K) aV .v:=by
 intro B G H x y dx dy d Q s hB bx by' e k
 cases dx with
 |list ds=>
  cases dy with
  |int i=>
   obtain rfl:=by'.int
   obtain⟨a,xs,rfl,q,r⟩:=bx.list s
   obtain⟨v,ev,rv⟩:=t9 r e
   exact .inl ⟨a,xs,i,v,rfl,rfl,.inl q,ev,k _ G H (Ext.refl s) rv⟩
  |_=>cases e
 |tuple ds=>
  cases dy with
  |int i=>
   obtain rfl:=by'.int
   obtain⟨a,xs,rfl,q,r⟩:=bx.tuple s
   obtain⟨v,ev,rv⟩:=t9 r e
   exact .inr (.inl ⟨a,xs,i,v,rfl,rfl,q,ev,k _ G H (Ext.refl s) rv⟩)
  |_=>cases e
 |str z=>
  cases dy with
  |int i=>
   obtain rfl:=by'.int
   obtain rfl:=bx.str
   simp only[aV] at e
   split at e
   ·rename_i hz
    cases q:lG z.cps.toList i with
    |none=>rw[q] at e;cases e
    |some c=>rw[q] at e;cases e;exact .inr (.inr ⟨z,i,c,rfl,rfl,hz,q,k _ G H (Ext.refl s) (.str _)⟩)
   ·cases e
  |_=>cases e
 |none=>cases dy <;> cases e
 |bool b=>cases dy <;> cases e
 |int b=>cases dy <;> cases e
 |dict b=>
  obtain⟨ds,i,rfl,rfl,e⟩:∃ds i,b= [(.none,.list ds)]/\dy=.int i/\lG ds i=some d:=by
   unfold aV at e
   split at e
   ·contradiction
   ·contradiction
   ·contradiction
   ·rename_i h;cases h;exact⟨_,_,rfl,rfl,e⟩
   ·cases e
  obtain rfl:=by'.int
  obtain⟨a,xs,rfl,q,r⟩:=bx.scr s
  obtain⟨v,ev,rv⟩:=t9 r e
  exact .inl ⟨a,xs,i,v,rfl,rfl,q,ev,k _ G H (Ext.refl s) rv⟩
def bX:D->Option D
 | .list ds=>some (.int ds.length)
 | .tuple ds=>some (.int ds.length)
 | .str z=>if z.length<=sizeLine then some (.int z.length) else none
 | .dict [(.none,.list ds)]=>some (.int ds.length)
 |_=>none
def Ms (K:Frag):List V->Hp->VK->Prop:=λxs H Q=>∃x n,xs= [x]/\Ky K x H n/\Q (.int n) H
def dB:B6 K (λx=>Ms K [x]) bX .v:=by
 intro B G H x dx d Q s hB bx e k
 unfold bX at e
 split at e
 ·cases e;obtain⟨a,xs,rfl,q,r⟩:=bx.list s;exact⟨_,_,rfl,.inl ⟨xs,.inl q,r.len.symm⟩,k _ G H (Ext.refl s) (.int _)⟩
 ·cases e;obtain⟨a,xs,rfl,q,r⟩:=bx.tuple s;exact⟨_,_,rfl,.inr ⟨xs,q,r.len.symm⟩,k _ G H (Ext.refl s) (.int _)⟩
 ·obtain rfl:=bx.str
  split at e
  ·rename_i hz;cases e;exact⟨_,_,rfl,⟨hz,rfl⟩,k _ G H (Ext.refl s) (.int _)⟩
  ·cases e
 ·cases e;obtain⟨a,xs,rfl,q,r⟩:=bx.scr s;exact⟨_,_,rfl,.inl ⟨xs,q,r.len.symm⟩,k _ G H (Ext.refl s) (.int _)⟩
 ·cases e
def m9:D->Option D
 | .list ds=>some (.tuple ds)
 | .tuple ds=>some (.tuple ds)
 |_=>none
theorem mF:B6 K (λx H Q=>∃p ys,[x]= [.ref p]/\((iM K H p ys/\∀l,H l=none->Q (.ref l) (upd H l (.tup ys)))\/(gB K H p ys/\Q (.ref p) H))) m9 .v:=by
 intro B G H x dx d Q s hB bx e k
 cases dx with
 |list ds=>
  cases e
  obtain⟨a,xs,rfl,q,r⟩:=bx.list s
  refine⟨a,xs,rfl,.inl ⟨.inl q,λl hl=>?_⟩⟩
  have x:=Ext.new s (o:=.tup xs) hl
  exact k _ _ _ x (.tup (.inl (.inl aC)) (r.mono x.gg))
 |tuple ds=>
  cases e
  rcases bx with bx | ⟨_,_,_,z⟩
  ·cases bx with
   | @tup a xs _ hq r=>exact⟨a,xs,rfl,.inr ⟨hq.grow s.grow,k _ G H (Ext.refl s) (.tup hq r)⟩⟩
  ·exact z.elim
 |_=>cases e
def FJ:D->Option D
 | .list ds=>some (.list ds)
 | .tuple ds=>some (.list ds)
 |_=>none
def GZ:B6 K (λx H Q=>∃p ys,[x]= [.ref p]/\(iM K H p ys\/gB K H p ys)/\∀l,H l=none->Q (.ref l) (upd H l (.lst ys))) FJ .w:=by
 intro B G H x dx d Q s hB bx e k
 obtain⟨ds,e1,rfl⟩:∃ds,pN dx=some ds/\d=.list ds:=by
  cases dx <;> cases e <;> exact⟨_,rfl,rfl⟩
 obtain⟨a,xs,rfl,hq,r⟩:=bx.seq e1 s
 refine⟨a,xs,rfl,hq,λl hl=>?_⟩
 exact k _ _ _ (Ext.own s (o:=.lst xs) hl) ⟨l,rfl,hl,s.free hl,xs,aC,r⟩
def lV:List D->Option (List Bool)
 | []=>some []
 | .bool b :: ds=>(lV ds).map (b :: ·)
 |_=>none
theorem tJ {G:Hp}:∀{ds:List D} {bs:List Bool} {xs:List V},lV ds=some bs->cF K G xs ds->xs=bs.map V.bl
 | [],bs,xs,e,r=>by cases e;cases r;rfl
 | .bool b :: ds,bs,xs,e,r=>by
  cases r with
  |cons r1 r2=>
   cases r1
   simp only[lV] at e
   cases q:lV ds with
   |none=>rw[q] at e;cases e
   |some cs=>rw[q] at e;cases e;rw[tJ q r2];rfl
 | .none :: _,_,_,e,_=>by cases e
 | .int _ :: _,_,_,e,_=>by cases e
 | .str _ :: _,_,_,e,_=>by cases e
 | .list _ :: _,_,_,e,_=>by cases e
 | .tuple _ :: _,_,_,e,_=>by cases e
 | .dict _ :: _,_,_,e,_=>by cases e
def bo (f:List Bool->Bool):D->Option D
 | .list ds=>(lV ds).map λbs=>.bool (f bs)
 |_=>none
theorem dW {f:List Bool->Bool}:B6 K (λx=>yq K f [x]) (bo f) .v:=by
 intro B G H x dx d Q s hB bx e k
 cases dx with
 |list ds=>
  simp only[bo] at e
  cases q:lV ds with
  |none=>rw[q] at e;cases e
  |some bs=>
   rw[q] at e
   cases e
   obtain⟨a,xs,rfl,hq,r⟩:=bx.list s
   obtain rfl:=tJ q r
   exact⟨a,bs,rfl,.inl hq,k _ G H (Ext.refl s) (.bl _)⟩
 |_=>cases e
def Gi:R2:=λx y H Q=>∃l b xs zs,x=.ref l/\y=.ref b/\Rd H l (.lst xs)/\Rd H b (.lst zs)/\xs.length + zs.length<=sizeLine/\∀p,H p=none->Q (.ref p) (upd H p (.lst (xs ++ zs)))
def gr:kG X (binaryOp .Add) Gi:=by
 intro pins s σ H x y v u Q I rx ry h
 obtain⟨l,b,xs,zs,rfl,rfl,hH,hB,hz,q⟩:=h
 cases rx
 cases ry
 obtain⟨z,its,n,r,hl,e⟩:=I.lstR hH
 obtain⟨z2,its2,n2,r2,hl2,e2⟩:=I.lstR hB
 refine PySem.P.add_list e e2 ?_ (by rw[Nt,Nt];omega)
 have ea:its.toArray ++ its2.toArray=(its ++ its2).toArray:=by simp
 rw[ea]
 exact⟨.ref _,_,I.lnew (t':=s.toks) (r.append r2) (by rw[NF];omega),rfl,q _ I.fresh⟩
def ic:D->D->Option D
 | .list a,.list b=>if a.length + b.length<=sizeLine then some (.list (a ++ b)) else none
 |_,_=>none
def lI:nt K Gi ic .w:=by
 intro B G H x y dx dy d Q s hB bx by' e k
 cases dx <;> cases dy <;> first | (cases e;done) |skip
 rename_i a b
 simp only[ic] at e
 split at e
 ·rename_i hz
  cases e
  obtain⟨p,xs,rfl,q1,r1⟩:=bx.list s
  obtain⟨p2,ys,rfl,q2,r2⟩:=by'.list s
  refine⟨p,p2,xs,ys,rfl,rfl,q1,q2,by rw[r1.len,r2.len];exact hz,λl hl=>?_⟩
  exact k _ _ _ (Ext.own s (o:=.lst (xs ++ ys)) hl) ⟨l,rfl,hl,s.free hl,_,aC,r1.append r2⟩
 ·cases e
def bZ:D->D->Option D:=EI λi j=>.int (i + j)
def fO:nt K (vE λi j=>.int (i + j)) bZ .v:=qr λdx dy d h=>by obtain⟨i,j,rfl,rfl,rfl⟩:=nk h;exact⟨i,j,rfl,rfl,λ_=>.int _⟩
def dD:D->D->Option D:=gI (λi j=>(decide (-(2 ^ 64) < i) && decide (i < 2 ^ 64)) || (decide (-(2 ^ 64) < j) && decide (j < 2 ^ 64))) λi j=>.int (i * j)
def ny:nt K (rI C7 λi j=>.int (i * j)) dD .v:=zT λdx dy d h=>by obtain⟨i,j,rfl,rfl,c,rfl⟩:=zP h;exact⟨i,j,rfl,rfl,by simpa[C7] using c,λ_=>.int _⟩
def qP:D->D->Option D
 | .list a,.int k=>if -(2 ^ 63)<=k/\k < 2 ^ 63/\a.length * k.toNat<=sizeLine then some (.list (List.replicate k.toNat a).flatten) else none
 |_,_=>none
def yb {a b:Expr}{fa fb:VF D}{La Lb:List Nat}{mb:Md}{Γ:Fx}{E:XK}{pos:Pos}(ha:SE X Γ E a fa La .w)(hb:SE X Γ E b fb Lb mb):SE X Γ E (.BinOp a .Mult b pos) (f2 fa fb qP) (La ++ Lb) .w:=by
 refine PE.post' (tK Df ha hb) λσ H Q ⟨env,G,B,β,I,o⟩=>?_
 refine⟨env,G,B,β,I,o.bnd.imp λd1 β1 h x G1 H1 I1 s1 m1 vx=>⟨aY La env,G1,B,β1,I1,?_⟩⟩
 rw[e8]
 refine h.bnd.imp λd2 β2 h y G2 H2 I2 s2 m2 vy=>?_
 obtain⟨d,e,k⟩:=h.of
 rw[<-cH] at I2
 obtain⟨p,rfl,p1,p2,p3⟩:=vx
 have by':=vy.brw I1.boxThere
 cases d1 <;> cases d2 <;> first | (cases e;done) |skip
 rename_i l j
 obtain rfl:=by'.int
 simp only[qP] at e
 split at e
 ·rename_i hz
  cases e
  obtain⟨xs,q,r⟩:=p3
  obtain⟨q1,q2,q3,q4⟩:=I.fresh p1
  have r2:=r.mono s2
  refine⟨p,j,xs,rfl,rfl,m2.1 _ _ q q3,hz.1,hz.2.1,by rw[r.len];exact hz.2.2,λl hl=>?_⟩
  have x:=Ext.own I2.sub (o:=.lst (List.replicate j.toNat xs).flatten) hl
  exact k _ _ _ (I2.ext x) ((s1.trans s2).trans x.gg) ((m1.trans m2).trans (x.hh.mov B)) ⟨l,rfl,fT (m1.trans m2) I2.boxThere hl,I2.sub.free hl,_,aC,r2.rep⟩
 ·cases e
def pz:D->Option D
 | .int i=>some (.int (-i))
 |_=>none
theorem BS:B6 K (rU λi=>.int (-i)) pz .v:=by
 intro B G H x dx d Q s hB bx e k
 cases dx with
 |int i=>cases e;obtain rfl:=bx.int;exact⟨i,rfl,k _ G H (Ext.refl s) (.int _)⟩
 |_=>cases e
def JU:D->String
 | .none=>"NoneType"
 | .bool _=>"bool"
 | .int _=>"int"
 | .str _=>"str"
 | .list _=>"list"
 | .tuple _=>"tuple"
 | .dict _=>"dict"
def Cb (d:D)(T:String):Bool:=JU d == T || (T == "int" && JU d == "bool")
def fu:D->Bool
 | .dict ((.none,_) :: _)=>true
 |_=>false
def gj (T:String)(d:D):Option D:=if fu d=true then none else some (.bool (Cb d T))
def My (K:Frag)(H:Hp)(x:V)(t:String):Prop:=Fb K H x t\/(t="dict"/\∃a kvs,x=.ref a/\H a=some (.dT kvs))
def J4 (K:Frag):List V->Hp->VK->Prop:=λxs H Q=>∃x T t b,xs= [x,.ty T]/\My K H x t/\PySem.W.kitOne K (.type t) (.type T)=some b/\Q (.bl b) H
def CP:iJ X (.builtin "isinstance") (J4 X.K):=by
 intro pins s σ H xs us Q I r h
 obtain⟨x,T,t,b,rfl,ty,e,q⟩:=h
 rcases ty with ty | ⟨rfl,a,kvs,rfl,hk⟩
 ·exact C9 pins s σ H _ us Q I r ⟨x,T,t,b,rfl,ty,e,q⟩
 ·obtain⟨u,c,rfl,rx,rc⟩:=vals2 r
  cases rc
  cases rx
  obtain⟨_,_,_,_,o,_,_,e2,ex,_⟩:=I.hok a _ hk
  exact N4 PySem.W.kitx_dict I.kIn ⟨o,e2,ex.1⟩ e (λz=>nomatch z) λtk=>⟨.bl b,H,I.tok tk,rfl,q⟩
theorem mw.ty {B:Option Addr}{G H:Hp}{v:V}{d:D}(h:mw K B G H v d)(s:ax G H)(n:fu d=false):My K H v (JU d):=by
 cases d with
 |none=>obtain rfl:=h.none;exact .inl .non
 |bool b=>obtain rfl:=h.bool;exact .inl (.bl b)
 |int b=>obtain rfl:=h.int;exact .inl (.int b)
 |str b=>obtain rfl:=h.str;exact .inl (.str b)
 |list b=>obtain⟨a,xs,rfl,q,_⟩:=h.list s;exact .inl (.lst (.inl q))
 |tuple b=>obtain⟨a,xs,rfl,q,_⟩:=h.tuple s;exact .inl (.tup q)
 |dict b=>
  rcases h with h | ⟨a,rfl,_,h⟩
  ·cases h with
   |scr _=>cases n
   |dK q _=>exact .inl (.dic (s _ _ q))
   |dT q _=>exact .inr ⟨rfl,_,_,rfl,s _ _ q⟩
  ·rcases h with⟨_,q,_⟩ | ⟨_,q,_⟩
   ·exact .inl (.dic q)
   ·exact .inr ⟨rfl,_,_,rfl,q⟩
theorem KG {d:D}{T:String}(hT:T∈ ["int","bool","str","list","tuple","dict"]):PySem.W.kitOne K (.type (JU d)) (.type T)=some (Cb d T):=by
 simp only[Nh,NW,OD] at hT
 cases d with
 |dict l=>rcases hT with rfl |rfl |rfl |rfl |rfl |rfl <;> rfl
 |none=>rcases hT with rfl |rfl |rfl |rfl |rfl |rfl <;> rfl
 |bool _=>rcases hT with rfl |rfl |rfl |rfl |rfl |rfl <;> rfl
 |int _=>rcases hT with rfl |rfl |rfl |rfl |rfl |rfl <;> rfl
 |str _=>rcases hT with rfl |rfl |rfl |rfl |rfl |rfl <;> rfl
 |list _=>rcases hT with rfl |rfl |rfl |rfl |rfl |rfl <;> rfl
 |tuple _=>rcases hT with rfl |rfl |rfl |rfl |rfl |rfl <;> rfl
def gn {a:Expr}{fa:VF D}{La:List Nat}{ma:Md}{Γ:Fx}{E:XK}{pos p p2:Pos}(T:String){y:Str}(hT:T∈ ["int","bool","str","list","tuple","dict"])(hK:X.K=Γ.K)(hg:Gl X "isinstance")(hm:X.mg "isinstance"=none)(hgT:Gl X y)(hmT:X.mg y=none)(hvT:bootBuiltins y=some (.type T))(ha:SE X Γ E a fa La ma)
  (hnT:y≠"__name__":=by decide) (hdT:(y == ("__debug__":Str))=false:=by decide)
  (he:starEach [a,.Name y p2] X.env=(false,eval a X.env) :: starEach [.Name y p2] X.env:=by rfl) (he2:starEach [.Name y p2] X.env=(false,eval (.Name y p2) X.env) :: starEach [] X.env:=by rfl) (hpl:(backTo pos (starEach [.Name y p2] X.env)).any (·.1)=false:=by rfl) :
  SE X Γ E (.Call (.Name "isinstance" p) [a,.Name y p2] [] pos) (f1 fa (gj T)) La .v:=by
 refine PE.post' (qZ CP hg hm (by decide +kernel) (bc ha (bc (E7 hgT hmT hvT (show RelV (.ty T) _ from rfl) hnT hdT) cp he2) he) (by decide) (by decide) he hpl) λσ H Q ⟨env,G,B,β,I,o⟩=>?_
 refine lb (r:=λx H1 Q=>J4 X.K [x,.ty T] H1 Q) ?_ I o
 intro B G H x dx d Q s hB bx e k
 unfold gj at e
 split at e
 ·cases e
 ·rename_i hn
  cases e
  rw[hK]
  exact⟨x,T,JU dx,Cb dx T,rfl,bx.ty s (by simpa using hn),KG hT,k _ G H (Ext.refl s) (.bl _)⟩
def gx (fa fb fc:VF D)(g g':D->D->Option D):VF D:=λvs β=>(fa vs β).bnd λx β1=>(fb vs β1).bnd λy β2=>match g x y with
 |some (.bool true)=>(fc vs β2).bnd λz β3=>R.of (g' y z) β3
 |some (.bool false)=>.ok (.bool false) β2
 |_=>.bad
theorem qf {a b c:Expr}{fa fb fc:VF D}{ma mb mc:Md}{Γ:Fx}{E:XK}{pos:Pos}{op op':CmpOp}{r r':R2}{g g':D->D->Option D}(ho:kG X (compareOp op) r)(ho':kG X (compareOp op') r')(pr:nt Γ.K r g .v)(pr':nt Γ.K r' g' .v)(ha:SE X Γ E a fa [] ma)(hb:SE X Γ E b fb [] mb)(hc:SE X Γ E c fc [] mc)
  (hm:lastMarks [op,op'] [b,c]=false:=by with_unfolding_all rfl):SE X Γ E (.Compare a [op,op'] [b,c] pos) (gx fa fb fc g g') [] .v:=by
 refine PE.post' (Du ho ho' ha hb hc hm) λσ H Q ⟨env,G,B,β,I,o⟩=>?_
 refine two (W:=λx y H2=>r x y H2 λz H3=>∃k,z=.bl k/\(if k=true then pT Γ E fc [] mc σ H3 λw' H4=>r' y w' H4 Q else Q (.bl false) H3)) I (o.bnd.imp λd1 β1 h=>h.bnd.imp λd2 β2 h x y G2 H2 I2 s2 m2 bx by'=>?_)
 obtain⟨cb,ec,h⟩:∃cb,g d1 d2=some (.bool cb)/\Out Γ E (if cb=true then (fc (vl env) β2).bnd λz β3=>R.of (g' d2 z) β3 else .ok (.bool false) β2) λd β'=>∀v G' H',SR Γ B G' H' σ (aY [] env) β'->ax G G'->iG B H H'->VO Γ.K B H G' H' .v d v->Q v H':=by
  split at h
  ·rename_i q;exact⟨true,q,by rw[Nc rfl];exact h⟩
  ·rename_i q;exact⟨false,q,by rw[Nk Nj];exact h⟩
  ·exact h.elim
 refine pr B G2 H2 x y d1 d2 _ _ I2.sub I2.boxThere bx by' ec λv G' H' x' vo=>?_
 cases vo
 refine⟨cb,rfl,?_⟩
 have I3:=I2.ext x'
 cases cb with
 |false=>rw[Nk Nj] at h;exact rF (h _ G' H' I3 (s2.trans x'.gg) (m2.trans (x'.mov B)) (.bl false))
 |true=>
  rw[Nc rfl] at h
  refine rj ⟨env,G',B,β2,I3,h.bnd.imp λd3 β3 h z G4 H4 I4 s4 m4 vz=>?_⟩
  obtain⟨d,e,k⟩:=h.of
  refine pr' B G4 H4 y z d2 d3 d Q I4.sub I4.boxThere (by'.mono (x'.gg.trans s4) ((x'.mov B).trans m4)) (vz.brw I3.boxThere) e λv G5 H5 x5 vo=>?_
  exact k v G5 H5 (I4.ext x5) (((s2.trans x'.gg).trans s4).trans x5.gg) (((m2.trans (x'.mov B)).trans m4).trans (x5.mov B)) vo
end
def dJ.u1 {k:Nat}{A:Around}(r:dJ k A):A.units + 100 < cLine:=by have:=r.un;omega
def MA (N:List Str)(sc:Scope)(NB:List Str)(own:Nat)(ixs:List Nat)(scope:Scope):Bool:=
 decide (scope.kind=.function) && (scope.names.all λy=>decide (scope.names.lookup y.1=some y.2)) &&
 (scope.names.all λy=>decide (y.2=.free->(sc.names.lookup y.1=some .cell\/sc.names.lookup y.1=some .free))) && decide NB.Nodup && decide (NB.length=own + ixs.length) &&
 ((List.range ixs.length).all λk=>decide (NB[own + k]? =N[ixs.getD k 0]?) && (match NB[own + k]? with |some x=>decide ((x,NameKind.free)∈scope.names) |none=>true))
def bI {X:Cx}{NB:List Str}{own:Nat}{ixs:List Nat}{scope:Scope}(h:MA X.N X.env.scope NB own ixs scope=true):cf X NB own ixs scope:=by
 unfold MA at h
 simp only[Ny,NQ,NC,NR] at h
 obtain⟨⟨⟨⟨⟨h1,h3⟩,h4⟩,h5⟩,h6⟩,h7⟩:=h
 refine⟨h1,h3,h4,h5,h6,λk hk=>⟨(h7 k hk).1,λx hx=>?_⟩⟩
 have:=(h7 k hk).2
 rw[hx] at this
 simpa using this
section
variable {X:Cx}{Γ:Fx}{E:XK}{e a b c:Expr}{f fa fb fc:VF D}{L La Lb:List Nat}{md ma mb mc:Md}{pos:Pos}{K:Frag}
theorem wX {op op':CmpOp}{r r':R2}{g g':D->D->Option D}(ho:kG X (compareOp op) r)(ho':kG X (compareOp op') r')(pr:nt Γ.K r g .v)(pr':nt Γ.K r' g' .v)(ha:SE X Γ E a fa [] ma)(hb:SE X Γ E b fb [] mb)(hc:SE X Γ E c fc [] mc)
  (hm:lastMarks [op,op'] [b,c]=false:=by with_unfolding_all rfl):xU X Γ E (.Compare a [op,op'] [b,c] pos) (cz (gx fa fb fc g g')) []:=by
 refine PT.post (Cq ho ho' ha hb hc hm) λσ H Q ⟨env,G,B,β,I,o⟩=>?_
 refine two (W:=λx y H2=>r x y H2 λz H3=>∃k,z=.bl k/\(if k=true then pT Γ E fc [] mc σ H3 λw' H4=>r' y w' H4 (λx H'=>∃k,x=.bl k/\Q k H') else ∃k,V.bl false=.bl k/\Q k H3)) I (o.bnd.bnd.imp λd1 β1 h=>h.bnd.imp λd2 β2 h x y G2 H2 I2 s2 m2 bx by'=>?_)
 obtain⟨cb,ec,h⟩:∃cb,g d1 d2=some (.bool cb)/\Out Γ E (if cb=true then (fc (vl env) β2).bnd λz β3=>R.of (g' d2 z) β3 else .ok (.bool false) β2) λd β'=>Out Γ E (match d with | .bool c=>R.ok c β' |_=>.bad) λc β'=>∀G' H',SR Γ B G' H' σ (aY [] env) β'->ax G G'->iG B H H'->Q c H':=by
  split at h
  ·rename_i q;exact⟨true,q,by rw[Nc rfl];exact h⟩
  ·rename_i q;exact⟨false,q,by rw[Nk Nj];exact h⟩
  ·exact h.elim
 refine pr B G2 H2 x y d1 d2 _ _ I2.sub I2.boxThere bx by' ec λv G' H' x' vo=>?_
 cases vo
 refine⟨cb,rfl,?_⟩
 have I3:=I2.ext x'
 cases cb with
 |false=>rw[Nk Nj] at h;exact rF ⟨false,rfl,h G' H' I3 (s2.trans x'.gg) (m2.trans (x'.mov B))⟩
 |true=>
  rw[Nc rfl] at h
  refine rj ⟨env,G',B,β2,I3,h.bnd.imp λd3 β3 h z G4 H4 I4 s4 m4 vz=>?_⟩
  obtain⟨d,e,k⟩:=h.of
  refine pr' B G4 H4 y z d2 d3 d _ I4.sub I4.boxThere (by'.mono (x'.gg.trans s4) ((x'.mov B).trans m4)) (vz.brw I3.boxThere) e λv G5 H5 x5 vo=>?_
  cases d with
  |bool c=>cases vo;exact⟨c,rfl,k G5 H5 (I4.ext x5) (((s2.trans x'.gg).trans s4).trans x5.gg) (((m2.trans (x'.mov B)).trans m4).trans (x5.mov B))⟩
  |_=>exact k.elim
theorem Hh {B:Option Addr}{G H:Hp}{x:V}{dx:D}(bx:mw K B G H x dx)(s:ax G H):decide (x=.non)=rD dx:=by
 cases dx with
 |none=>obtain rfl:=bx.none;rfl
 |bool b=>obtain rfl:=bx.bool;rfl
 |int b=>obtain rfl:=bx.int;rfl
 |str b=>obtain rfl:=bx.str;rfl
 |list b=>obtain⟨a,xs,rfl,_⟩:=bx.list s;rfl
 |tuple b=>obtain⟨a,xs,rfl,_⟩:=bx.tuple s;rfl
 |dict b=>
  rcases bx with bx | ⟨a,rfl,_⟩
  ·cases bx <;> rfl
  ·rfl
def tN (fa:VF D)(neg:Bool):VF Bool:=λvs β=>(fa vs β).bnd λx β1=>.ok (if neg then !rD x else rD x) β1
def Fv {j pos'}(ha:SE X Γ E a fa La ma):xU X Γ E (.Compare a [.IsNot] [.Constant .none j pos'] pos) (tN fa true) La:=by
 refine PT.post (G7 (Fi ha)) λσ H Q ⟨env,G,B,β,I,o⟩=>?_
 refine⟨env,G,B,β,I,o.bnd.imp λd1 β1 h x G1 H1 I1 s1 m1 vx=>?_⟩
 refine⟨!rD d1,?_,h G1 H1 I1 s1 m1⟩
 rw[Hh (vx.brw I.boxThere) I1.sub]
def oT (Γ:Fx)(E:XK)(f:VF (Option Int))(L:List Nat):TO:=λσ H Q=>∃env G B β,SR Γ B G H σ env β/\
 Out Γ E (f (vl env) β) λd β'=>∀G' H',SR Γ B G' H' σ (aY L env) β'->ax G G'->iG B H H'->Q d H'
def KW (X:Cx)(Γ:Fx)(E:XK)(e:Option Expr)(f:VF (Option Int))(L:List Nat):Prop:=PO X e (oT Γ E f L)
def me:KW X Γ E none (λ_ β=>.ok none β) []:=λpins s σ H Q I ⟨env,G,B,β,J,o⟩=>El pins s σ H Q I (o G H J (ax.refl _) (iG.refl _ _))
def wV (fa:VF D):VF (Option Int):=λvs β=>(fa vs β).bnd λx β1=>match x with
 | .int i=>.ok (some i) β1
 |_=>.bad
theorem mD (ha:SE X Γ E a fa La ma):KW X Γ E (some a) (wV fa) La:=λpins s σ H Q I ⟨env,G,B,β,J,o⟩=>by
 refine DH ha pins s σ H Q I ⟨env,G,B,β,J,o.bnd.imp λd1 β1 h x G1 H1 I1 s1 m1 vx=>?_⟩
 cases d1 with
 |int i=>exact⟨i,(vx.brw J.boxThere).int,h G1 H1 I1 s1 m1⟩
 |_=>exact h.elim
def cutD (xs:List D)(lo hi:Option Int):List D:=(xs.drop (HT.sW xs.length 0 lo)).take (HT.sW xs.length xs.length hi - HT.sW xs.length 0 lo)
def Et {G:Hp}{xs:List V}{ds:List D}(r:cF K G xs ds)(lo hi:Option Int):cF K G (xV xs lo hi) (cutD ds lo hi):=by
 unfold xV cutD
 rw[r.len]
 exact (r.drop _).take _
def vI (fa:VF D)(fl fh:VF (Option Int)):VF D:=λvs β=>(fa vs β).bnd λx β1=>(fl vs β1).bnd λl β2=>(fh vs β2).bnd λh β3=>match x with
 | .list ds=>.ok (.list (cutD ds l h)) β3
 |_=>.bad
theorem kq {lo hi:Option Expr}{fl fh:VF (Option Int)}{Ll Lh:List Nat}{p2:Pos}(hK:X.K=Γ.K)(ha:SE X Γ E a fa La ma)(hl:KW X Γ E lo fl Ll)(hh:KW X Γ E hi fh Lh):SE X Γ E (.Subscript a (.Slice lo hi none p2) pos) (vI fa fl fh) (La ++ Ll ++ Lh) .w:=by
 refine PE.post' (C2 DW ha hl hh) λσ H Q ⟨env,G,B,β,I,o⟩=>?_
 refine⟨env,G,B,β,I,o.bnd.imp λd1 β1 h x G1 H1 I1 s1 m1 vx=>⟨aY La env,G1,B,β1,I1,?_⟩⟩
 rw[e8]
 refine h.bnd.imp λl β2 h G2 H2 I2 s2 m2=>⟨aY Ll (aY La env),G2,B,β2,I2,?_⟩
 rw[e8,e8]
 refine h.bnd.imp λu β3 h G3 H3 I3 s3 m3=>?_
 rw[<-cH,<-cH,<-OG] at I3
 have bx:=((vx.brw I.boxThere).mono s2 m2).mono s3 m3
 cases d1 with
 |list ds=>
  obtain⟨p,xs,rfl,hq,r⟩:=bx.list I3.sub
  rw[hK]
  refine⟨p,xs,rfl,.inl hq,λq hn=>?_⟩
  have x:=Ext.own I3.sub (o:=.lst (xV xs l u)) hn
  exact h _ _ _ (I3.ext x) ((s1.trans s2).trans s3) (((m1.trans m2).trans m3).trans (x.mov B)) ⟨q,rfl,fT ((m1.trans m2).trans m3) I3.boxThere hn,I3.sub.free hn,_,aC,Et r l u⟩
 |_=>exact h.elim
end
structure gA (K:Frag)(mg:Str->Option Value)(x:Str)(st:Stmt)(ps:List Str)(f:Addr)(fd:FuncData):Prop where
 mg:mg x=some (.ref f)
 F:Bd K x x st f fd
 b:Binds K fd ps []
structure Exc (K:Frag)(mg:Str->Option Value)(ca:Str->Addr)(x:Str):Prop where
 mg:mg x=some (.ref (ca x))
 ex:PySem.W.excIn K (ca x) [.type "ValueError",.type "Exception",.type "BaseException",.type "object"] "ValueError.__new__"=true
def Exc.ca {K:Frag}{mg:Str->Option Value}{ca:Str->Addr}{x:Str}(h:Exc K mg ca x):ca x=ca x:=rfl
structure iq (mg:Str->Option Value):Prop where
 len:mg "len"=none
 range:mg "range"=none
 enumerate:mg "enumerate"=none
 zip:mg "zip"=none
 min:mg "min"=none
 max:mg "max"=none
 sum:mg "sum"=none
 abs:mg "abs"=none
 sorted:mg "sorted"=none
 reversed:mg "reversed"=none
 int:mg "int"=none
 str:mg "str"=none
 bool:mg "bool"=none
 list:mg "list"=none
 tuple:mg "tuple"=none
 dict:mg "dict"=none
 set:mg "set"=none
 isinstance:mg "isinstance"=none
 repr:mg "repr"=none
 any:mg "any"=none
 all:mg "all"=none
 divmod:mg "divmod"=none
inductive FB where
 |ok (d:D) (fresh:Bool) (β:Int)
 |bad
def Bj (K:Frag)(n:Nat)(F:List D->Int->FB):Sp:=λvs H Q _=>∃b rest G ds β,vs=.ref b :: rest/\H b=some (.lst [.int β])/\G b=none/\ax G H/\ds.length=n/\cF K G rest ds/\match F ds β with
 | .ok d fr β'=>∀v G' H',iG (some b) H H'->H' b=some (.lst [.int β'])->ax G G'->ax G' H'->(∀c,Mx H c->G c=none->G' c=none)->FV K H G' H' fr d v->Q v H'
 | .bad=>False
structure pH (P:Program)(w:World)(K:Frag)(mg:Str->Option Value)(base:Heap)(x:Str)(ps:List Str)(k:Nat)(F:List D->Int->FB):Prop where
 ex:∃f fd,mg x=some (.ref f)/\PySem.W.keepIn K (.ref f)=true/\Binds K fd ps []/\fq P w K mg base (nE P w) k f fd ps (Bj K (ps.length - 1) F)
 len:∀ds β,F ds β≠.bad->ds.length=ps.length - 1
def xQ (vs:List Nv)(i:Nat):Bool:=match vs[i]? with
 |some .bx=>true
 |_=>false
def ox (i:Nat)(F:List D->Int->FB)(fr:VF (List D)):VF D:=λvs β=>if xQ vs i=true then (fr vs β).bnd λds β1=>match F ds β1 with
 | .ok d _ β2=>.ok d β2
 | .bad=>.bad else .bad
def Lz (i:Nat)(F:List D->Int->FB)(fr:VF (List D)):VF D:=λvs β=>if xQ vs i=true then (fr vs β).bnd λds β1=>match F ds β1 with
 | .ok d true β2=>.ok d β2
 |_=>.bad else .bad
section
variable {X:Cx}{Γ:Fx}{E:XK}{e a b c:Expr}{f fa fb fc:VF D}{L La Lb:List Nat}{md ma mb mc:Md}{pos:Pos}{K:Frag}{es:List Expr}{fr:VF (List D)}
def DX {env:En}{i:Nat}(h:xQ (vl env) i=true):env[i]? =some .bx:=by
 unfold xQ at h
 split at h
 ·exact KD (by assumption)
 ·cases h
def Fu {env:En}{i j:Nat}{d:D}(h:(ij env i)[j]? =some (.br d)):env[j]? =some (.br d):=by
 unfold ij at h
 split at h
 ·rename_i d' e
  by_cases z:i=j
  ·subst z
   rw[ND (Ng.mp e).1] at h;cases h
  ·rw[NA z] at h;exact h
 ·exact h
theorem HI {L:List Nat}{env:En}{j:Nat}{d:D}(h:(aY L env)[j]? =some (.br d)):env[j]? =some (.br d):=by
 unfold aY at h
 induction L generalizing env with
 |nil=>exact h
 |cons i L ih=>exact Fu (ih h)
def SR.calledB {p:Addr}{β β':Int}{G1 H1 G2 H2:Hp}{σ:St}{env:En}(I1:SR Γ (some p) G1 H1 σ env β)(h:iG (some p) H1 H2)(hp:H2 p=some (.lst [.int β']))(g:ax G1 G2)(s:ax G2 H2)(n:∀b,Mx H1 b->G1 b=none->G2 b=none):SR Γ (some p) G2 H2 σ env β':=by
 obtain⟨b1,b2,b3⟩:=I1.box p rfl
 refine⟨s,I1.old.trans g,λb n1 n2=>n b (I1.thereM n1) (I1.new b n1 n2),λb o e np=>yg (I1.keep b o e np) h λz=>?_,λb hb=>?_,I1.fix,λb e=>?_,I1.len,λi t e=>?_,I1.sep⟩
 ·cases z
  rcases b3 with b3 |b3
  ·exact np b3
  ·rw[e] at b3;cases b3
 ·by_cases z:p=b
  ·subst z;exact Mx.lst hp
  ·exact (I1.pin b hb).same λo q=>h.1 b o q λy=>z (Option.some.inj y)
 ·cases e
  exact⟨hp,n p (Mx.lst b1) b2,b3⟩
 ·have q:=I1.slot i t e
  cases t with
  |no=>trivial
  |fz d=>obtain⟨v,h1,h2⟩:=q;exact⟨v,h1,h2.mono g⟩
  |ow d=>
   obtain⟨c,h1,h2,h3,h4,h5⟩:=q
   exact⟨c,h1,h2,n c h5.mx h3,h4,h5.mono g λo q=>h.1 c o q h4⟩
  |bx=>exact q
  |br d=>obtain⟨b1,c,h1,h4,hpp,h5⟩:=q;exact⟨b1,c,h1,h4,hpp,h5.mono g λo q=>h.1 c o q h4⟩
theorem Ex {F:List D->Int->FB}{ps:List Str}{Q:VK}{B:Option Addr}{G H:Hp}{σ:St}{env:En}{β:Int}{i:Nat}{p:Addr}(I:SR Γ B G H σ env β)(hK:X.K=Γ.K)(hp:B=some p){wv:Bool}
  (h:Out Γ E (fr (vl env) β) λds β1=>Out Γ E (match F ds β1 with
   | .ok d true β2=>.ok d β2
   | .ok d false β2=>if wv=true then .bad else .ok d β2
   | .bad=>.bad) λd β'=>∀v G' H',SR Γ B G' H' σ (aY L env) β'->ax G G'->iG B H H'->VO Γ.K B H G' H' (if wv=true then .w else .v) d v->Q v H') (hl:∀ds β,F ds β≠.bad->ds.length=ps.length - 1) :
  aT Γ E fr L σ H λvs H1=>Bj X.K (ps.length - 1) F (.ref p :: vs) H1 Q E:=by
 subst hp
 refine⟨env,G,_,β,I,h.imp λds β1 k vs G1 H1 I1 s1 m1 r=>?_⟩
 obtain⟨b1,b2,b3⟩:=I1.box p rfl
 refine⟨p,vs,G1,ds,β1,rfl,b1,b2,I1.sub,hl ds β1 λz=>by rw[z] at k;exact k,by rw[hK];exact r,?_⟩
 cases q:F ds β1 with
 |bad=>rw[q] at k;exact k
 |ok d fr' β2=>
  rw[q] at k
  intro v G' H' hh hb hg hs hn fv
  have I2:=I1.calledB hh hb hg hs hn
  cases fr' with
  |true=>
   obtain⟨c,rfl,p1,p2,p3⟩:∃a,v=.ref a/\H1 a=none/\G' a=none/\Own X.K G' H' a d:=fv
   rw[hK] at p3
   have hp:=fT m1 I1.boxThere p1
   cases wv with
   |true=>exact k _ G' H' I2 (s1.trans hg) (m1.trans hh) ⟨c,rfl,hp,p2,p3⟩
   |false=>
    obtain⟨q1,q2,q3,q4⟩:=I1.fresh p1
    obtain⟨G3,I3,s3,r3⟩:=I2.letIn q1 p2 q3 q4 p3
    exact k _ G3 H' I3 ((s1.trans hg).trans s3) (m1.trans hh) r3
  |false=>
   cases wv with
   |true=>exact k.elim
   |false=>
    have fv:Rp X.K G' v d:=fv
    rw[hK] at fv
    exact k _ G' H' I2 (s1.trans hg) (m1.trans hh) fv
theorem IH {F:List D->Int->FB}{ps:List Str}{Q:VK}{i:Nat}{σ:St}{H:Hp}(hK:X.K=Γ.K){wv:Bool}(hl:∀ds β,F ds β≠.bad->ds.length=ps.length - 1)(h:pT Γ E (if wv=true then Lz i F fr else ox i F fr) L (if wv=true then .w else .v) σ H Q) :
  D3 i σ H λx H1=>aT Γ E fr L σ H1 λvs H2=>Bj X.K (ps.length - 1) F (x :: vs) H2 Q E:=by
 obtain⟨env,G,B,β,I,o⟩:=h
 have hi:xQ (vl env) i=true:=by
  by_cases hi:xQ (vl env) i=true
  ·exact hi
  ·exfalso
   cases wv with
   |true=>simp only[Ol] at o;unfold Lz at o;rw[Nk hi] at o;exact o
   |false=>simp only[Oc,Ov] at o;unfold ox at o;rw[Nk hi] at o;exact o
 obtain⟨p,e1,e2⟩:=I.slot i _ (DX hi)
 refine⟨.ref p,e1,Ex (i:=i) (ps:=ps) I hK e2 (wv:=wv) ?_ hl⟩
 cases wv with
 |true=>
  simp only[Ol] at o ⊢
  unfold Lz at o
  rw[Nc hi] at o
  refine o.bnd.imp λds β1 h=>?_
  cases q:F ds β1 with
  |bad=>rw[q] at h;exact h
  |ok d b β2=>rw[q] at h;cases b <;> exact h
 |false=>
  simp only[Oc,Ov] at o ⊢
  unfold ox at o
  rw[Nc hi] at o
  refine o.bnd.imp λds β1 h=>?_
  cases q:F ds β1 with
  |bad=>rw[q] at h;exact h
  |ok d b β2=>rw[q] at h;cases b <;> exact h
def pk {x y:Str}{ps:List Str}{k:Nat}{F:List D->Int->FB}{p np:Pos}(i:Nat)(hf:pH X.prog X.w X.K X.mg X.base x ps k F)(hr:dJ k X.A)(hx:Passes (nE X.prog X.w) X E)(hK:X.K=Γ.K)(hg:Gl X x)(ha:SA X Γ E es fr L)(hN:X.N[i]? =some y:=by rfl)(hv:y7 X.env.scope y:=by first |exact Or.inl rfl |exact Or.inr (Or.inl rfl) |exact Or.inr (Or.inr rfl))(hd:(y == ("__debug__":Str))=false:=by decide)
  (hcd:(y == ("__classdict__":Str))=false:=by decide) (hdb:(x == ("__debug__":Str))=false:=by decide)
  (he:starEach (.Name y np :: es) X.env=(false,eval (.Name y np) X.env) :: starEach es X.env:=by rfl) (hpl:(backTo pos (starEach es X.env)).any (·.1)=false:=by rfl):SE X Γ E (.Call (.Name x p) (.Name y np :: es) [] pos) (ox i F fr) L .v:=by
 obtain⟨f,fd,hm,hk,hb,hF⟩:=hf.ex
 refine PE.post' (nK (dvs:=[]) hF hr hg hm hk hb .nil hx (bc (ki hN hv hd hcd) ha he) hdb he hpl) λσ H Q h=>?_
 have:=IH (Q:=Q) (wv:=false) (ps:=ps) hK hf.len (by simpa using h)
 show D3 i σ H λx H1=>aT Γ E fr L σ H1 λvs H2=>Bj X.K (ps.length - 1) F ((x :: vs) ++ []) H2 Q E
 simpa using this
def Cr:D->Option Int
 | .list [.int z]=>some z
 |_=>none
def E6 {d:D}{z:Int}(h:Cr d=some z):d=.list [.int z]:=by
 unfold Cr at h
 split at h
 ·cases h;rfl
 ·cases h
def M8 (f0:VF D)(F:List D->Int->FB)(n:Int):VF D:=λvs β=>(f0 vs β).bnd λd0 β1=>match Cr d0 with
 |some z=>(match F [.int n] z with
  | .ok d _ _=>.ok d β1
  | .bad=>.bad)
 |none=>.bad
def rP (env:En):En:=env.map λs=>match s with
 | .bx=>.no
 |s=>s
theorem B4 {env:En}{i:Nat}{s:Sl}(h:(rP env)[i]? =some s)(n:s≠.no):env[i]? =some s/\s≠.bx:=by
 unfold rP at h
 rw[Nm] at h
 cases e:env[i]? with
 |none=>rw[e] at h;cases h
 |some t=>
  rw[e] at h
  have h:=Option.some.inj h
  cases t with
  |bx=>exact absurd h.symm n
  |no=>exact absurd h.symm n
  |fz d=>subst h;exact⟨rfl,λz=>by cases z⟩
  |ow d=>subst h;exact⟨rfl,λz=>by cases z⟩
  |br d=>subst h;exact⟨rfl,λz=>by cases z⟩
def ze (i:Nat)(L:List Nat)(f:VF D):SF:=λenv β=>toS (f (vl env) β) λd _=>match Cr d with
 |some z=>.nx ((rP (aY L env)).set i .bx) z
 |none=>.bad
theorem Eh {i:Nat}{x:Str}{pos':Pos}(hbx:Γ.bx=none)(he:SE X Γ E e f L .w)(hN:X.N.Nodup)(hi:X.N[i]? =some x:=by rfl)(hx:Loc X.env.scope x:=by first |exact Or.inl rfl |exact Or.inr rfl)(hs:swapsWith e (some (.Name x pos')) pos.line X.env=pure false:=by rfl)(hf:X.fn x=true\/X.env.scope.names.lookup x=some .local:=by first |exact .inl rfl |exact .inr rfl |assumption) :
  SS X Γ E (.Assign [.Name x pos'] e pos) (ze i L f):=by
 refine PS.post (qd hN hi hx he hs hf) λN σ H ⟨env,G,B,β,I,o⟩=>?_
 refine⟨env,G,B,β,I,c8 o λd β' k v G' H' I' s' m' vo=>?_⟩
 cases q:Cr d with
 |none=>rw[q] at k;exact k.elim
 |some z=>
  rw[q] at k
  obtain rfl:=E6 q
  obtain⟨p,rfl,h1,h2,xs,h3,r⟩:=vo
  have hx2:H' p=some (.lst [.int z]):=by
   cases r with
   |cons r1 r2=>
    cases r1
    cases r2
    exact h3
  obtain⟨q1,q2,q3,q4⟩:=I.fresh h1
  refine k (some p) G' H' _ ⟨I'.sub,I'.old,I'.new,I'.keep,I'.pin,λb e=>(by rw[hbx] at e;cases e),λb e=>?_,?_,λj t e=>?_,λj j' c d1 d2 e1 e2 e3 e4=>?_⟩ s'
  ·cases e;exact⟨hx2,h2,.inr q1⟩
  ·rw[Oi,Oi];unfold rP;rw[Nb];exact I'.len
  ·by_cases hj:j=i
   ·subst hj
    by_cases hl:j < (rP (aY L env)).length
    ·rw[ND hl] at e
     cases e
     refine⟨p,?_,rfl⟩
     rw[ND]
     rw[I'.len];unfold rP at hl;simpa using hl
    ·rw[Oq (by rw[Oi];omega)] at e;cases e
   ·rw[NA (Ne.symm hj)] at e ⊢
    by_cases hn:t=.no
    ·subst hn;trivial
    ·obtain⟨e1,nb⟩:=B4 e hn
     have w:=I'.slot j t e1
     cases t with
     |no=>trivial
     |fz d=>exact w
     |bx=>exact absurd rfl nb
     |ow d=>
      obtain⟨a',g1,g2,g3,g4,g5⟩:=w
      exact⟨a',g1,g2,g3,λy=>q4 j d (qA e1) (by cases y;exact g1),g5⟩
     |br d=>
      obtain⟨b1,a',g1,g4,hpp,g5⟩:=w
      have e0:env[j]? =some (.br d):=HI e1
      obtain⟨_,a2,f1,_,_,f5⟩:=I.slot j _ e0
      rw[g1] at f1;cases f1
      obtain⟨o,ho⟩:=f5.obj
      exact⟨b1,a',g1,λy=>(by cases y;rw[h1] at ho;cases ho),hpp,g5⟩
  ·have back:∀{j:Nat} {d1:D},((rP (aY L env)).set i Sl.bx)[j]? =some (.ow d1)->j≠i/\(aY L env)[j]? =some (.ow d1):=λ{j d1} e=>by
    by_cases hj:j=i
    ·subst hj
     by_cases hl:j < (rP (aY L env)).length
     ·rw[ND hl] at e;cases e
     ·rw[Oq (by rw[Oi];omega)] at e;cases e
    ·rw[NA (Ne.symm hj)] at e
     exact⟨hj,(B4 e (λy=>by cases y)).1⟩
   obtain⟨n1,w1⟩:=back e1
   obtain⟨n2,w2⟩:=back e2
   rw[NA (Ne.symm n1)] at e3
   rw[NA (Ne.symm n2)] at e4
   exact I'.sep j j' c d1 d2 w1 w2 e3 e4
end
section
variable {P:Program}{w:World}{K:Frag}{mg:Str->Option Value}{base:Heap}{ca:Str->Addr}
def Eo:SO->FB
 | .nx _ β=>.ok .none false β
 | .rt d fr β=>.ok d fr β
 |_=>.bad
def xp (n:Nat)(ds:List D):En:=.bx :: ds.map Sl.fz ++ List.replicate (n - 1 - ds.length) .no
def vQ (n p:Nat)(m:SF):List D->Int->FB:=λds β=>if ds.length=p then Eo (m (xp n ds) β) else .bad
abbrev Fx.fb (K:Frag)(H G:Hp)(ca:Str->Addr)(b:Addr):Fx:=⟨K,H,G,[b],ca,λ_=>false,some b⟩
def SR.startB {H G:Hp}{N:List Str}{b:Addr}{vs:List V}{ds:List D}{β:Int}(s:ax G H)(hb:H b=some (.lst [.int β]))(gb:G b=none)(r:cF K G vs ds)(hn:ds.length + 1<=N.length):SR (Fx.fb K H G ca b) (some b) G H (L2.start N (.ref b :: vs)) (xp N.length ds) β:=by
 have hl:=r.len
 refine⟨s,ax.refl _,λc _ h=>h,λc o h _=>Kt.of h,λc h=>?_,λc h=>h,λc h=>?_,?_,λi t e=>?_,λi j a d e h=>?_⟩
 ·have:c=b:=by simpa using h
  subst this;exact Mx.lst hb
 ·cases h;exact⟨hb,gb,.inl (by simp)⟩
 ·unfold L2.start xp;simp;omega
 ·cases i with
  |zero=>
   unfold xp at e
   cases e
   exact⟨b,rfl,rfl⟩
  |succ i=>
   unfold xp at e
   have e:(ds.map Sl.fz ++ List.replicate (N.length - 1 - ds.length) Sl.no)[i]? =some t:=by simpa using e
   by_cases hi:i < ds.length
   ·rw[NI (by simpa using hi),Nm,M9 hi] at e
    cases e
    obtain⟨x,hx,rx⟩:=r.at (M9 hi)
    refine⟨x,?_,rx⟩
    unfold L2.start
    have hi':i < vs.length:=by rw[hl];exact hi
    rw[NI (by simp;exact hi'),Nm,List.getElem?_cons_succ,hx];rfl
   ·rw[NO (by simpa using hi),Oe] at e
    split at e
    ·cases e;trivial
    ·cases e
 ·unfold xp at h
  have hm:=Nw h
  rcases Nh.mp hm with z |hm
  ·cases z
  rcases Nz.mp hm with z |z
  ·obtain⟨_,_,z⟩:=NN.mp z;cases z
  ·have:=Od z;cases this
def wQ {x qual:Str}{st:Stmt}{f:Addr}{fd:FuncData}{N:List Str}{ps:List Str}{k:Nat}{m:SF}(F:Bd K x qual st f fd)(S:aF N ps (ar st))(hp:1<=ps.length)
  (hbody:∀(cdv:Value) (A:Around) (outer:List Env) (s:Shared) (H G:Hp) (b:Addr) (E:XK),dJ k (A.deeper (envOfC qual (ar st) s.heap.objs.size f cdv))->Dq (pF (nE P w) P w K mg base N qual (ar st) f cdv A outer s H E) (Fx.fb K H G ca b) E (de st) m) :
  fq P w K mg base (nE P w) (k + 1) f fd ps (Bj K (ps.length - 1) (vQ N.length (ps.length - 1) m)):=by
 have hpn:ps.length<=N.length:=by have:=congrArg List.length S.pre;rw[NU] at this;omega
 refine F.Be S (λvs H Q E h=>?_) (λcdv A outer s H vs Q E hr h=>?_)
 ·obtain⟨b,rest,G,ds,β,rfl,hb,gb,sG,hl,r,_⟩:=h
  rw[N1,r.len];omega
 ·obtain⟨b,rest,G,ds,β,rfl,hb,gb,sG,hl,r,h⟩:=h
  refine⟨_,hbody cdv A outer s H G b E hr,?_⟩
  have I:=SR.startB (ca:=ca) (N:=N) sG hb gb r (by omega)
  refine⟨_,G,some b,β,I,?_⟩
  unfold vQ at h
  rw[Nc hl] at h
  have fin':∀{B G' H' σ env β},SR (Fx.fb K H G ca b) B G' H' σ env β->iG (some b) H H'/\H' b=some (.lst [.int β]):=λJ=>by
   have e:=J.fix b rfl
   have k:∀c o,H c=some o->some b≠some c->Kt _ c o:=λc o ec n=>J.keep c o ec λz=>n (show some b=some c by rw[show c=b by simpa using z])
   exact⟨⟨k,λc o u ec=>k c _ ec λz=>by cases z;rw[hb] at ec;cases ec⟩,(J.box b e).1⟩
  cases q:m (xp N.length ds) β with
  |nx env β'=>rw[q] at h;exact λB G' H' σ J s'=>h .non G' H' (fin' J).1 (fin' J).2 s' J.sub (λc h1 h2=>J.new c h1 h2) Rp.non
  |bk env β'=>rw[q] at h;exact h.elim
  |ct env β'=>rw[q] at h;exact h.elim
  |rt d fr β'=>
   rw[q] at h
   refine λB G' H' σ env v J s' rv=>h v G' H' (fin' J).1 (fin' J).2 s' J.sub (λc h1 h2=>J.new c h1 h2) ?_
   cases fr with
   |true=>exact rv
   |false=>exact rv
  |exc c=>rw[q] at h;exact h.elim
  |bad=>rw[q] at h;exact h.elim
def vm {n p:Nat}{m:SF}(ds:List D)(β:Int)(h:vQ n p m ds β≠.bad):ds.length=p:=by
 unfold vQ at h
 by_cases hl:ds.length=p
 ·exact hl
 ·rw[Nk hl] at h;exact absurd rfl h
def pH.imp {x:Str}{ps:List Str}{k:Nat}{F F':List D->Int->FB}(h:pH P w K mg base x ps k F)(i:∀ds β,F' ds β≠.bad->F ds β=F' ds β):pH P w K mg base x ps k F':=by
 obtain⟨f,fd,a,b,c,d⟩:=h.ex
 refine⟨⟨f,fd,a,b,c,d.imp λvs H Q E q=>?_⟩,λds β hn=>h.len ds β (by rw[i ds β hn];exact hn)⟩
 obtain⟨b,rest,G,ds,β,e,hb,gb,s,hl,r,q⟩:=q
 refine⟨b,rest,G,ds,β,e,hb,gb,s,hl,r,?_⟩
 by_cases hF:F' ds β=.bad
 ·rw[hF] at q;exact q.elim
 ·rw[i ds β hF];exact q
end
def ao (p:Pr):D:=.tuple [.int p.1,.int p.2]
def qi:D->Option Pr
 | .tuple [.int a,.int b]=>some (a,b)
 |_=>none
def vK {d:D}{p:Pr}(h:qi d=some p):d=ao p:=by
 unfold qi at h
 split at h
 ·cases h;rfl
 ·cases h
def A0 (p:Pr):qi (ao p)=some p:=rfl
def jH:List D->Option (List Pr)
 | []=>some []
 |d :: ds=>match qi d,jH ds with
  |some p,some ps=>some (p :: ps)
  |_,_=>none
theorem mj:∀{ds:List D} {ps:List Pr},jH ds=some ps->ds=ps.map ao
 | [],ps,h=>by cases h;rfl
 |d :: ds,ps,h=>by
  unfold jH at h
  split at h
  ·rename_i p qs h1 h2;cases h;rw[vK h1,mj h2];rfl
  ·cases h
theorem jr:∀ps:List Pr,jH (ps.map ao)=some ps
 | []=>rfl
 |p :: ps=>by
  show (match qi (ao p),jH (ps.map ao) with
   |some p,some ps=>some (p :: ps)
   |_,_=>none)=_
  rw[A0,jr ps]
section
variable {K:Frag}{X:Cx}{G H:Hp}
theorem cF.pairs:∀{ps:List Pr} {xs:List V},cF K G xs (ps.map ao)->bA K G xs ps
 | [],_,.nil=>.nil
 |p :: ps,_,.cons r t=>by
  cases r with
  |tup hq r=>
   cases r with
   |cons r1 r=>
    cases r with
    |cons r2 r=>cases r;cases r1;cases r2;exact .cons ⟨_,rfl,hq⟩ (cF.pairs t)
theorem bA.rps:∀{ps:List Pr} {xs:List V},bA K G xs ps->cF K G xs (ps.map ao)
 | [],_,.nil=>.nil
 |p :: ps,_,.cons r t=>by
  obtain⟨a,rfl,q⟩:=r
  exact .cons (.tup q (.cons (.int _) (.cons (.int _) .nil))) (bA.rps t)
def IZ (p:Pr):Bool:=decide (0<=p.1) && decide (p.1 < 8) && decide (0<=p.2) && decide (p.2 < 8)
def Hu {p:Pr}(h:IZ p=true):Sm p:=by
 unfold IZ at h
 simp only[Ny,NC] at h
 exact⟨⟨h.1.1.1,h.1.1.2⟩,h.1.2,h.2⟩
variable {Γ:Fx}{E:XK}{e a b c:Expr}{f fa fb fc:VF D}{L La Lb:List Nat}{md ma mb mc:Md}{pos:Pos}
end
section
variable {K:Frag}{X:Cx}{G H:Hp}{Γ:Fx}{E:XK}{e a b c:Expr}{f fa fb fc:VF D}{L La Lb:List Nat}{md ma mb mc:Md}{pos apos cpos np:Pos}
def hJ:D->Option D
 | .int n=>if 0<=n/\n<=1000 then some (.list (dg 0 n.toNat)) else none
 |_=>none
def Ai (n:Nat):cF K G ((List.range n).map λ(i:Nat)=>V.int (i:Int)) (dg 0 n):=by
 have key:∀l:List Nat,cF K G (l.map λ(i:Nat)=>V.int (i:Int)) (l.map λ(k:Nat)=>int (0 + k)):=by
  intro l
  induction l with
  |nil=>exact .nil
  |cons x l ih=>exact .cons (by show Rp K G (.int (x:Int)) (.int (0 + (x:Int)));rw[Og];exact .int _) ih
 exact key _
theorem qu {p1 p2 pos2:Pos}(hc:X.calm=true)(hg:Gl X "list")(hm:X.mg "list"=none)(hg2:Gl X "range")(hm2:X.mg "range"=none)(ha:SE X Γ E a fa La ma)
  (he:starEach [a] X.env=(false,eval a X.env) :: starEach [] X.env:=by rfl)
  (he2:starEach [.Call (.Name "range" p2) [a] [] pos2] X.env=(false,eval (.Call (.Name "range" p2) [a] [] pos2) X.env) :: starEach [] X.env:=by rfl) :
  SE X Γ E (.Call (.Name "list" p1) [.Call (.Name "range" p2) [a] [] pos2] [] pos) (f1 fa hJ) La .w:=by
 refine PE.post' (mn (su hc) hg hm (by decide +kernel) (bc (mn Bv hg2 hm2 (by decide +kernel) (bc ha cp he) (by decide) (by decide) he) cp he2) (by decide) (by decide) he2) λσ H Q ⟨env,G,B,β,I,o⟩=>?_
 refine lb (r:=λx H1 Q=>∃n:Int,[x]= [.int n]/\∀p,H1 p=none->(λ(y:V) (H2:Hp)=>∃(p:Addr) (n:Int),[y]= [V.ref p]/\H2 p=some (.iu 0 n)/\0<=n/\n<=1000/\∀l,H2 l=none->Q (.ref l) (upd H2 l (.lst ((List.range n.toNat).map λ(i:Nat)=>V.int (i:Int))))) (V.ref p) (upd H1 p (.iu 0 n))) ?_ I o
 intro B G H x dx d Q s hB bx e k
 cases dx with
 |int n=>
  obtain rfl:=bx.int
  simp only[hJ] at e
  split at e
  ·rename_i hh
   cases e
   refine⟨n,rfl,λp hp=>⟨p,n,rfl,aC,hh.1,hh.2,λl hl=>?_⟩⟩
   have hlp:l≠p:=λz=>by subst z;rw[aC] at hl;cases hl
   have hlH:H l=none:=by rw[aB hlp] at hl;exact hl
   have x1:=Ext.own s (o:=.iu 0 n) hp
   have x2:=Ext.own x1.gh (o:=.lst ((List.range n.toNat).map λ(i:Nat)=>V.int (i:Int))) hl
   exact k _ _ _ (x1.trans x2) ⟨l,rfl,hlH,s.free hlH,_,aC,Ai _⟩
  ·cases e
 |_=>cases e
noncomputable def rn (d:D):Option D:=match d with
 | .list ds=>(match jH ds with
  |some ps=>if ps.all IZ=true/\ps.Nodup/\ps.length < 64 then some (.list ((OM.i6 8 (OM.Mem ps)).map ao)) else none
  |none=>none)
 |_=>none
theorem EA:B6 K (λx=>zu K [x]) rn .w:=by
 intro B G H x dx d Q s hB bx e k
 cases dx with
 |list ds=>
  simp only[rn] at e
  cases q2:jH ds with
  |none=>rw[q2] at e;cases e
  |some ps=>
   rw[q2] at e
   dsimp only at e
   split at e
   ·rename_i hh
    obtain⟨h1,h2,h3⟩:=hh
    cases e
    obtain⟨p,xs,rfl,hq,r⟩:=bx.list s
    rw[mj q2] at r
    have pv:=(r.mono s).pairs
    have sm:∀p,p∈ps->Sm p:=λp hp=>Hu (NQ.mp h1 p hp)
    refine⟨p,xs,ps,rfl,.inl hq,pv,sm,h2,h3,λl ws rs hl hpw hr hmem=>?_⟩
    have ers:rs=OM.i6 8 (OM.Mem ps):=OM.kL hr (OM.jq _ _) λx=>by
     rw[hmem x,OM.fk]
     constructor
     ·intro hx;have hs:=sm x hx;exact⟨⟨⟨hs.1.1,hs.1.2⟩,hs.2.1,hs.2.2⟩,hx⟩
     ·intro hx;exact hx.2
    subst ers
    have hh:ax H (upd H l (.lst ws)):=ax.new hl
    refine k _ _ _ (Ext.tups s hh) ⟨l,rfl,hl,?_,ws,aC,?_⟩
    ·unfold jw
     rw[s.free hl,aC]
     exact Nk λy=>y
    ·refine bA.rps (Paired.mapP hpw λv p ⟨a,ea,qa⟩=>⟨a,ea,nD (s.trans hh) ?_⟩)
     exact qa.grow (jo.new hl)
   ·cases e
 |_=>cases e
def Ac (ds:List D)(k:D):Option (D×List D):=match k with
 | .int i=>if -(2 ^ 63)<=i/\i < 2 ^ 63 then (match seqIndex? i ds.length with
  |some n=>(match ds[n]? with
   |some d=>some (d,ds.eraseIdx n)
   |none=>none)
  |none=>none) else none
 |_=>none
def kX (i j:Nat)(L:List Nat)(f:VF D):SF:=λenv β=>if qX env[i]? =true/\qX env[j]? =true/\i≠j then toS (f (vl env) β) λk β'=>match (aY L env)[j]? with
 |some (.ow (.list es))=>(match Ac es k with
  |some (d,es')=>FW i ((aY L env).set j (.ow (.list es'))) β' λds=>if ds.length < sizeLine then some (ds ++ [d]) else none
  |none=>.bad)
 |_=>.bad else .bad
theorem cF.eraseIdx:∀{xs:List V} {ds:List D} (i:Nat),cF K G xs ds->cF K G (xs.eraseIdx i) (ds.eraseIdx i)
 |_,_,_,.nil=>.nil
 |_,_,0,.cons _ t=>t
 |_,_,i + 1,.cons r t=>.cons r (cF.eraseIdx i t)
theorem z7 (i j:Nat){x y:Str}{np2 apos2 cpos2:Pos}(hb:∀j,Γ.br j=false)(he:SE X Γ E e f L md)(hN:X.N[i]? =some x:=by rfl)(hv:y7 X.env.scope x:=by first |exact Or.inl rfl |exact Or.inr (Or.inl rfl) |exact Or.inr (Or.inr rfl))(hd:(x == ("__debug__":Str))=false:=by decide)
  (hcd:(x == ("__classdict__":Str))=false:=by decide)
  (hN2:X.N[j]? =some y:=by rfl) (hv2:y7 X.env.scope y:=by first |exact Or.inl rfl |exact Or.inr (Or.inl rfl) |exact Or.inr (Or.inr rfl)) (hd2:(y == ("__debug__":Str))=false:=by decide)
  (hcd2:(y == ("__classdict__":Str))=false:=by decide)
  (hbase:attributeBase (.Name x np) "append" X.env (eval (.Name x np) X.env)=eval (.Name x np) X.env:=by rfl)
  (hfew:((backTo cpos (starEach [.Call (.Attribute (.Name y np2) "pop" apos2) [e] [] cpos2] X.env)).all (λx=> !x.1) && (backToKw cpos (keywordEach [] X.env)).all (λx=>x.1.isSome)
   && decide ([Expr.Call (.Attribute (.Name y np2) "pop" apos2) [e] [] cpos2].length + ([]:List Keyword).length + (if ([]:List Keyword).isEmpty then 0 else 1) < 30))=true:=by rfl)
  (hline:(apos.endLine == cpos.line)=true:=by rfl) (hs:starEach [.Call (.Attribute (.Name y np2) "pop" apos2) [e] [] cpos2] X.env=(false,eval (.Call (.Attribute (.Name y np2) "pop" apos2) [e] [] cpos2) X.env) :: starEach [] X.env:=by rfl)
  (hbase2:attributeBase (.Name y np2) "pop" X.env (eval (.Name y np2) X.env)=eval (.Name y np2) X.env:=by rfl)
  (hfew2:((backTo cpos2 (starEach [e] X.env)).all (λx=> !x.1) && (backToKw cpos2 (keywordEach [] X.env)).all (λx=>x.1.isSome)
   && decide ([e].length + ([]:List Keyword).length + (if ([]:List Keyword).isEmpty then 0 else 1) < 30))=true:=by rfl)
  (hline2:(apos2.endLine == cpos2.line)=true:=by rfl) (hs2:starEach [e] X.env=(false,eval e X.env) :: starEach [] X.env:=by rfl)
  (hsw:swapsWith (.Call (.Attribute (.Name x np) "append" apos) [.Call (.Attribute (.Name y np2) "pop" apos2) [e] [] cpos2] [] cpos) none pos.line X.env=pure false:=by rfl) :
  SS X Γ E (.Expr (.Call (.Attribute (.Name x np) "append" apos) [.Call (.Attribute (.Name y np2) "pop" apos2) [e] [] cpos2] [] cpos) pos) (kX i j L f):=by
 refine PS.post (pZ (yP OV PySem.F.slot_list_append PySem.F.type_list_append oC (ki hN hv hd hcd)
  (bc (yP OV PySem.F.slot_list_pop PySem.F.type_list_pop CW (ki hN2 hv2 hd2 hcd2) (bc he cp hs2) hbase2 hfew2 hline2 hs2 rfl) cp hs) hbase hfew hline hs rfl) hsw) λN σ H ⟨env,G,B,β,I,o⟩=>?_
 unfold kX at o
 by_cases hO:qX env[i]? =true/\qX env[j]? =true/\i≠j
 case neg=>rw[Nk hO] at o;exact o.elim
 rw[Nc hO] at o
 obtain⟨hO1,hO2,hij⟩:=hO
 obtain⟨ds0,q0⟩:=og hO1
 obtain⟨es0,w0⟩:=og hO2
 obtain⟨p,h1,_,_,_,xs,h5,_⟩:=I.slot i _ q0
 obtain⟨q,k1,_,_,_,ys,k5,_⟩:=I.slot j _ w0
 refine⟨_,h1,.inl ⟨rfl,xs,.inl (.inl h5)⟩,?_⟩
 refine⟨_,k1,.inl ⟨rfl,ys,.inl (.inl k5)⟩,?_⟩
 refine⟨env,G,B,β,I,c8 o λkd β' k v G' H' I' s' m' vo=>?_⟩
 cases ej:(aY L env)[j]? with
 |none=>rw[ej] at k;exact k.elim
 |some sj=>
  rw[ej] at k
  cases sj with
  |ow dj=>
   cases dj with
   |list es=>
    dsimp only at k
    cases ep:Ac es kd with
    |none=>rw[ep] at k;exact k.elim
    |some pr=>
     obtain⟨d,es'⟩:=pr
     rw[ep] at k
     dsimp only at k
     unfold Ac at ep
     cases kd <;> first | (cases ep;done) |skip
     rename_i ii
     dsimp only at ep
     split at ep
     ·rename_i hr
      cases eI:seqIndex? ii es.length with
      |none=>rw[eI] at ep;cases ep
      |some n=>
       rw[eI] at ep
       dsimp only at ep
       cases eD:es[n]? with
       |none=>rw[eD] at ep;cases ep
       |some d0=>
        rw[eD] at ep
        cases ep
        obtain rfl:=(vo.brw I.boxThere).int
        obtain⟨q',g1,_,_,_,zs,g5,g6⟩:=I'.slot j _ ej
        rw[k1] at g1;cases g1
        obtain⟨xv,ex,rx⟩:=g6.at eD
        refine⟨q,zs,ii,n,xv,rfl,rfl,g5,hr.1,hr.2,by rw[g6.len];exact eI,ex,?_⟩
        have I2:=I'.write hb ej k1 (o:=.lst (zs.eraseIdx n)) (d':=.list (es.eraseIdx n)) λH2 e2 s2=>⟨_,e2,g6.eraseIdx n⟩
        obtain⟨ds,fs,eq,eg,k⟩:=p7 k
        by_cases hz:ds.length < sizeLine
        case neg=>rw[Nk hz] at eg;cases eg
        rw[Nc hz] at eg
        cases eg
        obtain⟨p',f1,_,_,_,us,f5,f6⟩:=I2.slot i _ eq
        rw[h1] at f1;cases f1
        refine⟨p,us,xv,rfl,rfl,f5,by rw[f6.len];exact hz,?_⟩
        exact k B G' _ σ (I2.write hb eq h1 λH2 e2 s2=>⟨_,e2,f6.snoc rx⟩) s'
     ·cases ep
   |_=>exact k.elim
  |_=>exact k.elim
end
def eV:List D->Int->FB
 | [.int m],β=>if 0 < m/\m < 1073741824 then .ok (.int (β % m)) false (β / m) else .bad
 |_,_=>.bad
def zJ {ds:List D}{β:Int}(h:eV ds β≠.bad):∃m,ds= [.int m]/\0 < m/\m < 1073741824:=by
 unfold eV at h
 split at h
 ·rename_i m
  by_cases hh:0 < m/\m < 1073741824
  ·exact⟨m,rfl,hh.1,hh.2⟩
  ·rw[Nk hh] at h;exact absurd rfl h
 ·exact absurd rfl h
def tX {m β:Int}(h0:0 < m)(h1:m < 1073741824):eV [.int m] β=.ok (.int (β % m)) false (β / m):=Nc ⟨h0,h1⟩
section
variable {P:Program}{w:World}{K:Frag}{mg:Str->Option Value}{base:Heap}
def FE {X:Cx}{i j:Nat}{x y:Str}{px py pos:Pos}{k:Nat}(hN:X.N.Nodup)(hi:X.N[i]? =some x)(hj:X.N[j]? =some y)(hx:X.env.scope.names.lookup x=some .local)(hy:X.env.scope.names.lookup y=some .local)(hc:X.calm=true) :
  PG X (.Tuple [.Name x px,.Name y py] k pos) (Fd X.K 2 (qF (mV i) (qF (mV j) EV))):=
 qK hc (fg (dC hN hi (Or.inl hx) (Or.inr hx)) (fg (dC hN hj (Or.inl hy) (Or.inr hy)) nH))
def Ds {b:Addr}{β m:Int}{H:Hp}{Q:VK}{G:Hp}(hb:H b=some (.lst [.int β]))(s:ax G H){p:Addr}(hp:H p=none)
  (kk:∀v G' H',iG (some b) H H'->H' b=some (.lst [.int (β / m)])->ax G G'->ax G' H'->(∀c,Mx H c->G c=none->G' c=none)->FV K H G' H' false (.int (β % m)) v->Q v H') (gb:G b=none) :
  Q (.int (β % m)) (upd (upd H p (.tup [.int (β / m),.int (β % m)])) b (.lst [.int (β / m)])):=by
 have hbp:b≠p:=aO hb hp
 refine kk _ G _ ⟨λc o e n=>Kt.of (by rw[aB (λz=>n (by rw[z])),aB (aO e hp)];exact e),λc o u e=>by rw[aB (λz=>by rw[z,hb] at e;cases e),aB (aO e hp)];exact e⟩ aC (ax.refl _) (λc o e=>?_) (λc _ h=>h) (.int _)
 obtain⟨u,eu,_⟩:=(s c o e).some
 exact lT (lT (s c o e) (aO eu hp) λx y w=>by rw[hp] at w;cases w) (λz=>by rw[z,gb] at e;cases e) λx y w=>by rw[aB hbp,hb] at w;cases w
end
end L2
namespace L2
open PySem PySem.SeqAt PySem.Spec PyProof.Rows
def uD {M:Model}{A:Around}{E:Value->Shared->Prop}{s:Shared}{β:Type}{b:Nat}(f:Nat->β->Sem (ForInStep β))(I:List Nat->β->Shared->Prop)(Q:β->Shared->Prop)
  (turn:∀x rest b s,I (x :: rest) b s->wpAny M A (f x b) (λr s'=>match r with | .yield b'=>I rest b' s' | .done b'=>Q b' s') E s)
  (fin:∀b s,I [] b s->Q b s) (c:β) (h:I (List.range' 0 b) c s):wpAny M A (forIn [0:b] c f) Q E s:=by
 rw[Std.Legacy.Range.forIn_eq_forIn_range']
 simp only[Std.Legacy.Range.size,Nat.sub_zero,Nat.add_sub_cancel,Nat.div_one]
 exact wpAny_forIn_list f I Q turn fin _ c h
def sI (l:Addr)(items:Array Value)(n:Nat)(dd:Option Addr)(sl:Array (Option Value))(x:Value)(e:Value->Bool)(j:Nat)(hj:j < items.size)
  (hit:e items[j]=true) (hno:∀m (hm:m < items.size),m < j->e items[m]=false) :
  Meets (Builtin.«tuple.index» ⟨[.ref l,x],[]⟩)
   (λA R s=>s.heap.get? l=some {cls:=.type "tuple",dict:=dd,data:=.seq items n,slots:=sl}/\(∀y,y∈items->EqAt A.in1 s y x (e y))/\R (.ok (.ret (.int j s.toks))) {s with toks:=s.toks + 1}):=
 .of_wp λprog w A R s h=>by
  obtain⟨hp,g,d,tk,os⟩:=s;obtain⟨hl,he,h⟩:=h
  wp_walk using wpAny_loadPart' hl,uD _ (λrest b s'=>b.1=none/\s'=⟨hp,g,d,tk,os⟩/\∃i,i<=j/\rest=List.range' i (items.size - i)) _
  case turn=>
   rintro y rest b s' ⟨hb,rfl,i,hi,hr⟩
   obtain⟨m,hm⟩:∃m,items.size - i=m + 1:=⟨items.size - i - 1,by omega⟩
   rw[hm,List.range'_succ] at hr
   obtain⟨rfl,rfl⟩:=List.cons.inj hr
   have hlt:y < items.size:=by omega
   have e1:items[y]? =some items[y]:=by simp[hlt]
   simp only[e1]
   refine Nf (he _ (Array.getElem_mem hlt) prog w _ _ ?_)
   by_cases z:y=j
   ·subst z
    rw[hit]
    wp_walk
    exact⟨_,rfl,h⟩
   ·rw[hno y hlt (by omega)]
    wp_walk
    exact⟨rfl,rfl,y + 1,by omega,by congr 1;omega⟩
  case fin=>
   rintro b s' ⟨hb,rfl,i,hi,hr⟩
   obtain⟨m,hm⟩:∃m,items.size - i=m + 1:=⟨items.size - i - 1,by omega⟩
   rw[hm,List.range'_succ] at hr
   cases hr
  case h=>
   exact⟨rfl,rfl,0,N3 _,by rw[Nat.min_self];rfl⟩
section
variable {K:Frag}{X:Cx}{G H:Hp}{Γ:Fx}{E:XK}{e a b c:Expr}{f fa fb fc:VF D}{L La Lb:List Nat}{md ma mb mc:Md}{pos apos cpos np:Pos}
def xN (k:Int):Value->Bool
 | .int i _=>i == k
 |_=>false
theorem ng {k:Int}:∀{ns:List Int} {us:List Value} (i:Nat) (h:i < us.length) (h2:i < ns.length),Vals (ns.map V.int) us->xN k us[i]=(ns[i] == k)
 | [],_,_,_,h2,_=>absurd h2 (Nat.not_lt_zero _)
 |n :: ns,_,0,_,_,.cons r _=>by obtain⟨t,rfl⟩:=r;rfl
 |n :: ns,_,i + 1,h,h2,.cons _ rs=>ng i (Nat.lt_of_succ_lt_succ h) (Nat.lt_of_succ_lt_succ h2) rs
theorem wc {k:Int}{t:Tok}(A:Around)(s:Shared):∀{ns:List Int} {us:List Value},Vals (ns.map V.int) us->∀y∈us,EqAt A s y (.int k t) (xN k y)
 | [],_,.nil,y,hy=>by cases hy
 |n :: ns,_,.cons r rs,y,hy=>by
  rcases Nh.mp hy with z |z
  ·subst z;obtain⟨t',rfl⟩:=r;exact EqAt.int_int n t' k t
  ·exact wc A s rs y z
def DF (K:Frag):V->List V->Hp->VK->Prop:=λx vs H Q=>∃(a:Addr) (ns:List Int) (k:Int),x=.ref a/\vs= [.int k]/\gB K H a (ns.map V.int)/\k∈ns/\Q (.int (ns.idxOf k:Nat)) H
def Aq:JG X "tuple.index" (DF X.K):=by
 intro pins s σ H x vs v us Q I rx rv h
 obtain⟨a,ns,k,rfl,rfl,hq,hk,q⟩:=h
 cases rx
 obtain⟨u,rfl,ru⟩:=vals1 rv
 obtain⟨t,rfl⟩:=ru
 obtain⟨its,rs,pl,hz⟩:=I.tuple hq
 obtain⟨⟨cls,dd,data,sl⟩,ho,hc,n,hd⟩:=id pl
 simp only at hc hd
 subst hc hd
 have hj:ns.idxOf k < ns.length:=List.idxOf_lt_length_iff.mpr hk
 have hlen:its.length=ns.length:=by rw[<-rs.length,Nb]
 refine call_meets PySem.F.slot_tuple_index ⟨_,ho,rfl⟩ PySem.F.entry_tuple_index (PySem.F.args_tuple_index_2 _ _)
  (sI a its.toArray n dd sl (.int k t) (xN k) (ns.idxOf k) (by simpa[hlen] using hj) ?_ ?_) ⟨ho,λy hy=>wc _ _ rs y (by simpa using hy),?_⟩
 ·have:=ng (k:=k) (ns.idxOf k) (by omega) hj rs
  simpa[List.getElem_idxOf hj] using this
 ·intro m hm hlt
  have hm':m < ns.length:=by simpa[hlen] using hm
  have hne:ns[m]≠k:=λz=>by
   have:=List.not_of_lt_findIdx (p:=(· == k)) hlt
   simp[z] at this
  have:=ng (k:=k) m (by omega) hm' rs
  rw[beq_eq_false_iff_ne.mpr hne] at this;simpa using this
 ·exact⟨.int (ns.idxOf k:Nat),H,I.tok _,⟨_,rfl⟩,q⟩
def Inv.tupleP {pins:List (Addr×Obj)}{σ:St}{s:Shared}{p:Addr}{xs:List V}(I:Inv X pins σ H s)(h:gB X.K H p xs):s.TypeIs (.ref p) "tuple"/\∀a,Value.ref p=.ref a->∃ob,s.heap.get? a=some ob/\ob.dict=none:=by
 rcases h with h | ⟨o,its,n,hk,hc,hs,hz,r,hd⟩
 ·obtain⟨_,_,_,o,e,c,n,d,hd⟩:=h.ok I.hok
  exact⟨⟨o,e,c⟩,λa z=>by cases z;exact⟨o,e,hd⟩⟩
 ·exact⟨⟨o,I.kIn p o hk,hc⟩,λa z=>by cases z;exact⟨o,I.kIn p o hk,hd⟩⟩
def Lx (K:Frag)(r:V->List V->Hp->VK->Prop)(to:TE)(t:TA):TE:=λσ H Q=>to σ H λx H1=>(∃p xs,x=.ref p/\gB K H1 p xs)/\t σ H1 λxs H2=>r x xs H2 Q
def GK {o e:Expr}{es:List Expr}{to:TE}{t:TA}{name:Str}{apos cpos:Pos}{id:String}{r:V->List V->Hp->VK->Prop}(slot:Slot "tuple" name id)(hty:typeOf (.builtin id)=pure (.type "method_descriptor"))(hm:JG X id r)(ho:PE X o to)(ha:PA X (e :: es) t)
  (hbase:attributeBase o name X.env (eval o X.env)=eval o X.env:=by rfl)
  (hfew:((backTo cpos (starEach (e :: es) X.env)).all (λx=> !x.1) && (backToKw cpos (keywordEach [] X.env)).all (λx=>x.1.isSome)
   && decide ((e :: es).length + ([]:List Keyword).length + (if ([]:List Keyword).isEmpty then 0 else 1) < 30))=true:=by rfl)
  (hline:(apos.endLine == cpos.line)=true:=by rfl) (hs:starEach (e :: es) X.env=(false,eval e X.env) :: starEach es X.env:=by rfl) (hplain:(backTo cpos (starEach es X.env)).any (·.1)=false:=by rfl) :
  PE X (.Call (.Attribute o name apos) (e :: es) [] cpos) (Lx X.K r to t):=by
 intro pins s σ H Q I h
 refine wpAny_Call_method_late hbase hfew hline rfl (cK (ho pins s σ H _ I h) λv s1 ⟨x,H1,I1,r1,⟨p,ys,ex,hr⟩,q1⟩=>?_)
 subst ex
 cases r1
 obtain⟨h1,h2⟩:=I1.tupleP hr
 refine⟨"tuple",id,PySem.F.plainAttrs_tuple,slot,hty,h1,h2,?_⟩
 have hA:=ha cpos pins s1 σ H1 _ I1 q1
 rw[hs] at hA ⊢
 refine Calls.callWith_builtin (by show (false || (backTo cpos (starEach es X.env)).any (·.1))=false;rw[hplain] <;> rfl) (Calls.evalArgs_plain ?_)
 exact cK hA λus s2 ⟨vs,H2,I2,r2,q2⟩=>hm pins s2 σ H2 (.ref p) vs (.ref p) us Q I2 rfl r2 q2
def mO:List D->Option (List Int)
 | []=>some []
 | .int i :: ds=>(mO ds).map (i :: ·)
 |_=>none
theorem wd:∀{ds:List D} {ns:List Int},mO ds=some ns->ds=ns.map int
 | [],ns,h=>by cases h;rfl
 | .int i :: ds,ns,h=>by
  unfold mO at h
  cases q:mO ds with
  |none=>rw[q] at h;cases h
  |some ms=>rw[q] at h;cases h;rw[wd q];rfl
 | .none :: _,_,h=>by cases h
 | .bool _ :: _,_,h=>by cases h
 | .str _ :: _,_,h=>by cases h
 | .list _ :: _,_,h=>by cases h
 | .tuple _ :: _,_,h=>by cases h
 | .dict _ :: _,_,h=>by cases h
theorem mf:∀ns:List Int,mO (ns.map int)=some ns
 | []=>rfl
 |n :: ns=>by show (mO (ns.map int)).map (n :: ·)=_;rw[mf ns];rfl
theorem qO:∀{ns:List Int} {xs:List V},cF K G xs (ns.map int)->xs=ns.map V.int
 | [],_,.nil=>rfl
 |n :: ns,_,.cons r t=>by cases r;rw[qO t];rfl
def Fg (d y:D):Option D:=match d,y with
 | .tuple ds,.int k=>(match mO ds with
  |some ns=>if k∈ns then some (.int (ns.idxOf k:Nat)) else none
  |none=>none)
 |_,_=>none
def zV:D->Bool
 | .tuple _=>true
 |_=>false
def oK (fa fb:VF D):VF D:=λvs β=>(fa vs β).bnd λx β1=>if zV x=true then (fb vs β1).bnd λy β2=>R.of (Fg x y) β2 else .bad
theorem vJ (hK:X.K=Γ.K)(ha:SE X Γ E a fa La ma)(hb:SE X Γ E b fb Lb mb)
  (hbase:attributeBase a "index" X.env (eval a X.env)=eval a X.env:=by rfl)
  (hfew:((backTo cpos (starEach [b] X.env)).all (λx=> !x.1) && (backToKw cpos (keywordEach [] X.env)).all (λx=>x.1.isSome)
   && decide ([b].length + ([]:List Keyword).length + (if ([]:List Keyword).isEmpty then 0 else 1) < 30))=true:=by rfl)
  (hline:(apos.endLine == cpos.line)=true:=by rfl) (hs:starEach [b] X.env=(false,eval b X.env) :: starEach [] X.env:=by rfl) :
  SE X Γ E (.Call (.Attribute a "index" apos) [b] [] cpos) (oK fa fb) (La ++ Lb) .v:=by
 refine PE.post' (GK PySem.F.slot_tuple_index PySem.F.type_tuple_index Aq ha (bc hb cp hs) hbase hfew hline hs rfl) λσ H Q ⟨env,G,B,β,I,o⟩=>?_
 refine⟨env,G,B,β,I,o.bnd.imp λd1 β1 h x G1 H1 I1 s1 m1 vx=>?_⟩
 have vx:=vx.brw I.boxThere
 cases d1 with
 |tuple ds=>
  rw[Nc (show zV (.tuple ds)=true from rfl)] at h
  obtain⟨p,xs,rfl,hq,r⟩:=vx.tuple I1.sub
  refine⟨⟨p,xs,rfl,by rw[hK];exact hq⟩,?_⟩
  refine⟨aY La env,G1,B,β1,I1,?_⟩
  rw[e8]
  refine h.bnd.imp λd2 β2 h y G2 H2 I2 s2 m2 vy=>?_
  obtain⟨d,e,k⟩:=h.of
  have vy:=vy.brw I1.boxThere
  cases d2 with
  |int kk=>
   obtain rfl:=vy.int
   simp only[Fg] at e
   cases q:mO ds with
   |none=>rw[q] at e;cases e
   |some ns=>
    rw[q] at e
    dsimp only at e
    split at e
    ·rename_i hk
     cases e
     have eds:=wd q
     subst eds
     have exs:=qO r
     subst exs
     have hq2:gB X.K H2 p (ns.map V.int):=by
      rw[hK]
      rcases hq with hq |hq
      ·rcases vx with vx | ⟨_,_,_,vx⟩
       ·cases vx with
        |tup g1 r9=>have z9:=qO r9;subst z9;exact (g1.grow (s2.trans I2.sub).grow)
       ·exact vx.elim
      ·exact .inr hq
     exact⟨p,ns,kk,rfl,rfl,hq2,hk,k _ G2 H2 (by rw[cH];exact I2) (s1.trans s2) (m1.trans m2) (.int _)⟩
    ·cases e
  |_=>simp only[Fg] at e;cases e
 |_=>exact h.elim
abbrev Fx.at (Γ:Fx)(H0:Hp):Fx:=⟨Γ.K,H0,Γ.G0,Γ.par,Γ.ca,Γ.br,Γ.bx⟩
end
end L2
namespace L2
open PySem PySem.Spec PyProof.Rows
section
variable {K:Frag}{X:Cx}{G H:Hp}
def AS (neg:Bool):D->D->Option D
 | .str x,.str y=>some (.bool (if neg then !decide (x=y) else decide (x=y)))
 |_,_=>none
def wx (x y:Str):decide (V.str x=V.str y)=decide (x=y):=by
 rw[NS];simp
def Jv:nt K Mw (AS false) .v:=by
 intro B G H x y dx dy d Q s hB bx by' e k
 cases dx <;> cases dy <;> first | (cases e;done) |skip
 cases e
 obtain rfl:=bx.str
 obtain rfl:=by'.str
 refine⟨rfl,?_⟩
 rw[wx]
 exact k _ G H (Ext.refl s) (.bl _)
def Kx:nt K MB (AS true) .v:=by
 intro B G H x y dx dy d Q s hB bx by' e k
 cases dx <;> cases dy <;> first | (cases e;done) |skip
 cases e
 obtain rfl:=bx.str
 obtain rfl:=by'.str
 refine⟨rfl,?_⟩
 rw[wx]
 exact k _ G H (Ext.refl s) (.bl _)
end
end L2
namespace L2
open PySem
section
variable {α γ:Type}
@[simp] theorem lS (a:α)(β:Int)(k:α->Int->R γ):(R.ok a β).bnd k=k a β:=rfl
@[simp] theorem Ln (c:Str)(k:α->Int->R γ):(R.exc c:R α).bnd k=.exc c:=rfl
@[simp] theorem KU (k:α->Int->R γ):(R.bad:R α).bnd k=.bad:=rfl
@[simp] theorem LR (a:α)(β:Int)(k:α->Int->R γ):(R.ok a β).okb k=k a β:=rfl
@[simp] theorem uJ (a:α)(β:Int):R.of (some a) β=.ok a β:=rfl
@[simp] theorem of_none (β:Int):(R.of none β:R α)=.bad:=rfl
@[simp] theorem L0 (a:α)(β:Int)(k:α->Int->SO):toS (.ok a β) k=k a β:=rfl
@[simp] theorem K8 (c:Str)(k:α->Int->SO):toS (.exc c:R α) k=.exc c:=rfl
@[simp] theorem Ld (k:α->Int->SO):toS (.bad:R α) k=.bad:=rfl
end
section
variable (f fa fb fc:VF D)(t u:VF Bool)(m m':SF)(vs:List Nv)(β:Int)(env:En)(i j:Nat)(L:List Nat)
@[simp] theorem yY:gv i vs β=R.of (dat vs[i]?) β:=rfl
@[simp] theorem yh (d:D):dat (some (.da d))=some d:=rfl
@[simp] theorem GH (d:D):cst d vs β=.ok d β:=rfl
@[simp] theorem Mz (g:D->Option D):f1 fa g vs β=(fa vs β).bnd λx β1=>R.of (g x) β1:=rfl
@[simp] theorem Mv (g:D->D->Option D):f2 fa fb g vs β=(fa vs β).bnd λx β1=>(fb vs β1).bnd λy β2=>R.of (g x y) β2:=rfl
@[simp] theorem zQ:ag vs β=.ok [] β:=rfl
@[simp] theorem dh (fr:VF (List D)):aa fa fr vs β=(fa vs β).bnd λx β1=>(fr vs β1).bnd λxs β2=>.ok (x :: xs) β2:=rfl
@[simp] theorem xZ:fP fa vs β=(fa vs β).bnd λx β1=>R.of (GR x) β1:=rfl
@[simp] theorem yI:kB t vs β=(t vs β).bnd λc β1=>.ok (!c) β1:=rfl
@[simp] theorem uT:xj t u vs β=(t vs β).bnd λc β1=>if c=true then u vs β1 else .ok false β1:=rfl
@[simp] theorem pQ:ie t u vs β=(t vs β).bnd λc β1=>if c=true then .ok true β1 else u vs β1:=rfl
@[simp] theorem MI (n:Bool):tN fa n vs β=(fa vs β).bnd λx β1=>.ok (if n then !rD x else rD x) β1:=rfl
@[simp] theorem HS:KY t fa fb vs β=(t vs β).bnd λc β1=>if c=true then fa vs β1 else fb vs β1:=rfl
@[simp] theorem cO (c:Bool){β1:Int}(h:fa vs β=.ok (.bool c) β1):cz fa vs β=.ok c β1:=by unfold cz;rw[h];rfl
@[simp] theorem yy:vl []= []:=rfl
@[simp] theorem uX (s:Sl):vl (s :: env)=s.val :: vl env:=rfl
@[simp] theorem yG (d:D):(Sl.fz d).val=.da d:=rfl
@[simp] theorem LH (d:D):(Sl.ow d).val=.da d:=rfl
@[simp] theorem Mi:Sl.no.val=.no:=rfl
@[simp] theorem LY:Sl.bx.val=.bx:=rfl
@[simp] theorem K9:aY [] env=env:=rfl
@[simp] theorem Ks:aY (i :: L) env=aY L (ij env i):=rfl
@[simp] theorem K7:aJ m m' env β=(match m env β with
 | .nx env' β'=>m' env' β'
 |r=>r):=rfl
@[simp] theorem L8:gZ L t m m' env β=toS (t (vl env) β) λc β'=>if c=true then m (aY L env) β' else m' (aY L env) β':=rfl
@[simp] theorem c9:a9 f env β=toS (f (vl env) β) λd β'=>.rt d false β':=rfl
@[simp] theorem vF:o4 f env β=toS (f (vl env) β) λd β'=>.rt d true β':=rfl
@[simp] theorem LF:jh env β=.nx env β:=rfl
@[simp] theorem cR:bO i L f env β=toS (f (vl env) β) λd β'=>.nx ((aY L env).set i (.fz d)) β':=rfl
@[simp] theorem lQ:lA i L f env β=toS (f (vl env) β) λd β'=>.nx ((aY L env).set i (.ow d)) β':=rfl
@[simp] theorem JW:mT L f env β=toS (f (vl env) β) λ_ β'=>.nx (aY L env) β':=rfl
end
def aL {m m':SF}{env env':En}{β β':Int}(h:m env β=.nx env' β'):aJ m m' env β=m' env' β':=by unfold aJ;rw[h]
def gp {m m':SF}{env:En}{β β':Int}{d:D}{b:Bool}(h:m env β=.rt d b β'):aJ m m' env β=.rt d b β':=by unfold aJ;rw[h]
def jB {L:List Nat}{t:VF Bool}{m m':SF}{env:En}{β β':Int}(h:t (vl env) β=.ok true β'):gZ L t m m' env β=m (aY L env) β':=by unfold gZ;rw[h];rfl
def iK {L:List Nat}{t:VF Bool}{m m':SF}{env:En}{β β':Int}(h:t (vl env) β=.ok false β'):gZ L t m m' env β=m' (aY L env) β':=by unfold gZ;rw[h];rfl
def au {F:List D->FR}{fr:VF (List D)}{vs:List Nv}{β β1:Int}{ds:List D}{d:D}{b:Bool}(h:fr vs β=.ok ds β1)(e:F ds=.ok d b):aw F fr vs β=.ok d β1:=by unfold aw;rw[h];dsimp only[R.bnd];rw[e]
def CG {F:List D->FR}{fr:VF (List D)}{vs:List Nv}{β β1:Int}{ds:List D}{d:D}(h:fr vs β=.ok ds β1)(e:F ds=.ok d true):sO F fr vs β=.ok d β1:=by unfold sO;rw[h];dsimp only[R.bnd];rw[e]
def fo {fa:VF D}{g:D->Option D}{vs:List Nv}{β β1:Int}{x d:D}(h:fa vs β=.ok x β1)(e:g x=some d):f1 fa g vs β=.ok d β1:=by unfold f1;rw[h];dsimp only[R.bnd];rw[e];rfl
def az {fa fb:VF D}{g:D->D->Option D}{vs:List Nv}{β β1 β2:Int}{x y d:D}(h:fa vs β=.ok x β1)(h':fb vs β1=.ok y β2)(e:g x y=some d):f2 fa fb g vs β=.ok d β2:=by unfold f2;rw[h];dsimp only[R.bnd];rw[h'];dsimp only[R.bnd];rw[e];rfl
def l7 {i:Nat}{F:List D->Int->FB}{fr:VF (List D)}{vs:List Nv}{β β1 β2:Int}{ds:List D}{d:D}{b:Bool}(hi:xQ vs i=true)(h:fr vs β=.ok ds β1)(e:F ds β1=.ok d b β2):ox i F fr vs β=.ok d β2:=by unfold ox;rw[Nc hi,h];dsimp only[R.bnd];rw[e]
def sz (n:Nat)(h:n<=1000):n<=sizeLine:=by rw[NV];omega
def Kl (n:Nat)(h:n<=1000):n < sizeLine:=by rw[NV];omega
def j0 {fr:VF (List D)}{vs:List Nv}{β β1:Int}{ds:List D}(h:fr vs β=.ok ds β1)(hz:ds.length<=1000):bY fr vs β=.ok (.tuple ds) β1:=by unfold bY;rw[h];exact Nc (sz _ hz)
def kO {fr:VF (List D)}{vs:List Nv}{β β1:Int}{ds:List D}(h:fr vs β=.ok ds β1)(hz:ds.length<=1000):cC fr vs β=.ok (.list ds) β1:=by unfold cC;rw[h];exact Nc (sz _ hz)
def uI {i:Nat}{env:En}{β:Int}{g:List D->Option (List D)}{ds es:List D}(h:env[i]? =some (.ow (.list ds)))(e:g ds=some es):FW i env β g=.nx (env.set i (.ow (.list es))) β:=by unfold FW;rw[h];dsimp only;rw[e]
def pW {i:Nat}{L:List Nat}{f:VF D}{env:En}{β β':Int}{ds:List D}{d:D}(hi:env[i]? =some (.ow (.list ds)))(hf:f (vl env) β=.ok d β')(hL:(aY L env)[i]? =some (.ow (.list ds)))(hz:ds.length<=1000):nJ i L f env β=.nx ((aY L env).set i (.ow (.list (ds ++ [d])))) β':=by
 unfold nJ
 rw[Nc (by rw[hi];rfl),hf]
 exact uI hL (Nc (Kl _ hz))
def ye {i j:Nat}{L:List Nat}{f:VF D}{env:En}{β β':Int}{ds es es':List D}{k d:D}(hi:env[i]? =some (.ow (.list ds)))(hj:env[j]? =some (.ow (.list es)))(hij:i≠j)(hf:f (vl env) β=.ok k β')(hL:aY L env=env)(hp:Ac es k=some (d,es'))(hz:ds.length<=1000):kX i j L f env β=.nx ((env.set j (.ow (.list es'))).set i (.ow (.list (ds ++ [d])))) β':=by
 unfold kX
 rw[Nc ⟨by rw[hi];rfl,by rw[hj];rfl,hij⟩,hf,hL]
 dsimp only[toS]
 rw[hj]
 dsimp only
 rw[hp]
 exact uI (by rw[NA (Ne.symm hij)];exact hi) (Nc (Kl _ hz))
def Bs {i:Nat}{Le Li:List Nat}{fe fi:VF D}{env:En}{β β1 β2:Int}{ds:List D}{d:D}{k:Int}{n:Nat}(he:fe (vl env) β=.ok d β1)(h1:(aY Le env)[i]? =some (.ow (.list ds)))(hi:fi (vl env) β1=.ok (.int k) β2)(h2:(aY (Le ++ Li) env)[i]? =some (.ow (.list ds)))(hk:rN ds.length k=some n):vC i Le Li fe fi env β=.nx ((aY (Le ++ Li) env).set i (.ow (.list (ds.set n d)))) β2:=by
 unfold vC
 rw[he]
 dsimp only[toS]
 rw[Nc (by rw[h1];rfl),hi]
 exact uI h2 (by dsimp only;rw[hk];rfl)
theorem rg {t:Tg}{ft:VF Bool}{fe:VF D}{vs:List Nv}(g:D->Bool)(h:D->D):∀{ds:List D} {β:Int},(∀d,d∈ds->∃vs1,nR t d vs=some vs1/\ft vs1 β=.ok (g d) β/\(g d=true->fe vs1 β=.ok (h d) β))->hX t ft fe vs ds β=.ok ((ds.filter g).map h) β
 | [],β,_=>rfl
 |d :: ds,β,hh=>by
  obtain⟨vs1,e1,e2,e3⟩:=hh d (Np ..)
  have ih:=rg (t:=t) (ft:=ft) (fe:=fe) (vs:=vs) g h (ds:=ds) (β:=β) λd' hd=>hh d' (Nn _ hd)
  unfold hX
  rw[e1]
  dsimp only
  rw[e2]
  dsimp only[R.okb]
  cases q:g d with
  |true=>
   rw[Nc rfl,e3 q]
   dsimp only
   rw[ih,List.filter_cons_of_pos q];rfl
  |false=>
   rw[Nk Nj,ih,List.filter_cons_of_neg (by rw[q];exact Nj)]
def xH {own:Nat}{ixs:List Nat}{t:Tg}{fi:VF (List D)}{ft:VF Bool}{fe:VF D}{vs:List Nv}{β β1:Int}{ds:List D}(g:D->Bool)(h:D->D)(hi:fi vs β=.ok ds β1)(hz:ds.length<=1000)
  (hh:∀d,d∈ds->∃vs1,nR t d (fj own ixs vs)=some vs1/\ft vs1 β1=.ok (g d) β1/\(g d=true->fe vs1 β1=.ok (h d) β1)):aM own ixs t fi ft fe vs β=.ok (.list ((ds.filter g).map h)) β1:=by
 unfold aM
 rw[hi]
 dsimp only[R.bnd]
 rw[Nc (sz _ hz),rg g h hh];rfl
def ml {own:Nat}{ixs:List Nat}{t:Tg}{fi:VF (List D)}{fe:VF D}{vs:List Nv}{β β1:Int}{ds:List D}(h:D->D)(hi:fi vs β=.ok ds β1)(hz:ds.length<=1000)
  (hh:∀d,d∈ds->∃vs1,nR t d (fj own ixs vs)=some vs1/\fe vs1 β1=.ok (h d) β1):aM own ixs t fi jm fe vs β=.ok (.list (ds.map h)) β1:=by
 rw[xH (ft:=jm) (λ_=>true) h hi hz λd hd=>let ⟨vs1,e1,e2⟩:=hh d hd;⟨vs1,e1,rfl,λ_=>e2⟩]
 rw[List.filter_eq_self.mpr (λ_ _=>rfl)]
def cm {α:Type}{own:Nat}{ixs:List Nat}{t:Tg}{fi:VF (List D)}{fe:VF D}{vs:List Nv}{β β1:Int}{l:List α}{e:α->D}(h:α->D)(hi:fi vs β=.ok (l.map e) β1)(hz:l.length<=1000)
  (hh:∀x,x∈l->∃vs1,nR t (e x) (fj own ixs vs)=some vs1/\fe vs1 β1=.ok (h x) β1):aM own ixs t fi jm fe vs β=.ok (.list (l.map h)) β1:=by
 unfold aM
 rw[hi]
 dsimp only[R.bnd]
 rw[Nc (sz _ (by rw[Nb];exact hz))]
 have key:∀m:List α,(∀x,x∈m->x∈l)->hX t jm fe (fj own ixs vs) (m.map e) β1=.ok (m.map h) β1:=by
  intro m
  induction m with
  |nil=>intro _;rfl
  |cons x m ih=>
   intro hm
   obtain⟨vs1,e1,e2⟩:=hh x (hm x (Np ..))
   rw[OB]
   unfold hX
   rw[e1]
   dsimp only
   show (R.ok true β1).okb _=_
   dsimp only[R.okb]
   rw[Nc rfl,e2]
   dsimp only
   rw[ih λy hy=>hm y (Nn _ hy)];rfl
 rw[key l λ_ h=>h];rfl
def cj {α:Type}{own:Nat}{ixs:List Nat}{t:Tg}{fi:VF (List D)}{ft:VF Bool}{fe:VF D}{vs:List Nv}{β β1:Int}{l:List α}{e:α->D}(g:α->Bool)(h:α->D)(hi:fi vs β=.ok (l.map e) β1)(hz:l.length<=1000)
  (hh:∀x,x∈l->∃vs1,nR t (e x) (fj own ixs vs)=some vs1/\ft vs1 β1=.ok (g x) β1/\(g x=true->fe vs1 β1=.ok (h x) β1)):aM own ixs t fi ft fe vs β=.ok (.list ((l.filter g).map h)) β1:=by
 unfold aM
 rw[hi]
 dsimp only[R.bnd]
 rw[Nc (sz _ (by rw[Nb];exact hz))]
 have key:∀m:List α,(∀x,x∈m->x∈l)->hX t ft fe (fj own ixs vs) (m.map e) β1=.ok ((m.filter g).map h) β1:=by
  intro m
  induction m with
  |nil=>intro _;rfl
  |cons x m ih=>
   intro hm
   obtain⟨vs1,e1,e2,e3⟩:=hh x (hm x (Np ..))
   have ih:=ih λy hy=>hm y (Nn _ hy)
   rw[OB]
   unfold hX
   rw[e1]
   dsimp only
   rw[e2]
   dsimp only[R.okb]
   cases q:g x with
   |true=>
    rw[Nc rfl,e3 q]
    dsimp only
    rw[ih,List.filter_cons_of_pos q];rfl
   |false=>
    rw[Nk Nj,ih,List.filter_cons_of_neg (by rw[q];exact Nj)]
 rw[key l λ_ h=>h];rfl
theorem jF {t:Tg}{m:SF}(Pv:Nat->En->Int->Prop):∀{ds:List D} {k:Nat} {env:En} {β:Int},Pv k env β->
  (∀i d env β,ds[i]? =some d->Pv (k + i) env β->∃env1,hW t d env=some env1/\∃env2 β2,m env1 β=.nx env2 β2/\Pv (k + i + 1) env2 β2)->∃env' β',lD t m ds env β=.nx env' β'/\Pv (k + ds.length) env' β'
 | [],k,env,β,h0,_=>⟨env,β,rfl,h0⟩
 |d :: ds,k,env,β,h0,hs=>by
  obtain⟨env1,e1,env2,β2,e2,h1⟩:=hs 0 d env β rfl h0
  obtain⟨env',β',e3,h2⟩:=jF Pv (t:=t) (m:=m) (ds:=ds) (k:=k + 1) h1 λi d' en be hi hp=>by
   have:=hs (i + 1) d' en be (by simpa using hi) (by rw[show k + (i + 1)=k + 1 + i by omega];exact hp)
   rw[show k + (i + 1) + 1=k + 1 + i + 1 by omega] at this
   exact this
  refine⟨env',β',?_,by rw[N1,show k + (ds.length + 1)=k + 1 + ds.length by omega];exact h2⟩
  unfold lD
  rw[e1]
  dsimp only
  rw[e2]
  exact e3
theorem jt {L:List Nat}{t:VF Bool}{m:SF}(Pv:Nat->En->Int->Prop)(Dn:En->Int->Prop):∀{n k:Nat} {env:En} {β:Int},k < n->Pv k env β->
  (∀k env β,Pv k env β->∃c β1,t (vl env) β=.ok c β1/\((c=false/\Dn (aY L env) β1)\/(c=true/\∃env2 β2 k',m (aY L env) β1=.nx env2 β2/\k' < k/\Pv k' env2 β2)))->∃env' β',iz L t m n env β=.nx env' β'/\Dn env' β'
 | 0,k,env,β,hk,_,_=>by omega
 |n + 1,k,env,β,hk,h0,hs=>by
  obtain⟨c,β1,e1,hc⟩:=hs k env β h0
  unfold iz
  rw[e1]
  dsimp only[toS]
  rcases hc with⟨rfl,hd⟩ | ⟨rfl,env2,β2,k',e2,hl,h1⟩
  ·exact⟨_,_,rfl,hd⟩
  ·rw[Nc rfl,e2]
   exact jt Pv Dn (n:=n) (k:=k') (by omega) h1 hs
end L2
namespace RM
open PySem L2
def qk:SF:=(a9 (eh (f1 (gv 0) (gj "int")) (f1 (f1 (gv 0) (gj "bool")) zX)))
def qb (bF:List D->FR):SF:=(a9 (eh (aw bF (aa (gv 0) ag)) (gx (cst (.int 0)) (gv 0) (gv 1) vZ tE)))
def tS (bF:List D->FR):SF:=(a9 (eh (aw bF (aa (gv 0) ag)) (gx (cst (.int 1)) (gv 0) (cst (.int 8)) vZ vZ)))
def kE (cq:List D->FR):SF:=(aJ (gZ ([] ++ ([] ++ [])) (ie (kB (fP (f1 (gv 0) (gj "tuple")))) (cz (f2 (f1 (gv 0) bX) (cst (.int 2)) (cJ true))))
 (a9 (cst (.bool false)))
 jh)
 (a9 (eh (aw cq (aa (f2 (gv 0) (cst (.int 0)) aV) (aa (gv 1) ag))) (aw cq (aa (f2 (gv 0) (cst (.int 1)) aV) (aa (gv 1) ag))))))
def ja:SF:=(o4 (aM 1 [0] (.nm 0) (cD (f2 (gv 0) (gv 0) dD)) jm (bY (aa (f2 (gv 0) (gv 1) Hl) (aa (f2 (gv 0) (gv 1) lF) ag)))))
def qe:SF:=(a9 (f1 (aM 2 [] (.two 0 1) (bL (gv 0)) jm (f2 (gv 0) (gv 1) (cJ false))) (bo λbs=>bs.any id)))
def jD (jn cL kC gK:List D->FR):SF:=(aJ (gZ ([] ++ ([] ++ [])) (ie (kB (fP (f1 (gv 0) (gj "tuple")))) (cz (f2 (f1 (gv 0) bX) (cst (.int 2)) (cJ true))))
 (a9 (cst (.bool false)))
 jh)
 (aJ (bO 1 ([] ++ []) (f2 (gv 0) (cst (.int 0)) aV))
 (aJ (bO 2 ([] ++ []) (f2 (gv 0) (cst (.int 1)) aV))
 (aJ (gZ (([1] ++ []) ++ []) (ie (kB (fP (aw jn (aa (gv 1) ag)))) (kB (fP (f1 (gv 2) (gj "tuple")))))
 (a9 (cst (.bool false)))
 jh)
 (aJ (gZ ([] ++ [1]) (kB (fP (f1 (aM 1 [1] (.nm 0) (bL (gv 2)) jm (aw cL (aa (gv 0) (aa (gv 1) ag)))) (bo λbs=>bs.all id))))
 (a9 (cst (.bool false)))
 jh)
 (a9 (eh (f2 (gv 2) (aw kC (aa (gv 1) (aa (gv 2) ag))) (cJ false)) (f1 (aw gK (aa (gv 2) ag)) zX))))))))
def o6:SF:=(a9 (eh (f2 (gv 1) (gv 2) (cJ true)) (eh (f2 (bY (aa (gv 1) (aa (gv 2) ag))) (f2 (gv 0) (cst (.int 1)) aV) (lH true)) (f2 (bY (aa (gv 2) (aa (gv 1) ag))) (f2 (gv 0) (cst (.int 1)) aV) (lH true)))))
def oh:SF:=(a9 (eh (f2 (gv 1) (gv 2) (cJ true)) (eh (f2 (bY (aa (gv 1) (aa (gv 2) ag))) (f2 (gv 0) (cst (.int 1)) aV) (lH true)) (f2 (bY (aa (gv 2) (aa (gv 1) ag))) (f2 (gv 0) (cst (.int 1)) aV) (lH true)))))
def pU (aP df b8:List D->FR):SF:=(aJ (mT ([0] ++ []) (aw aP (aa (gv 0) ag)))
 (o4 (aM 2 [0] (.two 0 1) (bL (aw df (aa (f2 (gv 0) (cst (.int 0)) aV) ag))) (fP (aw b8 (aa (gv 2) (aa (gv 0) (aa (gv 1) ag))))) (bY (aa (gv 0) (aa (gv 1) ag))))))
def la:SF:=(aJ (bO 3 ([] ++ []) (f2 (gv 0) (cst (.int 1)) aV))
 (aJ (gZ ([] ++ [2]) (kB (fP (f1 (aM 2 [1,2,3] (.two 0 1) (bL (gv 3)) (cz (f2 (gv 1) (gv 2) (cJ false))) (f2 (bY (aa (gv 0) (aa (gv 3) ag))) (gv 4) (lH false))) (bo λbs=>bs.all id))))
 (a9 (cst (.bool false)))
 jh)
 (a9 (f1 (aM 2 [2,1,3] (.two 0 1) (bL (gv 3)) (cz (f2 (gv 0) (gv 2) (cJ false))) (f2 (bY (aa (gv 3) (aa (gv 1) ag))) (gv 4) (lH false))) (bo λbs=>bs.all id)))))
def mS (mG gF:List D->FR):SF:=(o4 (aM 2 [0] (.two 0 1) (bL (aw mG (aa (gv 0) ag))) (fP (aw gF (aa (gv 2) (aa (gv 0) (aa (gv 1) ag))))) (bY (aa (gv 0) (aa (gv 1) ag)))))
def pO:D->Bool
 | .int _=>true
 |_=>false
def jC:List D->FR
 | [d]=>if fu d=true then .bad else .ok (.bool (pO d)) false
 |_=>.bad
def l8 {d:D}(h:fu d=false):jC [d]=.ok (.bool (pO d)) false:=Nk (by rw[h];exact Nj)
def zw (ds:List D)(h:jC ds≠.bad):aS 1 1 qk ds=jC ds:=by
 unfold jC at h
 split at h
 ·rename_i d
  cases q:fu d with
  |true=>rw[q] at h;exact absurd rfl h
  |false=>
   rw[l8 q]
   have e1:gj "int" d=some (.bool (Cb d "int")):=by unfold gj;rw[q];rfl
   have e2:gj "bool" d=some (.bool (Cb d "bool")):=by unfold gj;rw[q];rfl
   show fin (a9 (eh (f1 (gv 0) (gj "int")) (f1 (f1 (gv 0) (gj "bool")) zX)) [.fz d] 0)=_
   unfold a9 eh f1 gv
   simp only[uX,yy,yG,List.getElem?_cons_zero,yh,uJ,lS,e1,e2]
   cases d <;> rfl
 ·exact absurd rfl h
def l4 (d:D)(n:Int):Bool:=match d with
 | .int i=>decide (0<=i/\i < n)
 |_=>false
def dN:List D->FR
 | [d,.int n]=>if fu d=true then .bad else .ok (.bool (l4 d n)) false
 |_=>.bad
def p6 {d:D}{n:Int}(h:fu d=false):dN [d,.int n]=.ok (.bool (l4 d n)) false:=Nk (by rw[h];exact Nj)
def lW {i lo n:Int}{vs:List Nv}{β:Int}{fa fb fc:VF D}{g':D->D->Option D}{q:Bool}(ha:fa vs β=.ok (.int lo) β)(hb:fb vs β=.ok (.int i) β)(hc:fc vs β=.ok (.int n) β)(hq:g' (.int i) (.int n)=some (.bool q)):gx fa fb fc vZ g' vs β=.ok (.bool (decide (lo<=i) && q)) β:=by
 unfold gx
 rw[ha];dsimp only[R.bnd];rw[hb];dsimp only[R.bnd]
 show (match (some (PyData.bool (decide (lo<=i))):Option D) with
  |some (.bool true)=>_
  |some (.bool false)=>_
  |_=>_)=_
 by_cases h:lo<=i
 ·rw[Ni h]
  dsimp only
  rw[hc]
  dsimp only[R.bnd]
  rw[hq];rfl
 ·rw[Nx h];rfl
def EH (ds:List D)(h:dN ds≠.bad):aS 2 2 (qb jC) ds=dN ds:=by
 unfold dN at h
 split at h
 ·rename_i d n
  cases q:fu d with
  |true=>rw[q] at h;exact absurd rfl h
  |false=>
   rw[p6 q]
   show fin (a9 (eh (aw jC (aa (gv 0) ag)) (gx (cst (.int 0)) (gv 0) (gv 1) vZ tE)) [.fz d,.fz (.int n)] 0)=_
   unfold a9 eh aw
   simp only[uX,yy,yG,dh,zQ,yY,List.getElem?_cons_zero,yh,uJ,lS,l8 q]
   cases d with
   |int i=>
    show fin (toS (gx (cst (.int 0)) (gv 0) (gv 1) vZ tE [.da (.int i),.da (.int n)] 0) _)=_
    rw[lW (lo:=0) (i:=i) (n:=n) rfl rfl rfl rfl]
    show FR.ok (.bool (decide (0<=i) && decide (i < n))) false=.ok (.bool (decide (0<=i/\i < n))) false
    rw[Bool.decide_and]
   |_=>rfl
 ·exact absurd rfl h
def Gb (d:D):Bool:=match d with
 | .int i=>decide (1<=i/\i<=8)
 |_=>false
def mQ:List D->FR
 | [d]=>if fu d=true then .bad else .ok (.bool (Gb d)) false
 |_=>.bad
def BE {d:D}(h:fu d=false):mQ [d]=.ok (.bool (Gb d)) false:=Nk (by rw[h];exact Nj)
def Hf (ds:List D)(h:mQ ds≠.bad):aS 1 1 (tS jC) ds=mQ ds:=by
 unfold mQ at h
 split at h
 ·rename_i d
  cases q:fu d with
  |true=>rw[q] at h;exact absurd rfl h
  |false=>
   rw[BE q]
   show fin (a9 (eh (aw jC (aa (gv 0) ag)) (gx (cst (.int 1)) (gv 0) (cst (.int 8)) vZ vZ)) [.fz d] 0)=_
   unfold a9 eh aw
   simp only[uX,yy,yG,dh,zQ,yY,List.getElem?_cons_zero,yh,uJ,lS,l8 q]
   cases d with
   |int i=>
    show fin (toS (gx (cst (.int 1)) (gv 0) (cst (.int 8)) vZ vZ [.da (.int i)] 0) _)=_
    rw[lW (lo:=1) (i:=i) (n:=8) rfl rfl rfl rfl]
    show FR.ok (.bool (decide (1<=i) && decide (i<=8))) false=.ok (.bool (decide (1<=i/\i<=8))) false
    rw[Bool.decide_and]
   |_=>rfl
 ·exact absurd rfl h
def pairF:List D->FR
 | [d,.int n]=>(match qi d with
  |some p=>.ok (.bool (decide ((0<=p.1/\p.1 < n)/\(0<=p.2/\p.2 < n)))) false
  |none=>.bad)
 |_=>.bad
def Dx (p:Pr)(n:Int):pairF [ao p,.int n]=.ok (.bool (decide ((0<=p.1/\p.1 < n)/\(0<=p.2/\p.2 < n)))) false:=rfl
def Ig (ds:List D)(h:pairF ds≠.bad):aS 2 2 (kE dN) ds=pairF ds:=by
 unfold pairF at h
 split at h
 ·rename_i d n
  cases q:qi d with
  |none=>rw[q] at h;exact absurd rfl h
  |some p=>
   obtain rfl:=vK q
   rw[Dx]
   obtain⟨a,b⟩:=p
   show fin (toS (eh (aw dN (aa (f2 (gv 0) (cst (.int 0)) aV) (aa (gv 1) ag))) (aw dN (aa (f2 (gv 0) (cst (.int 1)) aV) (aa (gv 1) ag))) [.da (.tuple [.int a,.int b]),.da (.int n)] 0) λd β'=>.rt d false β')=_
   have e1:aw dN (aa (f2 (gv 0) (cst (.int 0)) aV) (aa (gv 1) ag)) [.da (.tuple [.int a,.int b]),.da (.int n)] 0=.ok (.bool (decide (0<=a/\a < n))) 0:=rfl
   have e2:aw dN (aa (f2 (gv 0) (cst (.int 1)) aV) (aa (gv 1) ag)) [.da (.tuple [.int a,.int b]),.da (.int n)] 0=.ok (.bool (decide (0<=b/\b < n))) 0:=rfl
   unfold eh
   rw[e1]
   dsimp only[R.bnd]
   by_cases c:0<=a/\a < n
   ·rw[Ni c,e2]
    show FR.ok (.bool (decide (0<=b/\b < n))) false=.ok (.bool (decide ((0<=a/\a < n)/\(0<=b/\b < n)))) false
    simp[c]
   ·rw[Nx c]
    show FR.ok (.bool false) false=.ok (.bool (decide ((0<=a/\a < n)/\(0<=b/\b < n)))) false
    simp[c]
 ·exact absurd rfl h
def ah (n:Nat)(l:List Pr):D:=.tuple [.int n,.tuple (l.map ao)]
open Classical in
noncomputable def sX (f:Nat->List Pr->FR):D->FR:=λd=>if h:∃nl:Nat×List Pr,d=ah nl.1 nl.2/\OM.Ord nl.1 nl.2 then f (Classical.choose h).1 (Classical.choose h).2 else .bad
def zW {p q:Pr}(h:ao p=ao q):p=q:=by
 obtain⟨a,b⟩:=p
 obtain⟨c,d⟩:=q
 unfold ao at h
 simp at h
 rw[h.1,h.2]
theorem o8:∀{l m:List Pr},l.map ao=m.map ao->l=m
 | [],[],_=>rfl
 | [],_ :: _,h=>by cases h
 |_ :: _,[],h=>by cases h
 |p :: l,q :: m,h=>by
  simp only[OB,List.cons.injEq] at h
  rw[zW h.1,o8 h.2]
def B3 {n m:Nat}{l k:List Pr}(h:ah n l=ah m k):n=m/\l=k:=by
 unfold ah at h
 simp only[PyData.tuple.injEq,List.cons.injEq,int.injEq,and_true] at h
 exact⟨by omega,o8 h.2⟩
def wm {f:Nat->List Pr->FR}{n:Nat}{l:List Pr}(O:OM.Ord n l):sX f (ah n l)=f n l:=by
 unfold sX
 have h:∃nl:Nat×List Pr,ah n l=ah nl.1 nl.2/\OM.Ord nl.1 nl.2:=⟨(n,l),rfl,O⟩
 rw[dif_pos h]
 obtain⟨e,_⟩:=Classical.choose_spec h
 obtain⟨e1,e2⟩:=B3 e
 rw[<-e1,<-e2]
def vB {f:Nat->List Pr->FR}{d:D}(h:sX f d≠.bad):∃n l,d=ah n l/\OM.Ord n l:=by
 unfold sX at h
 by_cases q:∃nl:Nat×List Pr,d=ah nl.1 nl.2/\OM.Ord nl.1 nl.2
 ·obtain⟨nl,e,O⟩:=q;exact⟨nl.1,nl.2,e,O⟩
 ·rw[dif_neg q] at h;exact absurd rfl h
noncomputable def dY:List D->FR
 | [.int n,d]=>(match pN d with
  |some ds=>(match jH ds with
   |some ps=>(open Classical in if 1<=n/\n<=8/\OM.Wn n.toNat ps then .ok (.tuple ((OM.i6 n.toNat (OM.Tr (OM.Mem ps))).map ao)) false else .bad)
   |none=>.bad)
  |none=>.bad)
 |_=>.bad
def BJ {n:Nat}{ps:List Pr}(h1:1<=n)(h8:n<=8)(w:OM.Wn n ps):dY [.int n,.tuple (ps.map ao)]=.ok (.tuple ((OM.i6 n (OM.Tr (OM.Mem ps))).map ao)) false:=by
 unfold dY
 simp only[pN,jr]
 rw[Nc ⟨by omega,by omega,by rw[NP];exact w⟩,NP]
def lB:List D->FR
 | [.tuple ds]=>(match jH ds with
  |some ps=>if ps.length<=1000 then .ok (.bool (ps.any λp=>decide (p.1=p.2))) false else .bad
  |none=>.bad)
 |_=>.bad
theorem eQ {α:Type}(f:α->Bool):∀l:List α,lV (l.map λx=>PyData.bool (f x))=some (l.map f)
 | []=>rfl
 |x :: l=>by
  show (lV (l.map λx=>PyData.bool (f x))).map (f x :: ·)=_
  rw[eQ f l];rfl
def HC (ds:List D)(h:lB ds≠.bad):aS 1 1 qe ds=lB ds:=by
 unfold lB at h
 split at h
 ·rename_i ds
  cases q:jH ds with
  |none=>rw[q] at h;exact absurd rfl h
  |some ps=>
   rw[q] at h
   dsimp only at h
   by_cases hz:ps.length<=1000
   case neg=>rw[Nk hz] at h;exact absurd rfl h
   obtain rfl:=mj q
   have e:lB [.tuple (ps.map ao)]=.ok (.bool (ps.any λp=>decide (p.1=p.2))) false:=by
    unfold lB;simp only[jr];rw[Nc hz]
   rw[e]
   have ec:aM 2 [] (.two 0 1) (bL (gv 0)) jm (f2 (gv 0) (gv 1) (cJ false)) [.da (.tuple (ps.map ao))] 0=.ok (.list (ps.map λp=>PyData.bool (decide (p.1=p.2)))) 0:=by
    exact cm (l:=ps) (e:=ao) (λp=>PyData.bool (decide (p.1=p.2))) rfl hz λp hp=>⟨_,rfl,rfl⟩
   show fin (toS ((aM 2 [] (.two 0 1) (bL (gv 0)) jm (f2 (gv 0) (gv 1) (cJ false)) [.da (.tuple (ps.map ao))] 0).bnd λx β1=>R.of (bo (λbs=>bs.any id) x) β1) λd β'=>.rt d false β')=_
   rw[ec]
   simp only[lS,bo]
   rw[eQ]
   simp[fin,List.any_map]
 ·exact absurd rfl h
def ot (p:Pr):SeqAt.shaped (ao p)=true:=rfl
theorem zA:∀l:List Pr,PyData.canLayAll0 (l.map ao)=true
 | []=>rfl
 |p :: l=>by
  show ((ao p).canLay0 && PyData.canLayAll0 (l.map ao))=true
  rw[zA l];rfl
theorem zU:∀l:List Pr,PyData.depthAll (l.map ao)<=1
 | []=>by show (0:Nat)<=1;omega
 |p :: l=>by
  show max (ao p).depth (PyData.depthAll (l.map ao))<=1
  have h1:(ao p).depth=1:=by simp[ao,PyData.depth,PyData.depthAll]
  have h2:=zU l
  omega
def qm (l:List Pr):SeqAt.shaped (.tuple (l.map ao))=true:=by
 unfold SeqAt.shaped
 have h1:(PyData.tuple (l.map ao)).canLay0=true:=by simp only[PyData.canLay0];exact zA l
 have h2:(PyData.tuple (l.map ao)).depth<=64:=by simp only[PyData.depth];have:=zU l;omega
 rw[h1,Ni h2];rfl
def Bn (p q:Pr):PyData.eqv (ao p) (ao q)=decide (p=q):=by
 obtain⟨a,b⟩:=p
 obtain⟨c,d⟩:=q
 simp only[ao,PyData.eqv,PyData.eqvAll,Bool.and_true]
 rw[NS]
 simp
theorem yS:∀l m:List Pr,PyData.eqvAll (l.map ao) (m.map ao)=decide (l=m)
 | [],[]=>rfl
 | [],_ :: _=>rfl
 |_ :: _,[]=>rfl
 |p :: l,q :: m=>by
  show (PyData.eqv (ao p) (ao q) && PyData.eqvAll (l.map ao) (m.map ao))=_
  rw[Bn,yS l m,NS]
  simp
def uE {n:Nat}{l:List Pr}(O:OM.Ord n l):l.length < 64:=by
 have h8:=O.hi
 have e:=O.closed
 by_cases h:l.length < 64
 ·exact h
 ·exfalso
  have h1:l.length<=n * n:=by rw[<-e];exact OM.BM _ _
  have h2:n * n<=64:=OK h8 h8
  have hn:n=8:=by
   by_cases h7:n<=7
   ·have:n * n<=7 * 7:=OK h7 h7
    omega
   ·omega
  have hlen:l.length=n * n:=by subst hn;omega
  have hg:l=OM.dq n:=by
   refine OM.sub_eq O.ris (OM.ko n) (λx hx=>OM.bV.mpr (O.wn x hx)) ?_
   rw[hlen];unfold OM.dq;simp
  have:((0:Int),(0:Int))∈l:=by rw[hg];exact OM.bV.mpr ⟨⟨by omega,by omega⟩,by omega,by omega⟩
  exact O.irr 0 this
def Cg {n:Nat}(h1:1<=n)(h8:n<=8):mQ [.int n]=.ok (.bool true) false:=by
 rw[BE rfl]
 show FR.ok (.bool (decide (1<=(n:Int)/\(n:Int)<=8))) false=_
 rw[Ni (by omega)]
def Cw (neg:Bool)(l m:List Pr):cJ neg (.tuple (l.map ao)) (.tuple (m.map ao))=some (.bool (if neg then !decide (l=m) else decide (l=m))):=by
 unfold cJ
 rw[qm,qm]
 simp only[Bool.and_self,Ol,PyData.eqv,yS]
def ER {n:Nat}{l:List Pr}(O:OM.Ord n l):lB [.tuple (l.map ao)]=.ok (.bool false) false:=by
 have hl:=uE O
 unfold lB
 simp only[jr]
 rw[Nc (by omega)]
 have:(l.any λp=>decide (p.1=p.2))=false:=by
  rw[List.any_eq_false]
  intro p hp
  simp only[NC]
  intro e
  obtain⟨a,b⟩:=p
  simp only at e
  subst e
  exact O.irr a hp
 rw[this]
def Ak {n:Nat}{l:List Pr}(O:OM.Ord n l):aS 3 1 (jD mQ pairF dY lB) [ah n l]=.ok (.bool true) false:=by
 have hl:=uE O
 show fin (jD mQ pairF dY lB [.fz (ah n l),.no,.no] 0)=_
 unfold jD
 rw[aL (env':=[.fz (ah n l),.no,.no]) (β':=0) (by rfl)]
 rw[aL (env':=[.fz (ah n l),.fz (.int n),.no]) (β':=0) (by rfl)]
 rw[aL (env':=[.fz (ah n l),.fz (.int n),.fz (.tuple (l.map ao))]) (β':=0) (by rfl)]
 have e4:aw mQ (aa (gv 1) ag) [.da (ah n l),.da (.int n),.da (.tuple (l.map ao))] 0=.ok (.bool true) 0:=au rfl (Cg O.lo O.hi)
 rw[aL (env':=[.fz (ah n l),.fz (.int n),.fz (.tuple (l.map ao))]) (β':=0) ?h4]
 case h4=>
  refine iK ?_
  show ie (kB (fP (aw mQ (aa (gv 1) ag)))) _ [.da (ah n l),.da (.int n),.da (.tuple (l.map ao))] 0=_
  rw[pQ,yI,xZ,e4]
  rfl
 have e5:aM 1 [1] (.nm 0) (bL (gv 2)) jm (aw pairF (aa (gv 0) (aa (gv 1) ag))) [.da (ah n l),.da (.int n),.da (.tuple (l.map ao))] 0=.ok (.list (l.map λ_=>PyData.bool true)) 0:=by
  refine cm (l:=l) (e:=ao) (λ_=>PyData.bool true) rfl (by omega) λp hp=>⟨_,rfl,?_⟩
  refine au (b:=false) (ds:=[ao p,.int n]) rfl ?_
  rw[Dx,Ni (by have:=O.wn p hp;exact this)]
 rw[aL (env':=[.fz (ah n l),.fz (.int n),.fz (.tuple (l.map ao))]) (β':=0) ?h5]
 case h5=>
  refine iK ?_
  show kB (fP (f1 (aM 1 [1] (.nm 0) (bL (gv 2)) jm (aw pairF (aa (gv 0) (aa (gv 1) ag)))) (bo λbs=>bs.all id))) [.da (ah n l),.da (.int n),.da (.tuple (l.map ao))] 0=_
  rw[yI,xZ,fo (d:=.bool true) e5 (by simp only[bo];rw[eQ];simp)]
  rfl
 have e6:aw dY (aa (gv 1) (aa (gv 2) ag)) [.da (ah n l),.da (.int n),.da (.tuple (l.map ao))] 0=.ok (.tuple (l.map ao)) 0:=au rfl (by rw[BJ O.lo O.hi O.wn,O.closed])
 have e7:aw lB (aa (gv 2) ag) [.da (ah n l),.da (.int n),.da (.tuple (l.map ao))] 0=.ok (.bool false) 0:=au rfl (ER O)
 show fin (toS (eh (f2 (gv 2) (aw dY (aa (gv 1) (aa (gv 2) ag))) (cJ false)) (f1 (aw lB (aa (gv 2) ag)) zX) [.da (ah n l),.da (.int n),.da (.tuple (l.map ao))] 0) _)=_
 unfold eh
 rw[az (d:=.bool true) (x:=.tuple (l.map ao)) rfl e6 (by rw[Cw];simp)]
 dsimp only[R.bnd]
 rw[fo (d:=.bool true) e7 rfl]
 rfl
noncomputable def jJ:List D->FR
 | [d]=>sX (λ_ _=>.ok (.bool true) false) d
 |_=>.bad
def tu {n:Nat}{l:List Pr}(O:OM.Ord n l):jJ [ah n l]=.ok (.bool true) false:=by simp only[jJ];exact wm O
def xt (ds:List D)(h:jJ ds≠.bad):aS 3 1 (jD mQ pairF dY lB) ds=jJ ds:=by
 unfold jJ at h
 split at h
 ·obtain⟨n,l,rfl,O⟩:=vB h
  rw[Ak O,tu O]
 ·exact absurd rfl h
noncomputable def jA:List D->FR
 | [d]=>sX (λ_ _=>.ok .none false) d
 |_=>.bad
def qN {n:Nat}{l:List Pr}(O:OM.Ord n l):jA [ah n l]=.ok .none false:=by simp only[jA];exact wm O
abbrev dH (ns:List Int):D:=.dict [(.none,.list (ns.map int))]
def rL {i j:Int}(h: -(2 ^ 64) < i/\i < 2 ^ 64):dD (.int i) (.int j)=some (.int (i * j)):=Nc (by dsimp only;rw[Ni h.1,Ni h.2];rfl)
def BL {i j:Int}(h: -(2 ^ 64) < j/\j < 2 ^ 64):dD (.int i) (.int j)=some (.int (i * j)):=Nc (by dsimp only;rw[Ni h.1,Ni h.2,Bool.and_self,Bool.or_true])
def oo {i j:Int}(h:0 < j):lF (.int i) (.int j)=some (.int (i % j)):=Nc (Ni h)
def FT {i j:Int}(h:0 < j)(h2:j < 1073741824):Hl (.int i) (.int j)=some (.int (i / j)):=Nc (by dsimp only;rw[Ni h,Ni h2];rfl)
theorem mC {α β:Type}(f:α->β)(l:List α)(i:Int):lG (l.map f) i=(lG l i).map f:=by
 unfold lG
 rw[Nb]
 cases rN l.length i with
 |none=>rfl
 |some j=>simp
def oX {α:Type}{l:List α}{k:Nat}(h:k < l.length):lG l (k:Int)=some l[k]:=gm (M9 h)
def Iq {fa fb:VF D}{vs:List Nv}{β β1 β2:Int}{i j:Int}(h:fa vs β=.ok (.int i) β1)(h':fb vs β1=.ok (.int j) β2):cz (f2 fa fb tE) vs β=.ok (decide (i < j)) β2:=cO _ _ _ _ (az h h' rfl)
def cG {neg:Bool}{fa fb:VF D}{vs:List Nv}{β β1 β2:Int}{i j:Int}(h:fa vs β=.ok (.int i) β1)(h':fb vs β1=.ok (.int j) β2):cz (f2 fa fb (cJ neg)) vs β=.ok (if neg then !decide (i=j) else decide (i=j)) β2:=by
 refine cO _ _ _ _ (az h h' ?_)
 cases neg <;> rfl
theorem lay_ints:∀ns:List Int,PyData.canLayAll0 (ns.map int)=true
 | []=>rfl
 |n :: ns=>by
  show ((int n).canLay0 && PyData.canLayAll0 (ns.map int))=true
  rw[lay_ints ns];rfl
theorem wN:∀ns:List Int,PyData.depthAll (ns.map int)=0
 | []=>rfl
 |n :: ns=>by
  show max (int n).depth (PyData.depthAll (ns.map int))=0
  rw[wN ns];rfl
def shaped_ints (ns:List Int):SeqAt.shaped (.list (ns.map int))=true:=by
 unfold SeqAt.shaped
 have h1:(PyData.list (ns.map int)).canLay0=true:=by simp only[PyData.canLay0];exact lay_ints ns
 have h2:(PyData.list (ns.map int)).depth<=64:=by simp only[PyData.depth];rw[wN];omega
 rw[h1,Ni h2];rfl
theorem we:∀l m:List Int,PyData.eqvAll (l.map int) (m.map int)=decide (l=m)
 | [],[]=>rfl
 | [],_ :: _=>rfl
 |_ :: _,[]=>rfl
 |p :: l,q :: m=>by
  show ((p == q) && PyData.eqvAll (l.map int) (m.map int))=_
  rw[we l m,NS]
  simp
def CY (neg:Bool)(l m:List Int):cJ neg (.list (l.map int)) (.list (m.map int))=some (.bool (if neg then !decide (l=m) else decide (l=m))):=by
 unfold cJ
 rw[shaped_ints,shaped_ints]
 simp only[Bool.and_self,Ol,PyData.eqv,we]
theorem qM {α:Type}:∀{l:List α} {k:Nat} {x:α},l[k]? =some x->(x :: l.eraseIdx k).Perm l
 | [],_,_,h=>by simp at h
 |y :: l,0,x,h=>by simp at h;subst h;exact List.Perm.refl _
 |y :: l,k + 1,x,h=>by
  have h:l[k]? =some x:=by simpa using h
  have ih:=qM h
  show (x :: y :: l.eraseIdx k).Perm (y :: l)
  exact (List.Perm.swap y x _).trans (ih.cons y)
theorem tf {α β:Type}(f:α->β):∀(l:List α) (k:Nat),(l.map f).eraseIdx k=(l.eraseIdx k).map f
 | [],_=>rfl
 |_ :: _,0=>rfl
 |x :: l,k + 1=>by simp[tf f l k]
def Jo {n:Nat}{l:List Pr}(h8:n<=8)(w:OM.Wn n l):OM.i6 8 (OM.Mem l)=OM.i6 n (OM.Mem l):=by
 refine OM.kL (OM.jq _ _) (OM.jq _ _) λx=>?_
 rw[OM.fk,OM.fk]
 constructor
 ·rintro⟨_,h⟩;exact⟨w x h,h⟩
 ·rintro⟨h1,h⟩;exact⟨⟨⟨h1.1.1,by omega⟩,h1.2.1,by omega⟩,h⟩
def IU {n:Nat}{l:List Pr}(h8:n<=8)(w:OM.Wn n l):l.all IZ=true:=by
 rw[NQ]
 intro p hp
 have:=w p hp
 unfold IZ
 rw[Ni this.1.1,Ni (by omega:p.1 < 8),Ni this.2.1,Ni (by omega:p.2 < 8)];rfl
def p4 {a b:List D}(h:a.length + b.length<=10000):ic (.list a) (.list b)=some (.list (a ++ b)):=Nc (by rw[NV];omega)
theorem l6 {α:Type}:∀{l:List α} {i j:Nat} {x:α},l.Nodup->l[i]? =some x->l[j]? =some x->i=j
 | [],_,_,_,_,h,_=>by simp at h
 |y :: l,0,0,_,_,_,_=>rfl
 |y :: l,0,j + 1,x,nd,h1,h2=>by
  simp at h1
  subst h1
  exact absurd (Nw (by simpa using h2)) (N2.mp nd).1
 |y :: l,i + 1,0,x,nd,h1,h2=>by
  simp at h2
  subst h2
  exact absurd (Nw (by simpa using h1)) (N2.mp nd).1
 |y :: l,i + 1,j + 1,x,nd,h1,h2=>by
  rw[l6 (l:=l) (i:=i) (j:=j) (N2.mp nd).2 (by simpa using h1) (by simpa using h2)]
def iu (n:Nat):List Int:=(List.range n).map λ(k:Nat)=>(k:Int)
def kJ (n:Nat):(iu n).length=n:=by unfold iu;simp
def dS {n:Nat}{x:Int}:x∈iu n↔0<=x/\x < n:=by
 unfold iu
 rw[NN]
 constructor
 ·rintro⟨k,hk,rfl⟩
  have:=NR.mp hk
  omega
 ·intro h
  exact⟨x.toNat,NR.mpr (by omega),by omega⟩
def oA (n:Nat):(iu n).Nodup:=by
 unfold iu
 rw[Om,O0]
 exact (Om.mp List.nodup_range).imp λ{a b} h e=>h (by omega)
def sQ (n:Nat):dg 0 n=(iu n).map int:=by
 unfold dg iu
 rw[Pn]
 refine Oz λk _=>?_
 show int (0 + (k:Int))=_
 rw[Og];rfl
theorem ip {lo:Int}{n i:Nat}{d:D}(h:(dg lo n)[i]? =some d):i < n/\d=.int (lo + i):=by
 unfold dg at h
 rw[Nm] at h
 cases q:(List.range n)[i]? with
 |none=>rw[q] at h;cases h
 |some j=>
  rw[q] at h
  cases h
  obtain⟨hi,ej⟩:=Ng.mp q
  rw[Oa] at hi
  rw[List.getElem_range] at ej
  subst ej
  exact⟨hi,rfl⟩
def o7 {n:Nat}(h:n<=1000):hJ (.int n)=some (.list ((iu n).map int)):=by
 unfold hJ
 dsimp only
 rw[Nc ⟨by omega,by omega⟩,NP,sQ]
def cU {fa:VF D}{vs:List Nv}{β β1:Int}{n:Nat}(h:fa vs β=.ok (.int n) β1)(hn:n<=1000):cD fa vs β=.ok (dg 0 n) β1:=by
 unfold cD
 rw[h]
 simp only[lS]
 rw[Nc (oO (by omega) (by omega)),NP]
def Bz {fa fb:VF D}{vs:List Nv}{β β1 β2:Int}{i j:Int}(h:fa vs β=.ok (.int i) β1)(h':fb vs β1=.ok (.int j) β2)(hi:0<=i/\i<=1000)(hj:0<=j/\j<=1000):zy fa fb vs β=.ok (dg i (j - i).toNat) β2:=by
 unfold zy
 rw[h]
 simp only[lS]
 rw[h']
 simp only[lS]
 rw[Nc (by rw[oO (by omega) (by omega),oO (by omega) (by omega)];rfl)]
def ig {t:Tg}{L:List Nat}{fi:VF (List D)}{m:SF}{env:En}{β β1:Int}{ds:List D}(h:fi (vl env) β=.ok ds β1):gE t L fi m env β=lD t m ds (aY L env) β1:=by unfold gE;rw[h];rfl
def nW {m:Nat}(h:1<=m)(h2:m<=1000)(β:Int):∃j:Nat,j < m/\eV [.int m] β=.ok (.int (j:Int)) false (β / m):=by
 refine⟨(β % m).toNat,?_,?_⟩
 ·have h0:=OY β (b:=(m:Int)) (by omega)
  have h3:=OZ β (b:=(m:Int)) (by omega)
  omega
 ·rw[tX (by omega) (by omega)]
  have h0:=OY β (b:=(m:Int)) (by omega)
  rw[show ((β % m).toNat:Int)=β % m by omega]
theorem ue (p:Pr):∀l:List Pr,((l.map ao).any λe=>PyData.eqv e (ao p))=decide (p∈l)
 | []=>rfl
 |q :: l=>by
  rw[OB,OC,ue p l,Bn,NS]
  simp only[Oj,NC,Nh]
  exact⟨λh=>h.imp Eq.symm id,λh=>h.imp Eq.symm id⟩
def zi (l:List Pr):(l.map ao).all SeqAt.shaped=true:=by
 rw[NQ]
 intro d hd
 obtain⟨p,_,rfl⟩:=NN.mp hd
 exact ot p
def mK (neg:Bool)(p:Pr)(l:List Pr):lH neg (ao p) (.tuple (l.map ao))=some (.bool (if neg then !decide (p∈l) else decide (p∈l))):=by
 unfold lH
 simp only[pN,ot,zi,Bool.and_self,Ol,ue]
def y0 (neg:Bool)(p:Pr)(l:List Pr):lH neg (ao p) (.list (l.map ao))=some (.bool (if neg then !decide (p∈l) else decide (p∈l))):=by
 unfold lH
 simp only[pN,ot,zi,Bool.and_self,Ol,ue]
def nQ (neg:Bool)(i j:Int):cJ neg (.int i) (.int j)=some (.bool (if neg then !decide (i=j) else decide (i=j))):=rfl
theorem pP {fa fb:VF D}{vs:List Nv}{β:Int}{a b:Bool}(h:fa vs β=.ok (.bool a) β)(h':fb vs β=.ok (.bool b) β):eh fa fb vs β=.ok (.bool (a && b)) β:=by
 unfold eh
 rw[h]
 dsimp only[R.bnd]
 cases a with
 |true=>exact h'
 |false=>rfl
def fw {fa fb:VF D}{vs:List Nv}{β:Int}{a b:Int}(h:fa vs β=.ok (.int a) β)(h':fb vs β=.ok (.int b) β):bY (aa fa (aa fb ag)) vs β=.ok (ao (a,b)) β:=by
 refine j0 (ds:=[.int a,.int b]) ?_ (by simp)
 rw[dh,h]
 dsimp only[R.bnd]
 rw[dh,h'];rfl
def zR (l:List Pr)(p:Pr):Bool:= !decide (p.1=p.2) && (!decide ((p.1,p.2)∈l) && !decide ((p.2,p.1)∈l))
def Lk {n:Nat}{l:List Pr}{fa:VF D}{vs:List Nv}{β:Int}(h:fa vs β=.ok (ah n l) β):f2 fa (cst (.int 1)) aV vs β=.ok (.tuple (l.map ao)) β:=az h rfl rfl
def MN {n:Nat}{l:List Pr}{fa:VF D}{vs:List Nv}{β:Int}(h:fa vs β=.ok (ah n l) β):f2 fa (cst (.int 0)) aV vs β=.ok (.int n) β:=az h rfl rfl
def Ie:List D->FR:=aS 3 3 o6
def IS:List D->FR:=aS 3 3 oh
def GW (n:Nat)(l:List Pr)(a b:Int):Ie [ah n l,.int a,.int b]=.ok (.bool (zR l (a,b))) false:=by
 show fin (toS (eh (f2 (gv 1) (gv 2) (cJ true)) (eh (f2 (bY (aa (gv 1) (aa (gv 2) ag))) (f2 (gv 0) (cst (.int 1)) aV) (lH true)) (f2 (bY (aa (gv 2) (aa (gv 1) ag))) (f2 (gv 0) (cst (.int 1)) aV) (lH true))) [.da (ah n l),.da (.int a),.da (.int b)] 0) _)=_
 rw[pP (az (x:=.int a) (y:=.int b) rfl rfl (nQ true a b)) (pP (az (fw (a:=a) (b:=b) rfl rfl) (Lk (n:=n) (l:=l) rfl) (mK true (a,b) l)) (az (fw (a:=b) (b:=a) rfl rfl) (Lk (n:=n) (l:=l) rfl) (mK true (b,a) l)))]
 rfl
def Jn (n:Nat)(l:List Pr)(a b:Int):IS [ah n l,.int a,.int b]=.ok (.bool (zR l (a,b))) false:=GW n l a b
def oF:List D->FR:=aS 1 1 ja
def Fc {n:Nat}(h1:1<=n)(h8:n<=8):oF [.int n]=.ok (.list ((OM.dq n).map ao)) true:=by
 have hm:n * n<=64:=OK h8 h8
 have e:aM 1 [0] (.nm 0) (cD (f2 (gv 0) (gv 0) dD)) jm (bY (aa (f2 (gv 0) (gv 1) Hl) (aa (f2 (gv 0) (gv 1) lF) ag))) [.da (.int n)] 0=.ok (.list ((OM.dq n).map ao)) 0:=by
  have hi:cD (f2 (gv 0) (gv 0) dD) [.da (.int n)] 0=.ok ((List.range (n * n)).map λ(k:Nat)=>int (0 + (k:Int))) 0:=by
   refine cU (n:=n * n) (az (x:=.int n) (y:=.int n) rfl rfl ?_) (by omega)
   rw[rL ⟨by omega,by omega⟩];rfl
  rw[cm (l:=List.range (n * n)) (e:=λ(k:Nat)=>int (0 + (k:Int))) (λk=>ao (((k / n:Nat):Int),((k % n:Nat):Int))) hi (by rw[Oa];omega) λk hk=>⟨_,rfl,?_⟩]
  ·unfold OM.dq;rw[Pn];rfl
  ·refine fw (az (x:=.int (0 + (k:Int))) (y:=.int n) rfl rfl ?_) (az (x:=.int (0 + (k:Int))) (y:=.int n) rfl rfl ?_)
   ·rw[FT (by omega) (by omega),Og];rfl
   ·rw[oo (by omega),Og];rfl
 show fin (ja [.fz (.int n)] 0)=_
 unfold ja
 rw[vF,show vl [Sl.fz (.int n)]= [.da (.int n)] from rfl,e];rfl
def pE (n:Nat)(l:List Pr):List Pr:=(OM.dq n).filter (zR l)
def gq (n:Nat):(OM.dq n).length=n * n:=by unfold OM.dq;simp
def E4 {n:Nat}{l:List Pr}(h8:n<=8):(pE n l).length<=64:=by
 have h1:(pE n l).length<=(OM.dq n).length:=NZ _ _
 rw[gq] at h1
 have:n * n<=64:=OK h8 h8
 omega
def dR {n:Nat}{l:List Pr}{p:Pr}:p∈pE n l↔((0<=p.1/\p.1 < n)/\(0<=p.2/\p.2 < n))/\zR l p=true:=by
 unfold pE;rw[Nq,OM.bV]
noncomputable def qD:List D->FR:=aS 1 1 (pU jA oF Ie)
def cM {fa:VF D}{vs:List Nv}{β:Int}{c:Bool}(h:fa vs β=.ok (.bool c) β):fP fa vs β=.ok c β:=by rw[xZ,h];rfl
def Fw {n:Nat}{l:List Pr}(O:OM.Ord n l):qD [ah n l]=.ok (.list ((pE n l).map ao)) true:=by
 have hm:n * n<=64:=OK O.hi O.hi
 show fin (pU jA oF Ie [.fz (ah n l)] 0)=_
 unfold pU
 rw[aL (env':=[.fz (ah n l)]) (β':=0) ?g1]
 case g1=>
  show toS (aw jA (aa (gv 0) ag) [.da (ah n l)] 0) _=_
  rw[au (ds:=[ah n l]) rfl (qN O)];rfl
 have e:aM 2 [0] (.two 0 1) (bL (aw oF (aa (f2 (gv 0) (cst (.int 0)) aV) ag))) (fP (aw Ie (aa (gv 2) (aa (gv 0) (aa (gv 1) ag))))) (bY (aa (gv 0) (aa (gv 1) ag))) [.da (ah n l)] 0=.ok (.list ((pE n l).map ao)) 0:=by
  have hi:bL (aw oF (aa (f2 (gv 0) (cst (.int 0)) aV) ag)) [.da (ah n l)] 0=.ok ((OM.dq n).map ao) 0:=by
   unfold bL
   rw[au (ds:=[.int n]) rfl (Fc O.lo O.hi)];rfl
  exact cj (l:=OM.dq n) (e:=ao) (zR l) ao hi (by rw[gq];omega) λp hp=>⟨_,rfl,cM (au (ds:=[ah n l,.int p.1,.int p.2]) rfl (GW n l p.1 p.2)),λ_=>fw rfl rfl⟩
 show fin (toS (aM 2 [0] (.two 0 1) (bL (aw oF (aa (f2 (gv 0) (cst (.int 0)) aV) ag))) (fP (aw Ie (aa (gv 2) (aa (gv 0) (aa (gv 1) ag))))) (bY (aa (gv 0) (aa (gv 1) ag))) [.da (ah n l)] 0) _)=_
 rw[e];rfl
end RM
namespace L2
open PySem PySem.Spec PyProof.Rows
section
variable {X:Cx}{pins:List (Addr×Obj)}{σ:St}{H:Hp}{s:Shared}
def Inv.turnedL {t':Nat}{ch:List Addr}{h':Heap}(I:Inv X pins σ H s)(k:∀b o,b∉ch->s.heap.get? b=some o->h'.get? b=some o)(hf:∀b∈ch,kz X pins H b):Inv X pins σ H {s with heap:=h',toks:=t'}:=by
 have nit:∀b u,H b=some u->b∉ch:=λb u e z=>by rw[(hf b z).1] at e;cases e
 have nL:X.env.locals∉ch:=λz=>(hf _ z).2.1 rfl
 refine I.step (g':=s.gens) (d':=s.drawn) (ch:=ch) (λb hb=>?_) (λb o _ _ hc e _=>k b o hc e) (λb o _ _ hc e _=>⟨o.slots,k b o hc e⟩) (λ_ _ _ _ n=>n)
  (λb o hc e=>⟨o,k b o hc e⟩) (λ_ _ e=>e) (λ_ _ _ e=>e) (λb ps e=>⟨#[],by rw[e];simp⟩) (λm hm=>?_) (λb u e=>?_) I.bare
 ·obtain⟨f0,f1,f2,f3,f4,f5⟩:=hf b hb
  exact⟨f3,f1,f4,f5⟩
 ·obtain⟨o,es,ep,ho,r⟩:=hm
  exact⟨o,es,ep,k _ o nL ho,r⟩
 ·refine (I.hok b u e).stay (λc v hc q=>k c v ?_ q) (λ_ q=>q) λ_ _ q=>q
  rcases hc with z |z
  ·rw[z];exact nit b u e
  ·exact nit c _ z
end
def IX {n:Nat}(i j:Nat)(h:(i == j)=false):(n + i:Nat)≠n + j:=by
 have:i≠j:=by simpa using h
 omega
end L2
namespace RM
open PySem L2
def je:SF:=(aJ (bO 2 (([] ++ []) ++ []) (f2 (f2 (cst (.int 7919)) (gv 1) dD) (cst (.int 13)) bZ))
 (aJ (gZ ([] ++ []) (cz (f2 (gv 1) (f1 (gv 0) bX) tE))
 (bO 2 ([] ++ []) (f2 (gv 0) (gv 1) aV))
 jh)
 (aJ (gZ (([] ++ []) ++ []) (cz (f2 (f2 (gv 2) (cst (.int 2)) lF) (cst (.int 0)) (cJ false)))
 (o4 (cC (aa (f2 (gv 2) (cst (.int 2)) Hl) ag)))
 jh)
 (aJ (bO 3 [] (cst (.int 0)))
 (aJ (gE (.nm 4) [] (cD (cst (.int 16)))
 (aJ (bO 5 ((((([] ++ []) ++ []) ++ ([] ++ [])) ++ []) ++ []) (f2 (f2 (f2 (f2 (f2 (gv 2) (cst (.int 2147483647)) lF) (cst (.int 48271)) dD) (f2 (cst (.int 7919)) (gv 4) dD) bZ) (cst (.int 1)) bZ) (cst (.int 2147483647)) lF))
 (aJ (bO 5 (([] ++ []) ++ []) (f2 (f2 (gv 5) (gv 5) dD) (cst (.int 2147483629)) lF))
 (bO 3 (([] ++ []) ++ (([] ++ ([] ++ [])) ++ [])) (f2 (f2 (gv 3) (cst (.int 2147483647)) dD) (f2 (f2 (gv 5) (f2 (gv 5) (cst (.int 13)) bZ) dD) (cst (.int 2147483647)) lF) bZ)))))
 (o4 (cC (aa (gv 3) ag))))))))
def fE (aZ:List D->Int->FB):SF:=(aJ (lA 2 [] (f1 (gv 1) FJ))
 (aJ (lA 3 [] (cC ag))
 (aJ (iz ([] ++ []) (cz (f2 (gv 2) (cC ag) (cJ true)))
 (kX 3 2 ([] ++ []) (ox 0 aZ (aa (f1 (gv 2) bX) ag))) 1000)
 (a9 (f1 (gv 3) m9)))))
def jX:SF:=(aJ (lA 2 [] (cC ag))
 (aJ (gE (.nm 3) [] (cD (gv 0))
 (gE (.nm 4) [] (cD (gv 0))
 (gZ (([] ++ []) ++ ([] ++ [])) (xj (cz (f2 (gv 3) (gv 4) (cJ true))) (fP (f1 (aM 1 [3,4] (.nm 0) (bL (gv 1)) jm (f2 (oK (gv 0) (gv 1)) (oK (gv 0) (gv 2)) tE)) (bo λbs=>bs.all id))))
 (nJ 2 ([3] ++ ([4] ++ [])) (bY (aa (gv 3) (aa (gv 4) ag))))
 jh)))
 (a9 (f1 (gv 2) m9))))
end RM
namespace L2
open PySem PySem.Spec PyProof.Rows
section
variable {κ:Type}[DecidableEq κ]
def EN (kvs:List (κ×V))(k:κ):Option V:=(kvs.find? λkv=>decide (kv.1=k)).map (·.2)
def putK (kvs:List (κ×V))(k:κ)(v:V):List (κ×V):=
 if (kvs.any λkv=>decide (kv.1=k))=true then kvs.map (λkv=>if kv.1=k then (kv.1,v) else kv) else kvs ++ [(k,v)]
theorem CM.getD {o:Option V}{u:Option Value}{d:V}{d':Value}(r:CM o u)(rd:RelV d d'):RelV (o.getD d) (u.getD d'):=by
 cases o with
 |none=>cases u with
  |none=>exact rd
  |some _=>exact (show False from r).elim
 |some _=>cases u with
  |none=>exact (show False from r).elim
  |some _=>exact r
theorem KV.any {kvs:List (κ×V)}{vs:List (κ×Value)}(r:KV kvs vs)(k:κ):(kvs.any λkv=>decide (kv.1=k))=vs.any λkv=>decide (kv.1=k):=by
 unfold KV at r
 induction r with
 |nil=>rfl
 |cons h t ih=>rw[OC,OC,ih,h.1]
end
section
variable {P:Program}{w:World}{H:Hp}{h:Heap}{a:Addr}
def J0 {u:HO}(ok:mU P w H h)(e:Rd H a u):cW P w H h a u:=e.ok ok
def Kf {kvs:List (Key×V)}(ok:mU P w H h)(e:Rd H a (.dK kvs)):kvs.length<=sizeLine/\(a == sysModules)=false/\∃vs,KV kvs vs/\h.DictOf (mB P w) a vs:=
 show cW P w H h a (.dK kvs) from J0 ok e
def JM {kvs:List (Key×V)}(ok:mU P w H h)(e:H a=some (.dK kvs)):kvs.length<=sizeLine/\(a == sysModules)=false/\∃vs,KV kvs vs/\h.DictOf (mB P w) a vs:=Kf ok (.inl e)
end
def Ee (H:Hp)(a:Addr)(y:V)(r:Option V):Prop:=
 (∃kvs k,Rd H a (.dK kvs)/\y=kV k/\r=EN kvs k)\/∃kvs k b,Rd H a (.dT kvs)/\y=.ref b/\Rd H b (.tup (k.map kV))/\r=EN kvs k
def EZ (H:Hp)(a:Addr)(y v:V)(H':Hp):Prop:=
 (∃kvs k,H a=some (.dK kvs)/\y=kV k/\kvs.length < sizeLine/\H'=upd H a (.dK (putK kvs k v)))\/
 ∃kvs k b,H a=some (.dT kvs)/\y=.ref b/\Rd H b (.tup (k.map kV))/\kvs.length < sizeLine/\H'=upd H a (.dT (putK kvs k v))
def Ee.k {H:Hp}{a:Addr}{kvs:List (Key×V)}{k:Key}(e:H a=some (.dK kvs)):Ee H a (kV k) (EN kvs k):=.inl ⟨kvs,k,.inl e,rfl,rfl⟩
def Ee.t {H:Hp}{a b:Addr}{kvs:List (List Key×V)}{k:List Key}(e:H a=some (.dT kvs))(eb:Rd H b (.tup (k.map kV))):Ee H a (.ref b) (EN kvs k):=.inr ⟨kvs,k,b,.inl e,rfl,eb,rfl⟩
def EZ.k {H:Hp}{a:Addr}{kvs:List (Key×V)}{k:Key}{v:V}(e:H a=some (.dK kvs))(hl:kvs.length < sizeLine):EZ H a (kV k) v (upd H a (.dK (putK kvs k v))):=.inl ⟨kvs,k,e,rfl,hl,rfl⟩
def EZ.t {H:Hp}{a b:Addr}{kvs:List (List Key×V)}{k:List Key}{v:V}(e:H a=some (.dT kvs))(eb:Rd H b (.tup (k.map kV)))(hl:kvs.length < sizeLine) :
  EZ H a (.ref b) v (upd H a (.dT (putK kvs k v))):=.inr ⟨kvs,k,b,e,rfl,eb,hl,rfl⟩
section
variable {X:Cx}{pos:Pos}
end
mutual
def JA:D->Bool
 | .list ds=>BO ds
 | .tuple ds=>BO ds
 | .dict kvs=> !kvs.isEmpty && kvs.all λkv=>match kv.1,kv.2 with
  | .str _,.int _=>true
  |_,_=>false
 |_=>true
def BO:List D->Bool
 | []=>true
 |d :: ds=>JA d && BO ds
end
section
variable {X:Cx}{pins:List (Addr×Obj)}{σ:St}{H:Hp}{s:Shared}
theorem wu {P:Program}{w:World}{K:Frag}{h:Heap}:∀{kvs:List (Key×V)} {ds:List (D×D)} {vs:List (Key×Value)} {es:List DictEntry},Am K H kvs ds->KV kvs vs->Pairs (mB P w) es vs->
  (ds.all λkv=>match kv.1,kv.2 with
   | .str _,.int _=>true
   |_,_=>false)=true->ReadsAll h (es.map (·.key)) (ds.map (·.1)) []/\ReadsAll h (es.map (·.val)) (ds.map (·.2)) []
 | [],_,_,_,.nil,kv,ps,_=>by
  cases kv
  cases ps
  exact⟨.nil,.nil⟩
 | (k,x) :: kvs,_,_,_,.cons r rk,kv,ps,hd=>by
  cases kv with
  |cons h1 h2=>
   cases ps with
   |cons q1 q2 q3=>
    rw[all_cons,Ny] at hd
    obtain⟨i1,i2⟩:=wu (P:=P) (w:=w) (h:=h) rk h2 q3 hd.2
    obtain⟨hd1,_⟩:=hd
    obtain⟨e1,rv⟩:=h1
    cases k with
    |inl i=>cases hd1
    |inr y=>
     rw[<-e1] at q1
     have q1:Bo (Sum.inr y) _=true:=q1
     rcases cA q1 with⟨i,t,e,_⟩ | ⟨z,t,e,ek⟩
     ·cases e
     ·cases e
      cases r with
      |int i=>
       obtain⟨t',ev⟩:=rv
       refine⟨?_,?_⟩
       ·show ReadsAll h (_ :: _) (PyData.str y :: _) ([] ++ [])
        dsimp only
        rw[ek]
        exact .cons (.str y t) i1
       ·show ReadsAll h (_ :: _) (int i :: _) ([] ++ [])
        dsimp only
        rw[q2,ev]
        exact .cons (.int i t') i2
      |_=>cases hd1
def Inv.notSys (I:Inv X pins σ H s){a:Addr}{u:HO}(h:Rd H a u):a≠sysModules:=λe=>by
 obtain⟨mm,o,es,ep,ho,_⟩:=I.mod.sys
 have:=(I.bs _ o ho).2
 rw[<-e] at this
 rcases h with h | ⟨_,h⟩ <;> (rw[h] at this;cases this)
mutual
theorem Rp.readsL (I:Inv X pins σ H s):∀{x:V} {d:D} {u:Value},Rp X.K H x d->RelV x u->JA d=true->∃as,Reads s.heap u d as/\sysModules∉as
 |_,_,_,.non,r,_=>by cases r;exact⟨_,.none,by simp⟩
 |_,_,_,.bl b,r,_=>by cases r;exact⟨_,.bool b,by simp⟩
 |_,_,_,.int i,r,_=>by obtain⟨t,rfl⟩:=r;exact⟨_,.int i t,by simp⟩
 |_,_,_,.str x,r,_=>by obtain⟨t,rfl⟩:=r;exact⟨_,.str x t,by simp⟩
 |_,_,_,.tup h hs,r,n=>by
  cases r
  obtain⟨its,rv,⟨o,ho,hc,k,hd⟩,_⟩:=I.tuple h
  obtain⟨as,q,m⟩:=cF.readsL I hs rv n
  exact⟨_,.tuple ho hc hd (by simpa using q),m⟩
 |_,_,_,.lst (a:=a) h hs,r,n=>by
  cases r
  obtain⟨_,its,k,rv,_,ho⟩:=I.lstR (.inl h)
  obtain⟨as,q,m⟩:=cF.readsL I hs rv n
  refine⟨_,.list ho rfl rfl (by simpa using q),λz=>?_⟩
  rcases Nh.mp z with e |z
  ·exact I.notSys (.inl h) e.symm
  ·exact m z
 |_,_,_,.scr h,r,n=>by cases n
 |_,_,_,.dK (a:=a) h hs,r,n=>by
  cases r
  obtain⟨_,hsy,vs,kv,o,es,ep,ho,hex,hdt,_,hp,_⟩:=JM I.hok h
  obtain⟨q1,q2⟩:=wu (h:=s.heap) hs kv hp (by
   have n:(!_ && _)=true:=n
   rw[Ny] at n
   exact n.2)
  refine⟨_,.dict ho hex.1 hdt q1 q2,?_⟩
  have:a≠sysModules:=λz=>by rw[z] at hsy;simp at hsy
  simp only[Oy,NG]
  exact λz=>this z.symm
 |_,_,_,.dT h hs,r,n=>by
  cases hs with
  |nil=>cases n
  |cons _ _=>
   simp[JA] at n
theorem cF.readsL (I:Inv X pins σ H s):∀{xs:List V} {ds:List D} {us:List Value},cF X.K H xs ds->Vals xs us->BO ds=true->∃as,ReadsAll s.heap us ds as/\sysModules∉as
 |_,_,_,.nil,r,_=>by cases r;exact⟨_,.nil,by simp⟩
 |_,_,_,.cons h hs,r,n=>by
  have n:(JA _ && BO _)=true:=n
  rw[Ny] at n
  cases r with
  |cons r1 r2=>
   obtain⟨as,q,m⟩:=Rp.readsL I h r1 n.1
   obtain⟨bs,q',m'⟩:=cF.readsL I hs r2 n.2
   exact⟨_,.cons q q',λz=>(Nz.mp z).elim m m'⟩
end
end
def DS (d:D):Bool:=d.showable && decide (d.depth<=64) && decide (d.shown.length<=sizeLine) && ((Bi d && !d.hasDict) || JA d)
def oY (d:D):Option D:=if DS d=true then some (.str d.shown) else none
def Ct (K:Frag):List V->Hp->VK->Prop:=λxs H Q=>∃x d,xs= [x]/\Rp K H x d/\DS d=true/\Q (.str d.shown) H
section
variable {X:Cx}
theorem qy (hg:X.A.guards=some [])(hu:X.A.units + 100 < cLine):iJ X (.builtin "repr") (Ct X.K):=by
 intro pins s σ H xs us Q I r h
 obtain⟨x,d,rfl,hd,ok,q⟩:=h
 obtain⟨u,rfl,rx⟩:=vals1 r
 unfold DS at ok
 simp only[Ny,Oj,NC] at ok
 obtain⟨⟨⟨h1,h2⟩,h3⟩,h4⟩:=ok
 have key:∀{a:Addr},u=.ref a->wpAny (model X.prog X.w) X.A (call (.builtin "repr") [u]) (EP X pins σ Q) X.xe s:=λ{a} e=>by
  subst e
  rcases h4 with h4 |h4
  ·obtain⟨as,rd⟩:=(hd.rep h4.1).reads I rx
   exact repr_of_reads' rd h1 (PyData.noDict_hsm (by simpa using h4.2)) hg (by omega) (λb o e=>e) (λh' u tk k=>⟨.str _,H,I.kept (t':=tk) k,⟨u,rfl⟩,q⟩) h3
  ·obtain⟨as,rd,m⟩:=hd.readsL I rx h4
   exact repr_of_reads' rd h1 (λ_=>m) hg (by omega) (λb o e=>e) (λh' u tk k=>⟨.str _,H,I.kept (t':=tk) k,⟨u,rfl⟩,q⟩) h3
 cases hd with
 |non=>cases rx;exact P.repr_of_none ⟨.str _,H,I.tok _,⟨_,rfl⟩,q⟩
 |bl b=>cases rx;exact P.repr_of_bool ⟨.str _,H,I.tok _,⟨_,rfl⟩,q⟩
 |int i=>obtain⟨t,rfl⟩:=rx;exact P.repr_of_int (by simpa[PyData.showable] using h1) ⟨.str _,H,I.tok _,⟨_,rfl⟩,q⟩
 |str y=>obtain⟨t,rfl⟩:=rx;exact P.repr_of_str ⟨.str _,H,I.tok _,⟨_,rfl⟩,q⟩ h3
 |tup _ _=>cases rx;exact key rfl
 |lst _ _=>cases rx;exact key rfl
 |scr _=>cases rx;exact key rfl
 |dK _ _=>cases rx;exact key rfl
 |dT _ _=>cases rx;exact key rfl
end
def yO {K:Frag}:B6 K (λx=>Ct K [x]) oY .v:=by
 intro B G H x dx d Q s hB bx e k
 unfold oY at e
 split at e
 ·rename_i hh
  cases e
  exact⟨x,dx,rfl,bx.rpH s,hh,k _ G H (Ext.refl s) (.str _)⟩
 ·cases e
section
variable {prog:Program}{w:World}{A:Around}{E:Value->Shared->Prop}{s:Shared}{it t:Addr}{i:Nat}{xs:Array Value}{Q:Value->Shared->Prop}
theorem Mn (hi:s.heap.IsTupleIter it t i)(ht:s.heap.IsTuple t xs)
  (k1:∀x,xs[i]? =some x->∀h',h'.IsTupleIter it t (i + 1)->Heap.SameBut it s.heap h'->Q x {s with heap:=h'})
  (k2:xs[i]? =none->A.handled=none/\∀h' e,Heap.ExtBut it s.heap h'->(∃o,h'.get? e=some o/\o.cls=.type "StopIteration")->E (.ref e) {s with heap:=h'}) :
  wpAny (model prog w) A (Builtin.SmallTypes.nextOf (.ref it)) Q E s:=by
 obtain⟨o,ho,hc,hd⟩:=id hi
 obtain⟨ol,hol, -,nl,hdl⟩:=ht
 refine Nf (wpAny_callSpecial?_slot (name:=Str.ofString "__next__") hi.typeIs F.slot_tuple_iterator_next (wpAny_call_entry F.slot_tuple_iterator_next hi.typeIs F.entry_tuple_iterator_next ?_ (F.args_tuple_iterator_next_1 _)))
 refine (show wpAny _ _ (field (.ref it) 0 >>= _) _ _ s from Nf (wpAny_field ho hd (x:=.ref t) rfl ?_))
 refine (show wpAny _ _ (if (Value.ref t == Value.none)=true then _ else _) _ _ s from ?_)
 rw[Nk (by exact Nj)]
 refine (show wpAny _ _ (field (.ref it) 1 >>= _) _ _ s from Nf (wpAny_field ho hd (x:=.int i 0) rfl ?_))
 refine (show wpAny _ _ (seqItems? (.ref t) >>= _) _ _ s from Nf (wpAny_seqItems hol hdl ?_))
 cases hx:xs[i]? with
 |some x=>
  simp only[NP,hx]
  refine Nf (Pp ho hd (by simp) (NJ ⟨x,rfl,NJ (k1 x hx _ ?_ (Heap.SameBut.update ..))⟩))
  refine⟨_,O2 _ ho (Obj.isFreed_of_fields (Pk hd _)),(Obj.cls_mapFields ..).trans hc,?_⟩
  rw[Pk hd]
  simp[rawInt]
 |none=>
  obtain⟨hh,hE⟩:=k2 hx
  simp only[NP,hx]
  refine Nf (wpAny_rule (Nf (Pp ho hd (by simp) (show wpAny _ _ (newExc (.type "StopIteration") [] >>= _) _ _ _ from Nf ?_))))
  simp only[newExc,newTuple]
  refine Nf (wpAny_newObj_type (Nf (m:=firstArgMember _ _) (wpAny_of_eq (a:=Value.none) (by first |rfl | (simp only[firstArgMember];rfl)) (wpAny_newObj_type ?_ (by size_fits)))) (by size_fits))
  simp only[raiseNew]
  refine Nf (wpAny_handled ?_)
  have hh':A.in1.handled=none:=hh
  first |rw[hh'] |rw[hh]
  exact Nf (NJ (wpAny_throw (hE _ _ (((Heap.SameBut.update ..).extBut.push _).push _) ⟨_,Nu _ rfl,rfl⟩)))
def Ho (hh:A.handled=none)(hne:t≠it)(xs:Array Value):Draws prog w A it [it,t] xs.size (λi v=>xs[i]? =some v) (λi h=>h.IsTupleIter it t i/\h.IsTuple t xs) where
 live:=λ_ _ st=>let ⟨o,ho,_⟩:=st.1;⟨o,ho⟩
 frame:=λ_ _ _ st hk=>⟨st.1.at λo e=>hk it (by simp) o e,st.2.at λo e=>hk t (by simp) o e⟩
 item:=λi s Q E hi st k=>Mn st.1 st.2 (λx hx h' q1 q2=>k x h' s.toks hx ⟨q1,st.2.extBut q2.extBut hne⟩ q2) λz=>by simp at z;omega
 done:=λs Q E st k=>Mn st.1 st.2 (λx hx=>by simp at hx) λ_=>⟨hh,k⟩
end
abbrev Hg (t:Addr):Obj:={cls:=.type "tuple_iterator",data:=.fields #[.ref t,.int 0 0]}
abbrev KZ (it:Addr):Obj:={cls:=.type "enumerate",data:=.fields #[.none,.bool false,.ref it,rawInt 0,.none,.none]}
def Bl (t:Addr)(xs:Array Value)(n:Nat)(dc:Option Addr)(sl:Array (Option Value)) :
  Meets (Builtin.«enumerate.__new__» ⟨[.type "enumerate",.ref t],[]⟩) (λ_ R s=>s.heap.get? t=some ⟨.type "tuple",dc,.seq xs n,sl⟩/\
   R (.ok (.ret (.ref (s.heap.push (Hg t)).objs.size))) {s with heap:=(s.heap.push (Hg t)).push (KZ s.heap.objs.size)}):=by
 refine .of_wp λprog w A R s h=>?_
 obtain⟨hp,g,d,tk,os⟩:=s
 obtain⟨hl,h⟩:=h
 have sb:=sub_enumerate
 have hT:Heap.IsTuple (Shared.heap ⟨hp,g,d,tk,os⟩) t xs:=⟨_,hl,rfl,n,rfl⟩
 wp_walk using Po hl
 refine wpAny_stack_any λst=>NJ ?_
 split
 ·rename_i c _ _ _ _ _
  cases (c == Value.type "enumerate") <;> (wp_walk using Po hl,OX hT;exact⟨_,rfl,h⟩)
 ·wp_walk using Po hl,OX hT
  exact⟨_,rfl,h⟩
section
variable {prog:Program}{w:World}{A:Around}{E:Value->Shared->Prop}{s:Shared}
def xM {t:Addr}{xs:Array Value}{Q:Value->Shared->Prop}(hT:s.heap.IsTuple t xs)
  (k:∀h',IsEnum h' (s.heap.objs.size + 1) s.heap.objs.size 0 .none->h'.IsTupleIter s.heap.objs.size t 0->(∀b o,s.heap.get? b=some o->h'.get? b=some o)->Q (.ref (s.heap.objs.size + 1)) {s with heap:=h'}) :
  wpAny (model prog w) A (call (.type "enumerate") [.ref t]) Q E s:=by
 obtain⟨⟨c,dc,dt,sl⟩,hl,hc,n,hd⟩:=hT
 have hc:c=.type "tuple":=hc
 have hd:dt=.seq xs n:=hd
 subst hc hd
 refine callType_new F.called_enumerate (by decide) (F.typeCall_enumerate_1 _) (F.newCall_enumerate_1 _) (λob=>F.args_object_init_2 ob _) F.entry_enumerate_new (Bl t xs n dc sl) ⟨hl,?_⟩
 have hz:(s.heap.push (Hg t)).objs.size=s.heap.objs.size + 1:=OS ..
 have g2:((s.heap.push (Hg t)).push (KZ s.heap.objs.size)).get? (s.heap.push (Hg t)).objs.size=some (KZ s.heap.objs.size):=Nu _ rfl
 have g1:((s.heap.push (Hg t)).push (KZ s.heap.objs.size)).get? s.heap.objs.size=some (Hg t):=Nd _ (Nu _ rfl)
 rw[hz] at g2
 show _/\_
 rw[hz]
 exact⟨⟨_,g2,rfl⟩,k _ g2 ⟨_,g1,rfl,rfl⟩ λb o e=>Nd _ (Nd _ e)⟩
end
def Hx {prog:Program}{w:World}{A:Around}{it t:Addr}{xs:Array Value}(hh:A.handled=none)(i:Nat)(hx:xs[i]? =none):Draws prog w A it [it,t] i (λ_ _=>False) (λj h=>j=i/\h.IsTupleIter it t i/\h.IsTuple t xs) where
 live:=λ_ _ st=>let ⟨o,ho,_⟩:=st.2.1;⟨o,ho⟩
 frame:=λ_ _ _ st hk=>⟨st.1,st.2.1.at λo e=>hk it (by simp) o e,st.2.2.at λo e=>hk t (by simp) o e⟩
 item:=λj s Q E hi st k=>absurd st.1 (by omega)
 done:=λs Q E st k=>Mn st.2.1 st.2.2 (λx h=>by rw[hx] at h;cases h) λ_=>⟨hh,k⟩
def Lu (K:Frag)(a:Addr):It:=
 ⟨λi H=>∃xs x,gB K H a xs/\xs[i]? =some x,
  λi H v H'=>∃x t,H t=none/\(∀xs,gB K H a xs->xs[i]? =some x)/\v=.ref t/\H'=upd H t (.tup [.int i,x]),
  λi H=>∃xs,gB K H a xs/\xs.length<=i⟩
abbrev sM (n:Nat):List Nat:=[n + 1,n]
def AR {h:Heap}{a n:Addr}{i:Nat}{its:Array Value}{b:Addr}(p:h.IsTuple a its)(q:h.IsTupleIter n b i):a≠n:=λz=>by
 subst z
 obtain⟨o,e,c,_⟩:=p
 obtain⟨o',e',c',_⟩:=q
 rw[e] at e';cases e'
 rw[c] at c'
 simp at c'
def AI {h:Heap}{a n it:Addr}{i:Int}{its:Array Value}{old:Value}(p:h.IsTuple a its)(q:IsEnum h n it i old):n≠a:=λz=>by
 subst z
 obtain⟨o,e,c,_⟩:=p
 rw[q] at e;cases e
 simp at c
def yC {P:Program}{w:World}{K:Frag}{elts:List Expr}{x1}{pos:Pos}(a:Addr)(n:Nat):Turn P w K (.Tuple elts x1 pos) (Lu K a) (sM n) (n + 1)
  (λi h=>(∃old,IsEnum h (n + 1) n i old)/\h.IsTupleIter n a i) where
 mem:=by simp
 obj:=λi h st c hc=>by
  obtain⟨⟨old,z1⟩,⟨o2,z2,_,d2⟩⟩:=st
  simp only[sM,Nh,NW,OD] at hc
  rcases hc with rfl |rfl
  ·exact⟨_,z1,λv z=>by
    have z':Data.fields _=Data.cell v:=z
    cases z'⟩
  ·exact⟨o2,z2,λv z=>by rw[d2] at z;cases z⟩
 keep:=λi h h' st k=>by
  obtain⟨⟨old,z1⟩,z2⟩:=st
  exact⟨⟨old,k _ (by simp) _ z1⟩,z2.at λo e=>k _ (by simp) o e⟩
 item:=by
  intro X hP hw hK hc i pins s σ H E I hf st hg
  subst hP hw hK
  obtain⟨xs,x,ha,hx⟩:=hg
  obtain⟨its,rv,p,hz⟩:=I.tuple ha
  have p:s.heap.IsTuple a its.toArray:=p
  obtain⟨u0,hu0,ru0⟩:=rv.get hx
  obtain⟨⟨old,z1⟩,z2⟩:=st
  have hh:X.A.in1.handled=none:=I.ok.hd hc
  have hlt:i < its.toArray.size:=by
   have:=Ng.mp hu0
   simpa using this.1
  refine wpAny_pyNext_enum_itemD (Ho hh (AR p z2) its.toArray) z1 ⟨z2,p⟩ hlt (IX 1 0 rfl) (by
   simp only[Nh,NW,OD,not_or]
   exact⟨IX 1 0 rfl,AI p z1⟩) λu h' tk hu q1 q2 q3 q4 q5=>?_
  have eu:u0=u:=by
   have hu:its.toArray[i]? =some u:=hu
   rw[List.getElem?_toArray,hu0] at hu
   exact Option.some.inj hu
  subst eu
  refine⟨_,rfl,wpAny_letOwnedTupleGo_enum (s:={s with heap:=h',toks:=tk + 1}) q1 λh2 r1 r2=>?_⟩
  have r2:∀c,c≠n + 1->h2.get? c=h'.get? c:=r2.2
  have lz:n + 1 < s.heap.objs.size:=Nl z1
  have hT:H s.heap.objs.size=none:=I.hok.fresh (Na _)
  have I1:Inv X pins σ (upd H s.heap.objs.size (.tup [.int i,x])) {s with heap:=s.heap.push {cls:=.type "tuple",data:=.seq #[.int i tk,u0]},toks:=s.toks}:=
   I.laid (λb o e=>Nd _ e) (Na _) ⟨by show 2<=sizeLine;rw[NV];omega,[.int i tk,u0],.cons ⟨tk,rfl⟩ (.cons ru0 .nil),r6.new _ _⟩
  have hf':∀c∈sM n,kz X pins (upd H s.heap.objs.size (.tup [.int i,x])) c:=λc hc=>⟨by
   rw[aB (λz=>?_)]
   ·exact (hf c hc).1
   ·subst z
    simp only[sM,Nh,NW,OD] at hc
    omega,(hf c hc).2⟩
  have I2:Inv X pins σ (upd H s.heap.objs.size (.tup [.int i,x])) {s with heap:=h2,toks:=tk + 1}:=by
   refine I1.turnedL (ch:=sM n) (λc o hc e=>?_) hf'
   have e:(s.heap.push {cls:=.type "tuple",data:=.seq #[.int i tk,u0]}).get? c=some o:=e
   simp only[sM,Nh,NW,OD,not_or] at hc
   rw[r2 c hc.1]
   by_cases z:c=s.heap.objs.size
   ·subst z
    rw[Nu _ rfl] at e
    rw[<-e];exact q3
   ·refine q5 c o hc.1 hc.2 ?_
    rw[Heap.get?_push_ne _ _ _ z] at e
    exact e
  refine⟨.ref s.heap.objs.size,_,I2,rfl,⟨x,_,hT,λxs' h'=>?_,rfl,rfl⟩,⟨⟨u0,r1⟩,q2.1.at λo e=>(r2 _ (IX 0 1 rfl)).trans e⟩,λc hc=>(hf' c hc).1⟩
  rw[I.tuple_inj h' ha];exact hx
 done:=by
  intro X hP hw hK hc i pins s σ H E I hf st hg
  subst hP hw hK
  obtain⟨xs,ha,hl⟩:=hg
  obtain⟨its,rv,p,hz⟩:=I.tuple ha
  obtain⟨⟨old,z1⟩,z2⟩:=st
  have hh:X.A.in1.handled=none:=I.ok.hd hc
  have l1:=rv.length
  refine wpAny_pyNext_enum_endD (Hx hh i (xs:=its.toArray) (by simp;omega)) z1 ⟨rfl,z2,p⟩ λh' q=>⟨rfl,?_⟩
  refine I.turnedL (t':=s.toks) (ch:=sM n) (λc o hc e=>?_) hf
  simp only[sM,Nh,NW,OD,not_or] at hc
  exact q c o hc.2 e
 self:=λ_ _ _ _ _ st h=>by
  obtain⟨⟨old,z1⟩,_⟩:=st
  exact Pq z1 h
def MP (K:Frag)(ta:TA):TI:=λσ H R=>ta σ H λvs H2=>∃a xs,vs= [.ref a]/\gB K H2 a xs/\R (Lu K a) H2
def tH:bootBuiltins "enumerate"=some (.type "enumerate"):=by decide +kernel
section
variable {X:Cx}
theorem Hm {a:Expr}{ta:TA}{p pos pt:Pos}{elts:List Expr}{x1}(hg:Gl X "enumerate")(hm:X.mg "enumerate"=none)(ha:PA X [a] ta)(hs:starEach [a] X.env= [(false,eval a X.env)]:=by rfl) :
  PI X (.Tuple elts x1 pt) (.Call (.Name "enumerate" p) [a] [] pos) (MP X.K ta):=by
 intro pins s σ H R I h
 refine Call_ (lX I hg hm tH (Ox (cK (ha pos pins s σ H _ I h) λus s1 ⟨vs,H1,I1,r1,q1⟩=>?_) hs rfl))
 obtain⟨a,xs,e,h1,q⟩:=q1
 subst e
 cases r1 with
 |cons r rr=>
  cases rr
  cases r
  obtain⟨its,rv,p1,hz⟩:=I1.tuple h1
  refine xM (show s1.heap.IsTuple a its.toArray from p1) λh' z1 z2 z3=>?_
  refine Pq z1 ⟨_,sM s1.heap.objs.size,_,_,H1,rfl,I1.kept (t':=s1.toks) z3,yC a s1.heap.objs.size,⟨⟨_,z1⟩,z2⟩,λc hc=>?_,q⟩
  have:s1.heap.objs.size<=c:=by
   simp only[sM,Nh,NW,OD] at hc
   rcases hc with rfl |rfl <;> first |exact Na _ |exact Nat.le_add_right _ _
  exact I1.fpOk this (I1.hok.fresh this)
end
section
variable {X:Cx}{Γ:Fx}{E:XK}{e a b c:Expr}{f fa fb:VF D}{L La Lb:List Nat}{md ma mb:Md}{pos:Pos}
def eT (ds:List D):List D:=ds.mapIdx λi d=>.tuple [.int i,d]
def zS (fa:VF D):VF (List D):=λvs β=>(fa vs β).bnd λx β1=>match x with
 | .tuple ds=>.ok (eT ds) β1
 |_=>.bad
def CV {K:Frag}{B:Option Addr}{G H1:Hp}{p:Addr}{xs:List V}{ds:List D}(hp:gB K G p xs)(r:cF K G xs ds):Walk K B G H1 (eT ds) (Lu K p):=λGc H i s1 s2 m=>by
 have hp':=hp.grow (s1.trans s2).grow
 have l1:=r.len
 have lz:(eT ds).length=ds.length:=by unfold eT;rw[List.length_mapIdx]
 refine⟨λhi=>⟨?_,λx H' y=>?_⟩,λhi=>⟨xs,hp',by omega⟩⟩
 ·have h1:i < xs.length:=by omega
  exact⟨xs,xs[i],hp',by simp[h1]⟩
 ·obtain⟨x,t,ht,hx,rfl,rfl⟩:=y
  obtain⟨d,ed,rd⟩:=r.at' (hx xs hp')
  have xn:=Ext.new s2 (o:=.tup [.int i,x]) ht
  refine⟨upd Gc t (.tup [.int i,x]),.tuple [.int i,d],xn,?_,.tup (.inl (.inl aC)) (.cons (.int i) (.cons (rd.mono (s1.trans xn.gg)) .nil))⟩
  unfold eT
  rw[List.getElem?_mapIdx,ed];rfl
theorem Dk {p pt:Pos}{elts:List Expr}{x1}(hK:X.K=Γ.K)(hg:Gl X "enumerate")(hm:X.mg "enumerate"=none)(ha:SE X Γ E a fa La ma)(hs:starEach [a] X.env= [(false,eval a X.env)]:=by rfl)(hs':starEach [a] X.env=(false,eval a X.env) :: starEach [] X.env:=by rfl) :
  SI X Γ E (.Tuple elts x1 pt) (.Call (.Name "enumerate" p) [a] [] pos) (zS fa) La md:=by
 refine PI.post (Hm hg hm (bc ha cp hs') hs) ?_
 rintro σ H Q ⟨env,G,B,β,I,o⟩
 refine⟨env,G,B,β,I,o.bnd.imp λd1 β1 h x G1 H1 I1 s1 m1 vx=>?_⟩
 have vx:=vx.brw I.boxThere
 rw[hK]
 cases d1 with
 |tuple ds=>
  rcases vx with vx | ⟨p,rfl,hb,q⟩
  ·cases vx with
   | @tup p xs _ hq r=>exact⟨p,xs,rfl,hq.grow I1.sub.grow,h _ G1 H1 I1 s1 m1 (CV hq r)⟩
  ·exact q.elim
 |_=>exact h.elim
end
end L2
namespace L2
open PySem PySem.Spec PyProof.Rows PySem.MeetsSeq PySem.MeetsSeq2 PySem.MeetsSeq3
def Gm (K:Frag):R2:=λx y H Q=>∃a b xs ys,x=.ref a/\y=.ref b/\gB K H a xs/\gB K H b ys/\xs.length + ys.length<=sizeLine/\
 (xs= []->Q (.ref b) H)/\(xs≠ []->ys= []->Q (.ref a) H)/\(xs≠ []->ys≠ []->∀p,H p=none->Q (.ref p) (upd H p (.tup (xs ++ ys))))
section
variable {X:Cx}
def vO:kG X (binaryOp .Add) (Gm X.K):=by
 intro pins s σ H x y v u Q I rx ry h
 obtain⟨a,b,xs,ys,rfl,rfl,ha,hb,hz,q0,q1,q2⟩:=h
 by_cases hx:xs= []
 ·cases rx
  cases ry
  obtain⟨its,r1,p1,_⟩:=I.tuple ha
  obtain⟨its2,r2,p2,_⟩:=I.tuple hb
  obtain⟨⟨cls,dd,data,sl⟩,ho,hc,n,hd⟩:=id p1
  obtain⟨⟨cls2,dd2,data2,sl2⟩,ho2,hc2,n2,hd2⟩:=id p2
  simp only at hc hd hc2 hd2
  subst hc hd hc2 hd2
  have he:its= []:=r1.nil_iff.mpr hx
  exact concat_meets ⟨_,ho,rfl⟩ ⟨_,ho2,rfl⟩ noFill_tuple_add seq_tuple_add PySem.F.slot_tuple_add PySem.F.entry_tuple_add (Pb _ _)
   (tuple_addW0 a b its.toArray its2.toArray n n2 dd dd2 sl sl2 (by simp[he])) ⟨ho,ho2,.ref b,H,I,rfl,q0 hx⟩
 ·exact DL pins s σ H _ _ v u Q I rx ry ⟨a,b,xs,ys,rfl,rfl,ha,hb,hx,hz,q1 hx,q2 hx⟩
end
def mW:D->D->Option D
 | .tuple a,.tuple b=>if a.length + b.length<=sizeLine then some (.tuple (a ++ b)) else none
 |_,_=>none
def Ck {K:Frag}:nt K (Gm K) mW .v:=by
 intro B G H x y dx dy d Q s hB bx by' e k
 cases dx <;> cases dy <;> first | (cases e;done) |skip
 rename_i a b
 simp only[mW] at e
 split at e
 ·rename_i hz
  cases e
  rcases bx with bx | ⟨_,_,_,q⟩
  case inr=>exact q.elim
  rcases by' with by' | ⟨_,_,_,q⟩
  case inr=>exact q.elim
  cases bx with
  | @tup p xs _ hp r1=>
   cases by' with
   | @tup q ys _ hq r2=>
    refine⟨p,q,xs,ys,rfl,rfl,hp.grow s.grow,hq.grow s.grow,by rw[r1.len,r2.len];exact hz,λz=>?_,λz z'=>?_,λ_ _ l hl=>?_⟩
    ·subst z
     cases r1
     exact k _ G H (Ext.refl s) (.tup hq r2)
    ·subst z'
     cases r2
     rw[Oy] at k
     exact k _ G H (Ext.refl s) (.tup hp r1)
    ·have xn:=Ext.new s (o:=.tup (xs ++ ys)) hl
     exact k _ _ _ xn (.tup (.inl (.inl aC)) ((r1.append r2).mono xn.gg))
 ·cases e
end L2
namespace L2
open PySem PySem.Spec PyProof.Rows
def JP (K:Frag):R2:=λx y H Q=>∃a b xs,x=.ref a/\y=.ref b/\iM K H a xs/\iM K H b []/\Q (.bl xs.isEmpty) H
theorem BQ {X:Cx}(hu:X.A.units + 64 < cLine):kG X (compareOp .Eq) (JP X.K):=by
 intro pins s σ H x y v u Q I rx ry h
 obtain⟨a,b,xs,rfl,rfl,ha,hb,q⟩:=h
 cases rx
 cases ry
 obtain⟨its,r,ht,hz⟩:=I.list ha
 obtain⟨its2,r2,ht2,hz2⟩:=I.list hb
 cases r2
 cases r with
 |nil=>exact PySem.SeqAt.eq_listAt (e:=λ_=>true) ht.isList ht2.isList rfl (by omega) (λj h1 _=>absurd h1 (by simp)) ⟨.bl true,H,I,rfl,q⟩
 |cons _ _=>exact PySem.SeqAt.eq_list_lengthsAt ht.isList ht2.isList (by simp) (by omega) ⟨.bl false,H,I,rfl,q⟩
def xw:D->D->Option D
 | .list ds,.list []=>some (.bool ds.isEmpty)
 |_,_=>none
theorem EO {K:Frag}:nt K (JP K) xw .v:=by
 intro B G H x y dx dy d Q s hB bx by' e k
 cases dx with
 |list ds=>
  cases dy with
  |list es=>
   cases es with
   |nil=>
    cases e
    obtain⟨p,xs,rfl,hq,r⟩:=bx.list s
    obtain⟨p2,ys,rfl,hq2,r2⟩:=by'.list s
    cases r2
    refine⟨p,p2,xs,rfl,rfl,.inl hq,.inl hq2,?_⟩
    have:xs.isEmpty=ds.isEmpty:=by cases r <;> rfl
    rw[this]
    exact k _ G H (Ext.refl s) (.bl _)
   |cons _ _=>cases e
  |_=>cases e
 |_=>cases e
end L2
namespace L2
open PySem
mutual
def qJ:D->Bool
 | .none=>true
 | .bool _=>true
 | .int _=>true
 | .str _=>true
 | .tuple ds=>gz ds
 | .list _=>false
 | .dict _=>false
def gz:List D->Bool
 | []=>true
 |d :: ds=>qJ d && gz ds
end
section
variable {P:Program}{w:World}{K:Frag}{mg:Str->Option Value}{base:Heap}{ca:Str->Addr}{G G' H H':Hp}
mutual
theorem Rp.flat (s:ax G H)(s':ax G' H):∀{x:V} {d:D},Rp K G' x d->qJ d=true->Rp K (jw G H) x d
 |_,_,.non,_=>.non
 |_,_,.bl b,_=>.bl b
 |_,_,.int i,_=>.int i
 |_,_,.str x,_=>.str x
 |_,_,.tup h hs,e=>.tup (nD s (h.grow s'.grow)) (cF.flat s s' hs (by simpa[qJ] using e))
 |_,_,.lst h hs,e=>by simp[qJ] at e
 |_,_,.scr h,e=>by simp[qJ] at e
 |_,_,.dK h hs,e=>by simp[qJ] at e
 |_,_,.dT h hs,e=>by simp[qJ] at e
theorem cF.flat (s:ax G H)(s':ax G' H):∀{xs:List V} {ds:List D},cF K G' xs ds->gz ds=true->cF K (jw G H) xs ds
 |_,_,.nil,_=>.nil
 |_,_,.cons h hs,e=>by
  simp only[gz,Ny] at e
  exact .cons (Rp.flat s s' h e.1) (cF.flat s s' hs e.2)
end
def yj (F:List D->FR):List D->FR:=λds=>match F ds with
 | .ok (.list es) false=>.ok (.list es) (gz ds && gz es)
 |r=>r
def FA {F:List D->FR}{ds es:List D}(e:F ds=.ok (.list es) false)(h1:gz ds=true)(h2:gz es=true):yj F ds=.ok (.list es) true:=by
 unfold yj;rw[e];dsimp only;rw[h1,h2];rfl
def GS:Hp:=λ_=>none
def vS:ax GS H:=λb o e=>by cases e
theorem Ew {b:Addr}{o:HO}(h:jw GS H b=some o):Fz o:=by
 unfold jw at h
 have e:GS b=none:=rfl
 rw[e] at h
 cases q:H b with
 |none=>rw[q] at h;cases h
 |some u=>
  rw[q] at h
  dsimp only at h
  split at h
  ·rename_i f;cases h;exact f
  ·cases h
def EY {n:Nat}{F:List D->FR}{vs:List V}{Q:VK}{E:XK}(q:DD K ca n (yj F) vs H Q E):DD K ca n F vs H Q E:=by
 obtain⟨G,ds,sG,hl,r,q⟩:=q
 by_cases z:∃es,F ds=.ok (.list es) false/\gz ds=true/\gz es=true
 ·obtain⟨es,e,h1,h2⟩:=z
  rw[FA e h1 h2] at q
  have sn:ax (jw GS G) H:=(n0 vS).trans sG
  refine⟨jw GS G,ds,sn,hl,r.flat vS (ax.refl _) h1,?_⟩
  rw[e]
  intro v G' H' hh g1 g2 hn fv
  have fv:Rp K G' v (.list es):=fv
  cases fv with
  | @lst a xs _ ha hs=>
   have hH':H' a=some (.lst xs):=g2 _ _ ha
   have hHa:H a=none:=by
    cases z:H a with
    |none=>rfl
    |some o=>
     have z':=BN (hh _ _ z) hH'
     subst z'
     have hm:Mx H a:=Mx.lst z
     have:jw GS G a=none:=by
      cases y:jw GS G a with
      |none=>rfl
      |some o=>
       have y':=BN (sn _ _ y) z
       subst y'
       exact (Ew y).elim
     rw[hn a hm this] at ha
     cases ha
   have sG':ax G H':=sG.trans hh
   refine q (.ref a) (jw G H') H' hh oz (n0 sG') (λb m e=>by rw[uQ hh m];exact e) ?_
   refine⟨a,rfl,hHa,?_,xs,hH',hs.flat sG' g2 h2⟩
   unfold jw
   rw[sG.free hHa,hH']
   exact Nk λf=>f
 ·have:yj F ds=F ds:=by
   unfold yj
   split
   ·rename_i es e
    have hf:(gz ds && gz es)=false:=by
     cases y:(gz ds && gz es) with
     |false=>rfl
     |true=>rw[Ny] at y;exact absurd ⟨es,e,y.1,y.2⟩ z
    rw[hf,e]
   ·rfl
  rw[this] at q
  exact⟨G,ds,sG,hl,r,q⟩
def bR.new {x:Str}{ps:List Str}{k:Nat}{F:List D->FR}(h:bR P w K mg base ca x ps k F):bR P w K mg base ca x ps k (yj F):=by
 obtain⟨f,fd,a,b,c,d⟩:=h.ex
 refine⟨⟨f,fd,a,b,c,d.imp λvs H Q E q=>EY q⟩,λds hn=>h.len ds λz=>hn ?_⟩
 unfold yj;rw[z]
end
section
variable {K:Frag}{h:Heap}{mg:Str->Option Value}
theorem zL {α:Type}{P:List α->Prop}(q:∀a,P [a]):∀us:List α,us.length=1->P us
 | [a],_=>q a
theorem ln2 {α:Type}{P:List α->Prop}(q:∀a b,P [a,b]):∀us:List α,us.length=2->P us
 | [a,b],_=>q a b
theorem Bc {α:Type}{P:List α->Prop}(q:∀a b c,P [a,b,c]):∀us:List α,us.length=3->P us
 | [a,b,c],_=>q a b c
theorem MS {α:Type}{P:List α->Prop}(q:∀a b c d e,P [a,b,c,d,e]):∀us:List α,us.length=5->P us
 | [a,b,c,d,e],_=>q a b c d e
def aR (x:Str)(st:Stmt)(ps:List Str):Prop:=∀(kV doc pm:Value) (an:Option Addr) (cdv ct:Value) (us:List Value),us.length=ps.length->bindArgs (PySem.W.fnOf x x (iU st) (de st) (ar st) .none kV doc pm an cdv ct) ⟨us,[]⟩=pure (ps.zip us)
structure Fo (K:Frag)(mg:Str->Option Value)(x:Str)(st:Stmt)(ps:List Str):Prop where
 ex:∃f fd,gA K mg x st ps f fd
def bB {x:Str}{st:Stmt}{ps:List Str}{f:Addr}{oc:Value}{od an:Option Addr}{sl:Array (Option Value)}{kV doc pm cdv ct:Value}(X:K.In h)(G:h.Ns mainGlobals mg)(b:aR x st ps)(a:PySem.W.nsIn K mainGlobals x=some (some (.ref f)))
  (l:K.lookup f=some ⟨oc,od,.func (PySem.W.fnOf x x (iU st) (de st) (ar st) .none kV doc pm an cdv ct),sl⟩) (c:PySem.W.codeIn K cdv x=true) (k:PySem.W.keepIn K (.ref f)=true):Fo K mg x st ps:=
 ⟨⟨f,_,O6 X G a,ra l c k,(ra l c k).binds b⟩⟩
def Mb:List Str:=["len","range","enumerate","zip","min","max","sum","abs","sorted","reversed","int","str","bool","list","tuple","dict","set","isinstance","repr","any","all","divmod"]
def L5 (K:Frag):Bool:=Mb.all λx=>match PySem.W.nsIn K mainGlobals x with
 |some none=>true
 |_=>false
def IB (q:L5 K=true){x:Str}(hx:x∈Mb):PySem.W.nsIn K mainGlobals x=some none:=by
 have:=NQ.mp q x hx
 split at this
 ·assumption
 ·cases this
def J8 (X:K.In h)(G:h.Ns mainGlobals mg)(q:L5 K=true):iq mg:=by
 have key:∀{x:Str},x∈Mb->mg x=none:=λhx=>PySem.W.mg_none_of X G (IB q hx)
 constructor <;> exact key (by decide)
end
section
variable {X:Cx}{P:Program}{w:World}{K:Frag}{mg:Str->Option Value}{base:Heap}{ca:Str->Addr}
def tQ:kG X (compareOp .IsNot) (λx y H Q=>∃a b,x=.bl a/\y=.bl b/\Q (.bl (!(a == b))) H):=by
 intro pins s σ H x y v u Q I rx ry h
 obtain⟨a,b,rfl,rfl,q⟩:=h
 cases rx;cases ry
 refine wpAny_isNot_plain rfl (bK I q ?_)
 cases a <;> cases b <;> rfl
def C5:D->D->Option D
 | .bool a,.bool b=>some (.bool (!(a == b)))
 |_,_=>none
theorem w9:nt K (λx y H Q=>∃a b,x=.bl a/\y=.bl b/\Q (.bl (!(a == b))) H) C5 .v:=by
 intro B G H x y dx dy d Q s hB bx bv e k
 cases dx with
 |bool a=>
  cases dy with
  |bool b=>cases e;obtain rfl:=bx.bool;obtain rfl:=bv.bool;exact⟨a,b,rfl,rfl,k _ G H (Ext.refl s) (.bl _)⟩
  |_=>cases e
 |_=>cases e
def gO (step:(List D->FR)->List D->FR):Nat->List D->FR
 | 0=>λ_=>.bad
 |n + 1=>step (gO step n)
theorem uh {x:Str}{st:Stmt}{ps:List Str}{f:Addr}{fd:FuncData}{j:Nat}{step:(List D->FR)->List D->FR}(F:gA K mg x st ps f fd)
  (h:∀(k:Nat) (F':List D->FR),j<=k->bR P w K mg base ca x ps k F'->bR P w K mg base ca x ps (k + 1) (step F')):∀n,bR P w K mg base ca x ps (j + n) (gO step n)
 | 0=>⟨⟨f,fd,F.mg,F.F.kp,F.b,BY⟩,λds hn=>(hn rfl).elim⟩
 |n + 1=>h (j + n) _ (Nat.le_add_right _ _) (uh F h n)
end
end L2
namespace L2
open PySem PySem.Spec PyProof.Rows
def E2 {prog:Program}{w:World}{A:Around}{it t:Addr}{xs:Array Value}(hh:A.handled=none)(i:Nat)(hx:xs[i]? =none):Draws prog w A it [it,t] i (λ_ _=>False) (λj h=>j=i/\h.IsListIter it t i/\h.IsList t xs) where
 live:=λ_ _ st=>let ⟨o,ho,_⟩:=st.2.1;⟨o,ho⟩
 frame:=λ_ _ _ st hk=>⟨st.1,st.2.1.at λo e=>hk it (by simp) o e,st.2.2.at λo e=>hk t (by simp) o e⟩
 item:=λj s Q E hi st k=>absurd st.1 (by omega)
 done:=λs Q E st k=>wpAny_nextOf_list_end hh st.2.1 st.2.2 hx k
def GD (K:Frag)(a:Addr):It:=
 ⟨λi H=>∃xs x,iM K H a xs/\xs[i]? =some x,
  λi H v H'=>∃x t,H t=none/\(∀xs,iM K H a xs->xs[i]? =some x)/\v=.ref t/\H'=upd H t (.tup [.int i,x]),
  λi H=>∃xs,iM K H a xs/\xs.length<=i⟩
def AM {h:Heap}{a n:Addr}{i:Nat}{its:Array Value}{b:Addr}(p:h.IsList a its)(q:h.IsListIter n b i):a≠n:=λz=>by
 subst z
 obtain⟨o,e,c,_⟩:=p
 obtain⟨o',e',c',_⟩:=q
 rw[e] at e';cases e'
 rw[c] at c'
 simp at c'
def Ay {h:Heap}{a n it:Addr}{i:Int}{its:Array Value}{old:Value}(p:h.IsList a its)(q:IsEnum h n it i old):n≠a:=λz=>by
 subst z
 obtain⟨o,e,c,_⟩:=p
 rw[q] at e;cases e
 simp at c
def ya {P:Program}{w:World}{K:Frag}{elts:List Expr}{x1}{pos:Pos}(a:Addr)(n:Nat):Turn P w K (.Tuple elts x1 pos) (GD K a) (sM n) (n + 1)
  (λi h=>(∃old,IsEnum h (n + 1) n i old)/\h.IsListIter n a i) where
 mem:=by simp
 obj:=λi h st c hc=>by
  obtain⟨⟨old,z1⟩,⟨o2,z2,_,d2⟩⟩:=st
  simp only[sM,Nh,NW,OD] at hc
  rcases hc with rfl |rfl
  ·exact⟨_,z1,λv z=>by
    have z':Data.fields _=Data.cell v:=z
    cases z'⟩
  ·exact⟨o2,z2,λv z=>by rw[d2] at z;cases z⟩
 keep:=λi h h' st k=>by
  obtain⟨⟨old,z1⟩,z2⟩:=st
  exact⟨⟨old,k _ (by simp) _ z1⟩,z2.at λo e=>k _ (by simp) o e⟩
 item:=by
  intro X hP hw hK hc i pins s σ H E I hf st hg
  subst hP hw hK
  obtain⟨xs,x,ha,hx⟩:=hg
  obtain⟨its,rv,p,hz⟩:=I.list ha
  have p:s.heap.IsList a its.toArray:=p.isList
  obtain⟨u0,hu0,ru0⟩:=rv.get hx
  obtain⟨⟨old,z1⟩,z2⟩:=st
  have hh:X.A.in1.handled=none:=I.ok.hd hc
  have hlt:i < its.toArray.size:=by
   have:=Ng.mp hu0
   simpa using this.1
  refine wpAny_pyNext_enum_itemD (Draws.list hh n a (AM p z2) its.toArray) z1 ⟨z2,p⟩ hlt (IX 1 0 rfl) (by
   simp only[Nh,NW,OD,not_or]
   exact⟨IX 1 0 rfl,Ay p z1⟩) λu h' tk hu q1 q2 q3 q4 q5=>?_
  have eu:u0=u:=by
   have hu:its.toArray[i]? =some u:=hu
   rw[List.getElem?_toArray,hu0] at hu
   exact Option.some.inj hu
  subst eu
  refine⟨_,rfl,wpAny_letOwnedTupleGo_enum (s:={s with heap:=h',toks:=tk + 1}) q1 λh2 r1 r2=>?_⟩
  have r2:∀c,c≠n + 1->h2.get? c=h'.get? c:=r2.2
  have lz:n + 1 < s.heap.objs.size:=Nl z1
  have hT:H s.heap.objs.size=none:=I.hok.fresh (Na _)
  have I1:Inv X pins σ (upd H s.heap.objs.size (.tup [.int i,x])) {s with heap:=s.heap.push {cls:=.type "tuple",data:=.seq #[.int i tk,u0]},toks:=s.toks}:=
   I.laid (λb o e=>Nd _ e) (Na _) ⟨by show 2<=sizeLine;rw[NV];omega,[.int i tk,u0],.cons ⟨tk,rfl⟩ (.cons ru0 .nil),r6.new _ _⟩
  have hf':∀c∈sM n,kz X pins (upd H s.heap.objs.size (.tup [.int i,x])) c:=λc hc=>⟨by
   rw[aB (λz=>?_)]
   ·exact (hf c hc).1
   ·subst z
    simp only[sM,Nh,NW,OD] at hc
    omega,(hf c hc).2⟩
  have I2:Inv X pins σ (upd H s.heap.objs.size (.tup [.int i,x])) {s with heap:=h2,toks:=tk + 1}:=by
   refine I1.turnedL (ch:=sM n) (λc o hc e=>?_) hf'
   have e:(s.heap.push {cls:=.type "tuple",data:=.seq #[.int i tk,u0]}).get? c=some o:=e
   simp only[sM,Nh,NW,OD,not_or] at hc
   rw[r2 c hc.1]
   by_cases z:c=s.heap.objs.size
   ·subst z
    rw[Nu _ rfl] at e
    rw[<-e];exact q3
   ·refine q5 c o hc.1 hc.2 ?_
    rw[Heap.get?_push_ne _ _ _ z] at e
    exact e
  refine⟨.ref s.heap.objs.size,_,I2,rfl,⟨x,_,hT,λxs' h'=>?_,rfl,rfl⟩,⟨⟨u0,r1⟩,q2.1.at λo e=>(r2 _ (IX 0 1 rfl)).trans e⟩,λc hc=>(hf' c hc).1⟩
  rw[I.list_inj h' ha];exact hx
 done:=by
  intro X hP hw hK hc i pins s σ H E I hf st hg
  subst hP hw hK
  obtain⟨xs,ha,hl⟩:=hg
  obtain⟨its,rv,p,hz⟩:=I.list ha
  obtain⟨⟨old,z1⟩,z2⟩:=st
  have hh:X.A.in1.handled=none:=I.ok.hd hc
  have l1:=rv.length
  refine wpAny_pyNext_enum_endD (E2 hh i (xs:=its.toArray) (by simp;omega)) z1 ⟨rfl,z2,p.isList⟩ λh' q=>⟨rfl,?_⟩
  refine I.turnedL (t':=s.toks) (ch:=sM n) (λc o hc e=>?_) hf
  simp only[sM,Nh,NW,OD,not_or] at hc
  exact q c o hc.2 e
 self:=λ_ _ _ _ _ st h=>by
  obtain⟨⟨old,z1⟩,_⟩:=st
  exact Pq z1 h
def Lv (K:Frag)(ta:TA):TI:=λσ H R=>ta σ H λvs H2=>∃a xs,vs= [.ref a]/\iM K H2 a xs/\R (GD K a) H2
section
variable {X:Cx}
theorem Ic {a:Expr}{ta:TA}{p pos pt:Pos}{elts:List Expr}{x1}(hg:Gl X "enumerate")(hm:X.mg "enumerate"=none)(ha:PA X [a] ta)(hs:starEach [a] X.env= [(false,eval a X.env)]:=by rfl) :
  PI X (.Tuple elts x1 pt) (.Call (.Name "enumerate" p) [a] [] pos) (Lv X.K ta):=by
 intro pins s σ H R I h
 refine Call_ (lX I hg hm tH (Ox (cK (ha pos pins s σ H _ I h) λus s1 ⟨vs,H1,I1,r1,q1⟩=>?_) hs rfl))
 obtain⟨a,xs,e,h1,q⟩:=q1
 subst e
 cases r1 with
 |cons r rr=>
  cases rr
  cases r
  obtain⟨its,rv,p1,hz⟩:=I1.list h1
  refine call_enumerate_list p1.isList λh' z1 z2 _ z3=>?_
  refine Pq z1 ⟨_,sM s1.heap.objs.size,_,_,H1,rfl,I1.kept (t':=s1.toks) z3,ya a s1.heap.objs.size,⟨⟨_,z1⟩,z2⟩,λc hc=>?_,q⟩
  have:s1.heap.objs.size<=c:=by
   simp only[sM,Nh,NW,OD] at hc
   rcases hc with rfl |rfl <;> first |exact Na _ |exact Nat.le_add_right _ _
  exact I1.fpOk this (I1.hok.fresh this)
end
section
variable {X:Cx}{Γ:Fx}{E:XK}{e a b c:Expr}{f fa fb:VF D}{L La Lb:List Nat}{md ma mb:Md}{pos:Pos}
def Fl (fa:VF D):VF (List D):=λvs β=>(fa vs β).bnd λx β1=>match x with
 | .list ds=>.ok (eT ds) β1
 |_=>.bad
def CI {K:Frag}{B:Option Addr}{G H1:Hp}{p:Addr}{xs:List V}{ds:List D}(hp:∀Gc H,ax G Gc->ax Gc H->iG B H1 H->iM K H p xs)(r:cF K G xs ds):Walk K B G H1 (eT ds) (GD K p):=λGc H i s1 s2 m=>by
 have hp':=hp Gc H s1 s2 m
 have l1:=r.len
 have lz:(eT ds).length=ds.length:=by unfold eT;rw[List.length_mapIdx]
 refine⟨λhi=>⟨?_,λx H' y=>?_⟩,λhi=>⟨xs,hp',by omega⟩⟩
 ·have h1:i < xs.length:=by omega
  exact⟨xs,xs[i],hp',by simp[h1]⟩
 ·obtain⟨x,t,ht,hx,rfl,rfl⟩:=y
  obtain⟨d,ed,rd⟩:=r.at' (hx xs hp')
  have xn:=Ext.new s2 (o:=.tup [.int i,x]) ht
  refine⟨upd Gc t (.tup [.int i,x]),.tuple [.int i,d],xn,?_,.tup (.inl (.inl aC)) (.cons (.int i) (.cons (rd.mono (s1.trans xn.gg)) .nil))⟩
  unfold eT
  rw[List.getElem?_mapIdx,ed];rfl
theorem vv {p pt:Pos}{elts:List Expr}{x1}(hK:X.K=Γ.K)(hg:Gl X "enumerate")(hm:X.mg "enumerate"=none)(ha:SE X Γ E a fa La .v)(hs:starEach [a] X.env= [(false,eval a X.env)]:=by rfl)(hs':starEach [a] X.env=(false,eval a X.env) :: starEach [] X.env:=by rfl) :
  SI X Γ E (.Tuple elts x1 pt) (.Call (.Name "enumerate" p) [a] [] pos) (Fl fa) La .v:=by
 refine PI.post (Ic hg hm (bc ha cp hs') hs) ?_
 rintro σ H Q ⟨env,G,B,β,I,o⟩
 refine⟨env,G,B,β,I,o.bnd.imp λd1 β1 h x G1 H1 I1 s1 m1 vx=>?_⟩
 have vx:Rp Γ.K G1 x d1:=vx
 rw[hK]
 cases d1 with
 |list ds=>
  cases vx with
  | @lst p xs _ hq r=>exact⟨p,xs,rfl,.inl (Rd.mono (.inl hq) I1.sub),h _ G1 H1 I1 s1 m1 (CI (λGc H t1 t2 _=>.inl (Rd.mono (.inl hq) (t1.trans t2))) r)⟩
 |_=>exact h.elim
end
end L2
namespace RM
open PySem L2
def n5:SF:=(a9 (eh (f1 (gv 0) (gj "int")) (f1 (f1 (gv 0) (gj "bool")) zX)))
def jc:SF:=(a9 (f2 (gv 0) (f2 (cst (.int 1)) (gv 1) Ha) K5))
def gY (aI:List D->FR):SF:=(aJ (lA 1 (([] ++ []) ++ ([] ++ [])) (f2 (cC (aa (cst (.int 0)) ag)) (f2 (gv 0) (cst (.int 0)) aV) qP))
 (aJ (gE (.two 2 3) ([] ++ []) (bL (f2 (gv 0) (cst (.int 1)) aV))
 (vC 1 (([] ++ []) ++ ([2] ++ [])) [] (aw aI (aa (f2 (gv 1) (gv 3) aV) (aa (gv 2) ag))) (gv 3)))
 (tP 1)))
def gQ (aI:List D->FR):SF:=(aJ (lA 2 [] (cC ag))
 (aJ (gE (.two 3 4) [0] (Fl (gv 0))
 (gZ ((([1] ++ ([3] ++ [])) ++ []) ++ (([] ++ []) ++ [])) (xj (cz (f2 (aw aI (aa (gv 1) (aa (gv 3) ag))) (gv 1) (cJ true))) (cz (f2 (f2 (gv 1) (gv 4) CL) (gv 4) (cJ false))))
 (nJ 2 [3] (gv 3))
 jh))
 (tP 2)))
def jT (dw aI:List D->FR):SF:=(aJ (lA 2 [] (cC ag))
 (aJ (bO 3 [] (cst (.int 0)))
 (aJ (iz ([] ++ []) (cz (f2 (f1 (gv 2) bX) (f1 (gv 0) bX) tE))
 (aJ (bO 4 ([0] ++ ([3] ++ [])) (aw dw (aa (gv 0) (aa (gv 3) ag))))
 (aJ (bO 5 ([] ++ []) (aM 1 [1] (.nm 0) (bL (gv 4)) (cz (f2 (gv 0) (gv 1) (lH true))) (gv 0)))
 (aJ (nJ 2 (([] ++ []) ++ []) (f2 (f2 (gv 5) (gv 4) ic) (cst (.int 0)) aV))
 (bO 3 ([3] ++ (([] ++ []) ++ [])) (aw aI (aa (gv 3) (aa (f2 (gv 2) (f1 (cst (.int 1)) pz) aV) ag))))))) 1000)
 (a9 (f1 (gv 2) m9)))))
end RM
namespace L2
open PySem PyProof.Rows
section
variable {X:Cx}{K:Frag}{E:XK}
variable {Γ:Fx}{e a b c:Expr}{f fa fb fc:VF D}{L La Lb:List Nat}{md ma mb mc:Md}{pos:Pos}
def SI.vb {tg:Expr}{fi:VF (List D)}(h:SI X Γ E tg e fi L .v):SI X Γ E tg e fi L .b:=PI.post h λσ H Q ⟨env,G,B,β,I,o⟩=>⟨env,G,B,β,I,o.imp λds β' k J G' H' a b c w=>k J G' H' a b c w.any⟩
end
section
variable {X:Cx}{K:Frag}{σ:St}{G H:Hp}{s:Shared}{E:XK}
def kP (p:Int×Int):List Key:=[.inl p.1,.inl p.2]
def HW {p q:Int×Int}:kP p=kP q↔p=q:=by
 unfold kP
 constructor
 ·intro h
  simp at h
  exact Prod.ext h.1 h.2
 ·intro h;rw[h]
abbrev KP (K:Frag)(G:Hp):List (List Key×V)->List ((Int×Int)×D)->Prop:=Paired λa b=>a.1=kP b.1/\Rp K G a.2 b.2
theorem KP.any {kvs:List (List Key×V)}{acc:List ((Int×Int)×D)}(h:KP K G kvs acc)(p:Int×Int):(kvs.any λkv=>decide (kv.1=kP p))=acc.any λkv=>decide (kv.1=p):=by
 induction h with
 |nil=>rfl
 |cons h _ ih=>
  rw[OC,OC,ih,h.1]
  congr 1
  rw[Oh];exact HW
end
end L2
section
namespace L2.ST
open PySem PySem.W PyProof.Rows
end L2.ST
namespace L2
open PySem PyProof.Rows
section
variable {X:Cx}{K:Frag}{σ:St}{G H:Hp}{s:Shared}{E:XK}
def za (K:Frag)(H:Hp):List V->List (List Int)->Prop:=Paired λv r=>∃b,v=.ref b/\gB K H b (r.map V.int)
theorem za.grow {G H:Hp}(s:ax G H):∀{vs:List V} {rs:List (List Int)},za K G vs rs->za K H vs rs
 |_,_,.nil=>.nil
 |_,_,.cons ⟨b,e,q⟩ t=>.cons ⟨b,e,q.grow s.grow⟩ (za.grow s t)
end
end L2
end
namespace L2
open PySem PyProof.Rows
section
variable {X:Cx}{K:Frag}{σ:St}{G H:Hp}{s:Shared}{E:XK}
theorem tj {α β:Type}{F:α->β->Prop}:∀{l₁:List α} {l₂:List β},Paired F l₁ l₂->∀{i:Nat} {a:α} {b:β},l₁[i]? =some a->l₂[i]? =some b->F a b
 |_,_,.nil,_,_,_,e,_=>by simp at e
 |_,_,.cons h t,0,_,_,e,e'=>by simp at e e';subst e e';exact h
 |_,_,.cons h t,i + 1,_,_,e,e'=>tj t (i:=i) (by simpa using e) (by simpa using e')
theorem m6 (bt:Nat->Nat->Bool):∀k,argBest bt k<=k
 | 0=>Na _
 |k + 1=>by
  unfold argBest
  split
  ·exact Na _
  ·exact Nat.le_succ_of_le (m6 bt k)
end
end L2
namespace L2
open PySem PySem.Spec PyProof.Rows
def Hi:SF:=λ_ _=>.bad
section
variable {X:Cx}{Γ:Fx}{E:XK}
def Ca {st:Stmt}:SS X Γ E st Hi:=λpins s σ H D I ⟨env,G,B,β,J,o⟩=>o.elim
end
end L2
namespace L2.ST
open PySem PySem.SetTable
def MO (k:Int):Prop:=0<=k/\k < 8
structure Jd (f:Int->Int)(led:Bool)(h:Heap)(S:Addr)(es:List (Int×Value)):Prop where
 ex:∃o ep t,h.get? S=some o/\o.ExactSet/\o.data=.set es.toArray ep t/\Tab t (es.map (·.1))/\t.led=led
 el:∀e,e∈es->∃k tk,e=(f k,.int k tk)/\MO k
 nd:(es.map (·.1)).Nodup
def Jd.len {f:Int->Int}{led:Bool}{h:Heap}{S:Addr}{es:List (Int×Value)}(P:Jd f led h S es):es.length<=8:=by
 have:=gN (m:=(List.range 8).map λ(k:Nat)=>f (k:Int)) P.nd λx hx=>by
  obtain⟨e,he,rfl⟩:=NN.mp hx
  obtain⟨k,tk,rfl,h0,h8⟩:=P.el e he
  exact NN.mpr ⟨k.toNat,NR.mpr (by omega),by show f ((k.toNat:Nat):Int)=f k;rw[Int.toNat_of_nonneg h0]⟩
 simpa using this
end L2.ST
namespace L2
open PySem PySem.Spec PyProof.Rows
section
variable {Γ:Fx}{B:Option Addr}{G H G3 H3:Hp}{σ σ3:St}{env env' env3:En}{β β3:Int}
def SR.shape (I:SR Γ B G H σ env β)(J:SR Γ B G3 H3 σ3 env3 β3)(hbr:∀j,Γ.br j=false)(s:ax G G3)(m:iG B H H3)(hl:σ3.length=env'.length)(he:∀(j:Nat) (t:Sl),env'[j]? =some t->t=Sl.no\/(env[j]? =some t/\σ3[j]? =σ[j]?)):SR Γ B G H3 σ3 env' β3:=by
 refine⟨s.trans J.sub,I.old,I.new,J.keep,J.pin,I.fix,λb e=>⟨(J.box b e).1,(I.box b e).2⟩,hl,λj t q=>?_,λj k c d1 d2 q1 q2 q3 q4=>?_⟩
 ·rcases he j t q with rfl | ⟨e,es⟩
  ·trivial
  ·have w:=I.slot j t e
   rw[es]
   cases t with
   |no=>trivial
   |fz d=>exact w
   |ow d=>
    obtain⟨c,w1,w2,w3,w4,w5⟩:=w
    exact⟨c,w1,w2,w3,w4,w5.mono (ax.refl _) λo q=>m.1 c o q w4⟩
   |bx=>exact w
   |br d=>obtain⟨b1,_⟩:=w;rw[hbr j] at b1;cases b1
 ·rcases he j _ q1 with z | ⟨e1,s1⟩
  ·cases z
  ·rcases he k _ q2 with z | ⟨e2,s2⟩
   ·cases z
   ·rw[s1] at q3;rw[s2] at q4
    exact I.sep j k c d1 d2 e1 e2 q3 q4
structure DI (Γ:Fx)(d0:D)(σ:St)(H:Hp)(β:Int)(cs:List (List Int))(B:Option Addr)(G:Hp)(a:Addr)(bs:List Addr):Prop where
 sr:SR Γ B G H σ [.bx,.fz d0,.no,.no,.no] β
 fa:σ[2]? =some (some (.ref a))
 ha:H a=some (.lst (bs.map V.ref))
 len:bs.length=cs.length
 hb:∀(k:Nat) (b:Addr),bs[k]? =some b->H b=some (.lst ((cs.getD k []).map V.int))
 h0:∀b,b∈a :: bs->Γ.H0 b=none/\G b=none/\B≠some b
 nd:(a :: bs).Nodup
end
section
variable {Γ:Fx}{B:Option Addr}{G H G2 H2:Hp}{σ:St}{β:Int}{d0:D}{cs:List (List Int)}{a:Addr}{bs:List Addr}
def DI.ext (I:DI Γ d0 σ H β cs B G a bs)(hbr:∀j,Γ.br j=false)(x:Ext G H G2 H2):DI Γ d0 σ H2 β cs B G a bs:=by
 refine⟨I.sr.shape (I.sr.ext x) hbr x.gg (x.hh.mov B) I.sr.len λj t e=>.inr ⟨e,rfl⟩,I.fa,x.hh _ _ I.ha,I.len,λk b e=>x.hh _ _ (I.hb k b e),I.h0,I.nd⟩
end
end L2
namespace L2.HM
open PySem PySem.W PySem.Spec PyProof.Rows
structure KV (V:List (Addr×Obj)->Shared->Prop)(l:Addr)(n:Nat)(Pv:Nat->Value->Prop):Prop where
 get:∀own z,V own z->∀p,p∈own->z.heap.get? p.1=some p.2
 put:∀own own' z h' tk,V own z->(∀b o,b∉own.map (·.1)->z.heap.get? b=some o->h'.get? b=some o)->own'.map (·.1)=own.map (·.1)->(∀p,p∈own'->h'.get? p.1=some p.2/\∀v,p.2.data≠.cell v)->V own' {z with heap:=h',toks:=tk}
 drop:∀own z h' tk,V own z->(∀b o,b∉own.map (·.1)->z.heap.get? b=some o->h'.get? b=some o)->V [] {z with heap:=h',toks:=tk}
 lst:∀own z,V own z->∃its:List Value,z.heap.IsList l its.toArray/\its.length=n/\∀i v,its[i]? =some v->Pv i v
 add:∀z oI oS,oI.isFreed=false->oS.isFreed=false->(∀v,oI.data≠.cell v)->(∀v,oS.data≠.cell v)->V [] z->V [((z.heap.push oI).objs.size,oS),(z.heap.objs.size,oI)] {z with heap:=(z.heap.push oI).push oS}
section
variable {prog:Program}{w:World}{A:Around}{E:Value->Shared->Prop}{l q I S:Addr}{n:Nat}{Pv:Nat->Value->Prop}{R:Result->Shared->Prop}{V:List (Addr×Obj)->Shared->Prop}
theorem As (k:KV V l n Pv)(kf:Nat->Int)(hh:A.handled=none)(hlI:l≠I)(hSI:S≠I)
  (turn:∀(i:Nat) (v:Value) own z,Pv i v->V own z->wpAny (model prog w) A.in1 (call (.ref q) [v]) (λx z'=>∃t,x=.int (kf i) t/\V own z') (λ_ _=>False) z)
  (hR:∀i v z',Pv i v->(∀j,j < n->kf i<=kf j/\(j < i->kf i < kf j))->V [] z'->R (.ok (.ret v)) z') :
  ∀(r j i:Nat) (z:Shared) (vb:Value) (tb:Tok) (c:Nat) (oI:Obj),n - (j + 1)=r->j + 1<=n->
   V [(S,seqObj "list" #[vb,.int (kf i) tb] c),(I,oI)] z->z.heap.IsListIter I l (j + 1)->Pv i vb->i<=j->(∀j',j'<=j->kf i<=kf j'/\(j' < i->kf i < kf j'))->
   codeAny (model prog w) A (.builtin "min.loop" ⟨[.ref I,.ref q,.ref S],[]⟩) R z:=by
 have hname:(toString "min" ++ toString ".loop":String)="min.loop":=by decide
 intro r
 induction r with
 |zero=>
  intro j i z vb tb c oI hr hj hV hit hvb hij hbest
  have hin:j + 1=n:=by omega
  obtain⟨its,hls,hln,hpv⟩:=k.lst _ _ hV
  have W:=Walks.list (prog:=prog) (w:=w) (A:=A.in1) hh I l hlI its.toArray
  have hsz:its.toArray.size=n:=by rw[Nt];exact hln
  have nS:=k.get _ _ hV (S,seqObj "list" #[vb,.int (kf i) tb] c) (.head _)
  refine codeAny_builtin PySem.F.entry_min_loop ?_
  rw[Around.under_plainId Oo _]
  show wpAny _ A.in1 (seqItems? (.ref S) >>= _) _ _ _
  refine Nf (wpAny_seqItems nS rfl ?_)
  show wpAny _ A.in1 (tryCatch (pyNext (.ref I)) _ >>= _) _ _ _
  refine Nf (O3 (W.done _ _ _ ⟨by rw[hsz,<-hin];exact hit,hls⟩ λh' tk' hk'=>?_))
  have hS':=hk' S _ (by simpa using hSI) nS
  show wpAny _ A.in1 (updateSeq S (λ_=>#[]) >>= _) _ _ _
  refine Nf ?_
  refine wpAny_updateSeq hS' rfl (Nf (wpAny_letGo (NJ ?_)))
  refine hR i vb _ hvb (λj' hj'=>hbest j' (by omega)) (k.drop _ z (h'.update S (Obj.mapSeq λ_=>(#[]:Array Value))) tk' hV λb o hb e=>?_)
  have hb1:b≠S:=λz=>hb (by rw[z];exact .head _)
  have hb2:b≠I:=λz=>hb (by rw[z];exact .tail _ (.head _))
  exact (Ob _ _ (Ne.symm hb1)).trans (hk' b o (by simpa using hb2) e)
 |succ r ih=>
  intro j i z vb tb c oI hr hj hV hit hvb hij hbest
  have hlt:j + 1 < n:=by omega
  obtain⟨its,hls,hln,hpv⟩:=k.lst _ _ hV
  have W:=Walks.list (prog:=prog) (w:=w) (A:=A.in1) hh I l hlI its.toArray
  have hsz:its.toArray.size=n:=by rw[Nt];exact hln
  have nS:=k.get _ _ hV (S,seqObj "list" #[vb,.int (kf i) tb] c) (.head _)
  refine codeAny_builtin PySem.F.entry_min_loop ?_
  rw[Around.under_plainId Oo _]
  show wpAny _ A.in1 (seqItems? (.ref S) >>= _) _ _ _
  refine Nf (wpAny_seqItems nS rfl ?_)
  show wpAny _ A.in1 (tryCatch (pyNext (.ref I)) _ >>= _) _ _ _
  refine Nf (O3 (W.item (j + 1) _ _ _ (by rw[hsz];exact hlt) ⟨hit,hls⟩ λv h' tk' hP hst' hk'=>?_))
  have hv:Pv (j + 1) v:=hpv _ _ (by simpa using hP)
  obtain⟨oI',hoI',hoc,hod⟩:=id hst'.1
  have V1:V [(S,seqObj "list" #[vb,.int (kf i) tb] c),(I,oI')] {z with heap:=h',toks:=tk'}:=k.put _ _ _ _ tk' hV (λb o hb e=>hk' b o (by simpa using λz=>hb (by rw[z];exact .tail _ (.head _))) e) rfl λp hp=>by
   rcases Nh.mp hp with rfl |hp
   ·exact⟨hk' S _ (by simpa using hSI) nS,λv z=>by cases z⟩
   ·rw[NG.mp hp];exact⟨hoI',λv z=>by rw[hod] at z;cases z⟩
  show wpAny _ A.in1 (tryCatch (holding [v] (call (.ref q) [v])) _ >>= _) _ _ _
  refine Nf (O3 (OI (Of (turn (j + 1) v _ _ hv V1) (λx s'' he=>?_) λ_ _ hF=>hF.elim)))
  obtain⟨t2,rfl,V2⟩:=he
  have nS2:=k.get _ _ V2 (S,seqObj "list" #[vb,.int (kf i) tb] c) (.head _)
  have nI2:=k.get _ _ V2 (I,oI') (.tail _ (.head _))
  have hit2:s''.heap.IsListIter I l (j + 1 + 1):=⟨oI',nI2,hoc,hod⟩
  show wpAny _ A.in1 (tryCatch (holding [v,.int (kf (j + 1)) t2] (richCompare .Lt (.int (kf (j + 1)) t2) (.int (kf i) tb) >>= _)) _ >>= _) _ _ _
  refine Nf (O3 (OI (Nf (CmpOf.ints_lt (prog:=prog) (w:=w) (A:=A.in1) (P:=λi v=>∃t,v=.int (kf i) t) kf (λi v h=>h) (j + 1) i _ _ _ _ _ ⟨t2,rfl⟩ ⟨tb,rfl⟩ ?_))))
  refine Nf (OI (N9 ?_))
  refine Nf (wpAny_letGo (NJ ?_))
  by_cases hb':kf (j + 1) < kf i
  ·have s1:=Heap.SameBut.update s''.heap S (Obj.mapSeq λ_=>#[v,.int (kf (j + 1)) t2])
   obtain⟨c2,hc2⟩:∃c2,(s''.heap.update S (Obj.mapSeq λ_=>#[v,.int (kf (j + 1)) t2])).get? S=some (seqObj "list" #[v,.int (kf (j + 1)) t2] c2):=⟨_,get?_update_seq nS2 λ_=>#[v,.int (kf (j + 1)) t2]⟩
   simp only[hb',decide_true,Ol]
   refine Nf ?_
   refine wpAny_updateSeq nS2 rfl (Nf (wpAny_letGo ?_))
   rw[hname]
   refine NJ ⟨plainId_quiet Oo _,ih (j + 1) (j + 1) _ v t2 c2 oI' (by omega) hlt (k.put _ _ _ _ s''.toks V2 (λb o hb e=>?_) rfl λp hp=>?_) ⟨oI',(s1.2 I hSI.symm).trans nI2,hoc,hod⟩ hv (Na _) λj' hj'=>?_⟩
   ·exact (s1.2 b λz=>hb (by rw[z];exact .head _)).trans e
   ·rcases Nh.mp hp with rfl |hp
    ·exact⟨hc2,λv z=>by cases z⟩
    ·rw[NG.mp hp]
     exact⟨(s1.2 I hSI.symm).trans nI2,λv z=>by rw[hod] at z;cases z⟩
   ·by_cases e:j'=j + 1
    ·subst e
     exact⟨by omega,λ_=>by omega⟩
    ·have hb1:=hbest j' (by omega)
     have hb2:=hb1.1
     exact⟨by omega,λ_=>by omega⟩
  ·simp only[hb',decide_false,Oc,Ov]
   refine Nf (wpAny_letGo ?_)
   rw[hname]
   refine NJ ⟨plainId_quiet Oo _,ih (j + 1) i _ vb tb c oI' (by omega) hlt V2 hit2 hvb (by omega) λj' hj'=>?_⟩
   by_cases e:j'=j + 1
   ·subst e
    exact⟨by omega,λ_=>by omega⟩
   ·exact hbest j' (by omega)
def Ml {s:Shared}{Q:Value->Shared->Prop}(k:KV V l n Pv)(kf:Nat->Int)(hh:A.handled=none)(hV:V [] s)(hne:0 < n)
  (turn:∀(i:Nat) (v:Value) own z,Pv i v->V own z->wpAny (model prog w) A.in1 (call (.ref q) [v]) (λx z'=>∃t,x=.int (kf i) t/\V own z') (λ_ _=>False) z)
  (hQ:∀i v z',Pv i v->(∀j,j < n->kf i<=kf j/\(j < i->kf i < kf j))->V [] z'->Q v z') :
  wpAny (model prog w) A (call (.builtin "min") [.ref l] [(Str.ofString "key",.ref q)]) Q E s:=by
 have hname:(toString "min" ++ toString ".loop":String)="min.loop":=by decide
 obtain⟨its0,hls,_,_⟩:=k.lst _ _ hV
 obtain⟨ol,hol,_⟩:=id hls
 have hll:l < s.heap.objs.size:=Nl hol
 refine kmk_tree PySem.F.kind_min PySem.F.plain_min PySem.F.entry_min (kmk_min_key _ _) ?_
 show wpAny _ A.in1 (Builtin.Builtins.bindParams "min" ["key","default"] 0 ⟨[],[(Str.ofString "key",.ref q)]⟩ >>= _) _ _ s
 refine Nf (wpAny_of_eq (show Builtin.Builtins.bindParams "min" ["key","default"] 0 ⟨[],[(Str.ofString "key",.ref q)]⟩=pure [some (.ref q),none] from rfl) ?_)
 refine Nf (NJ ?_)
 refine Nf (OP hls ?_)
 refine Nf (wpAny_newList ?_ (N3 _))
 rw[hname]
 have hS:(s.heap.push {cls:=.type "list_iterator",data:=.fields #[.ref l,.int 0 0]}).objs.size=s.heap.objs.size + 1:=OS ..
 have hlI:l≠s.heap.objs.size:=N0 hll
 have hSI:(s.heap.push {cls:=.type "list_iterator",data:=.fields #[.ref l,.int 0 0]}).objs.size≠s.heap.objs.size:=by rw[hS];exact Nat.ne_of_gt (Nat.lt_succ_self _)
 have V0:=k.add s {cls:=.type "list_iterator",data:=.fields #[.ref l,.int 0 0]} (seqObj "list" #[] 0) rfl rfl (λv z=>by cases z) (λv z=>by cases z) hV
 generalize hSd:(s.heap.push {cls:=.type "list_iterator",data:=.fields #[.ref l,.int 0 0]}).objs.size=S at hSI V0
 refine NJ ⟨plainId_quiet Oo _,?_⟩
 have gS:=k.get _ _ V0 (S,seqObj "list" #[] 0) (.head _)
 have gI:=k.get _ _ V0 (s.heap.objs.size,_) (.tail _ (.head _))
 obtain⟨its,hls0,hln,hpv⟩:=k.lst _ _ V0
 have W:=Walks.list (prog:=prog) (w:=w) (A:=A.in1) hh s.heap.objs.size l hlI its.toArray
 have hsz:its.toArray.size=n:=by rw[Nt];exact hln
 refine codeAny_builtin PySem.F.entry_min_loop ?_
 rw[Around.under_plainId Oo _]
 show wpAny _ A.in1 (seqItems? (.ref _) >>= _) _ _ _
 refine Nf (wpAny_seqItems gS rfl ?_)
 show wpAny _ A.in1 (tryCatch (pyNext (.ref s.heap.objs.size)) _ >>= _) _ _ _
 refine Nf (O3 (W.item 0 _ _ _ (by rw[hsz];exact hne) ⟨⟨_,gI,rfl,rfl⟩,hls0⟩ λv h' tk' hP hst' hk'=>?_))
 have hv:Pv 0 v:=hpv _ _ (by simpa using hP)
 obtain⟨oI',hoI',hoc,hod⟩:=id hst'.1
 have V1:=k.put _ [(S,seqObj "list" #[] 0),(s.heap.objs.size,oI')] _ h' tk' V0 (λb o hb e=>hk' b o (by simpa using λz=>hb (by rw[z];exact .tail _ (.head _))) e) rfl λp hp=>by
  rcases Nh.mp hp with rfl |hp
  ·exact⟨hk' S _ (by simpa using hSI) gS,λv z=>by cases z⟩
  ·rw[NG.mp hp];exact⟨hoI',λv z=>by rw[hod] at z;cases z⟩
 show wpAny _ A.in1 (tryCatch (holding [v] (call (.ref q) [v])) _ >>= _) _ _ _
 refine Nf (O3 (OI (Of (turn 0 v _ _ hv V1) (λx s'' he=>?_) λ_ _ hF=>hF.elim)))
 obtain⟨t2,rfl,V2⟩:=he
 have nS2:=k.get _ _ V2 (S,seqObj "list" #[] 0) (.head _)
 have nI2:=k.get _ _ V2 (s.heap.objs.size,oI') (.tail _ (.head _))
 have s1:=Heap.SameBut.update s''.heap S (Obj.mapSeq λ_=>#[v,.int (kf 0) t2])
 obtain⟨c2,hc2⟩:∃c2,(s''.heap.update S (Obj.mapSeq λ_=>#[v,.int (kf 0) t2])).get? S=some (seqObj "list" #[v,.int (kf 0) t2] c2):=⟨_,get?_update_seq nS2 λ_=>#[v,.int (kf 0) t2]⟩
 show wpAny _ A.in1 (updateSeq S (λ_=>#[v,.int (kf 0) t2]) >>= _) _ _ _
 refine Nf ?_
 refine wpAny_updateSeq nS2 rfl ?_
 rw[hname]
 refine NJ ⟨plainId_quiet Oo _,As k kf hh hlI hSI turn hQ _ 0 0 _ v t2 c2 oI' rfl hne (k.put _ _ _ _ s''.toks V2 (λb o hb e=>(s1.2 b λz=>hb (by rw[z];exact .head _)).trans e) rfl λp hp=>?_) ⟨oI',(s1.2 _ hSI.symm).trans nI2,hoc,hod⟩ hv (Na _) λj' hj'=>?_⟩
 ·rcases Nh.mp hp with rfl |hp
  ·exact⟨hc2,λv z=>by cases z⟩
  ·rw[NG.mp hp]
   exact⟨(s1.2 _ hSI.symm).trans nI2,λv z=>by rw[hod] at z;cases z⟩
 ·have e:j'=0:=by omega
  subst e
  exact⟨by omega,λh=>absurd h (NL _)⟩
end
end L2.HM
namespace L2
open PySem PySem.Spec PyProof.Rows
section
variable {X:Cx}{pins:List (Addr×Obj)}{σ:St}{H:Hp}{l:Addr}{xs:List V}
def LS (X:Cx)(pins:List (Addr×Obj))(σ:St)(H:Hp)(own:List (Addr×Obj))(z:Shared):Prop:=∃H',Inv X (pins ++ own) σ H' z/\ax H H'/\∀p,p∈own->kz X pins H' p.1
def Gv (hl:H l=some (.lst xs)):HM.KV (LS X pins σ H) l xs.length (λi v=>∃x,xs[i]? =some x/\RelV x v):=by
 refine⟨λown z ⟨H',I,s,f⟩ p hp=>(I.pin p (NH _ (NH _ hp))).1,?_,?_,?_,?_⟩
 ·rintro own own' z h' tk ⟨H',I,s,f⟩ kk eo hg
  have hf:∀b,b∈own.map (·.1)->kz X pins H' b:=λb hb=>by
   obtain⟨p,hp,rfl⟩:=NN.mp hb
   exact f p hp
  have It:=I.unpinned.turnedL (t':=tk) (ch:=own.map (·.1)) kk hf
  have hf':∀p,p∈own'->kz X pins H' p.1:=λp hp=>hf p.1 (by rw[<-eo];exact NN.mpr ⟨p,hp,rfl⟩)
  refine⟨H',It.pins_of λp hp=>?_,s,hf'⟩
  rcases Nz.mp hp with hp |hp
  ·exact It.pin p (NH _ hp)
  ·obtain⟨a1,a2,a3,_⟩:=hf' p hp
   exact⟨(hg p hp).1,a1,a2,a3,(hg p hp).2⟩
 ·rintro own z h' tk ⟨H',I,s,f⟩ kk
  have hf:∀b,b∈own.map (·.1)->kz X pins H' b:=λb hb=>by
   obtain⟨p,hp,rfl⟩:=NN.mp hb
   exact f p hp
  exact⟨H',by rw[Oy];exact I.unpinned.turnedL (t':=tk) (ch:=own.map (·.1)) kk hf,s,λp hp=>by cases hp⟩
 ·rintro own z ⟨H',I,s,f⟩
  obtain⟨its,rv,pl,hz⟩:=I.list (.inl (.inl (s _ _ hl)))
  refine⟨its,pl.isList,rv.length.symm,λi v e=>?_⟩
  have hi:i < xs.length:=by rw[rv.length];exact (Ng.mp e).1
  exact⟨xs[i],M9 hi,tj rv (M9 hi) e⟩
 ·rintro z oI oS n1 n2 h1 h2 ⟨H',I,s,f⟩
  rw[Oy] at I
  have kp:∀b u,z.heap.get? b=some u->((z.heap.push oI).push oS).get? b=some u:=λb u e=>Nd _ (Nd _ e)
  have I2:Inv X pins σ H' {z with heap:=(z.heap.push oI).push oS}:=I.kept (t':=z.toks) kp
  have sz:(z.heap.push oI).objs.size=z.heap.objs.size + 1:=OS ..
  have fI:kz X pins H' z.heap.objs.size:=I.fpOk (Na _) (I.hok.fresh (Na _))
  have fS:kz X pins H' (z.heap.push oI).objs.size:=I.fpOk (by rw[sz];exact Nat.le_succ _) (I.hok.fresh (by rw[sz];exact Nat.le_succ _))
  have hf:∀p,p∈ [((z.heap.push oI).objs.size,oS),(z.heap.objs.size,oI)]->kz X pins H' p.1:=λp hp=>by
   rcases Nh.mp hp with rfl |hp
   ·exact fS
   ·rw[NG.mp hp];exact fI
  refine⟨H',I2.pins_of λp hp=>?_,s,hf⟩
  rcases Nz.mp hp with hp |hp
  ·exact I2.pin p (NH _ hp)
  ·obtain⟨a1,a2,a3,_⟩:=hf p hp
   rcases Nh.mp hp with rfl |hp
   ·exact⟨Nu _ n2,a1,a2,a3,h2⟩
   ·rw[NG.mp hp] at a1 a2 a3 ⊢
    exact⟨Nd _ (Nu _ n1),a1,a2,a3,h1⟩
def BZ {s:Shared}{q:Addr}{Q:VK}{E:Value->Shared->Prop}(I:Inv X pins σ H s)(hh:X.A.handled=none)(hl:H l=some (.lst xs))(hne:0 < xs.length)(kf:Nat->Int)
  (turn:∀(i:Nat) (x:V) (v:Value) own z H',xs[i]? =some x->RelV x v->Inv X (pins ++ own) σ H' z->ax H H'->
   wpAny (model X.prog X.w) X.A.in1 (call (.ref q) [v]) (λu z'=>∃t H'',u=.int (kf i) t/\Inv X (pins ++ own) σ H'' z'/\ax H' H'') (λ_ _=>False) z)
  (hQ:∀i x H',xs[i]? =some x->(∀j,j < xs.length->kf i<=kf j/\(j < i->kf i < kf j))->ax H H'->Q x H') :
  wpAny (model X.prog X.w) X.A (call (.builtin "min") [.ref l] [(Str.ofString "key",.ref q)]) (EP X pins σ Q) E s:=by
 refine HM.Ml (Gv (X:=X) (pins:=pins) (σ:=σ) hl) kf hh ⟨H,by rw[Oy];exact I,ax.refl _,λp hp=>by cases hp⟩ hne ?_ ?_
 ·rintro i v own z ⟨x,ex,rx⟩ ⟨H',I',s',f'⟩
  refine Of (turn i x v own z H' ex rx I' s') (λu z' ⟨t,H'',e,I'',s''⟩=>⟨t,e,H'',I'',s'.trans s'',λp hp=>?_⟩) λ_ _ h=>h
  obtain⟨a1,a2⟩:=f' p hp
  exact⟨(I''.pin p (NH _ (NH _ hp))).2.1,a2⟩
 ·rintro i v z' ⟨x,ex,rx⟩ hb ⟨H',I',s',_⟩
  rw[Oy] at I'
  exact⟨x,H',I',rx,hQ i x H' ex hb s'⟩
end
abbrev Ez (X:Cx)(qual:Str)(scope:Scope)(C q:Addr)(cdv:Value):Env:=PySem.W.envX qual scope C q cdv (iB X.env.cells scope.names [])
def xo (X:Cx)(A:Around)(NB:List Str)(qual:Str)(scope:Scope)(q:Addr)(cdv:Value)(s3:Shared)(H3:Hp)(pn:List (Addr×Obj)):Cx:=
 {X with A:=A.deeper (Ez X qual scope s3.heap.objs.size q cdv),N:=NB,s₀:=s3,H₀:=H3,env:=Ez X qual scope s3.heap.objs.size q cdv,outer:=X.stack,stack:=Ez X qual scope s3.heap.objs.size q cdv :: X.stack,ex:=[],fn:=λ_=>false,pn:=pn,xe:=λ_ _=>False}
section
variable {X:Cx}{NB:List Str}{ixs:List Nat}{scope:Scope}{pins:List (Addr×Obj)}{σ:St}{H:Hp}{s:Shared}
def AO {A:Around}{qual:Str}{q:Addr}{cdv:Value}{y:Str}{v:V}{u:Value}(S:cf X NB 1 ixs scope)(nc:∀y∈scope.names,y.2≠.cell)(I:Inv X pins σ H s)(hA:A.frames=some X.stack)(hh:A.handled=none)(hy:NB[0]? =some y)(hloc:scope.names.lookup y=some .local)(rv:RelV v u){h1:Heap}{tk:Nat}
  (hn:h1.Ns s.heap.objs.size (λx=>[(y,u)].reverse.lookup x)) (hk:∀b o,s.heap.get? b=some o->h1.get? b=some o) :
  Inv (xo X A NB qual scope q cdv s H (X.pn ++ pins)) [] (some v :: ixs.map λi=>(σ[i]?).join) H {s with heap:=h1,toks:=tk}:=by
 have stk:=I.stack
 have frees:∀{x:Str},(x,NameKind.free)∈scope.names->∃c,X.env.cells.lookup x=some c:=λ{x} hx=>I.ok.has x (S.frees _ hx rfl)
 have clE:∀{x:Str} {c:Addr},(iB X.env.cells scope.names []).lookup x=some c->(x,NameKind.free)∈scope.names/\X.env.cells.lookup x=some c:=λ{x c} h=>by
  rcases mH h with⟨a,b⟩ |a
  ·obtain⟨c',e⟩:=frees a
   rw[e] at b
   exact⟨a,by rw[e,b];rfl⟩
  ·simp at a
 have isFree:∀{x:Str},(scope.names.lookup x=some .cell\/scope.names.lookup x=some .free)->(x,NameKind.free)∈scope.names:=λ{x} h=>by
  rcases h with h |h
  ·exact absurd rfl (nc _ (N6 h))
  ·exact N6 h
 have neN:∀b o,s.heap.get? b=some o->b≠s.heap.objs.size:=λb o e=>N0 (Nl e)
 have noA:∀b:Addr,b∉(xo X A NB qual scope q cdv s H (X.pn ++ pins)).ex:=λb z=>absurd (show b∈([]:List Addr) from z) (by simp)
 have ok:(xo X A NB qual scope q cdv s H (X.pn ++ pins)).Ok:=
  ⟨I.ok.mod,S.kind,rfl,rfl,Na _,λx y c h1 h2=>I.ok.inj x y c (clE h1).2 (clE h2).2,λx hx=>⟨_,mM (.inl (isFree hx))⟩,λx c h=>(by cases h),λ_=>hh,Around.frames_deeper hA,.inr ⟨rfl,rfl⟩,λb hb=>absurd hb (noA b),I.bs,N8 I.ok.bsz I.sz,λb _ _=>noA b,λb hb=>absurd hb (noA b),stk,I.stkFree⟩
 refine⟨ok,rfl,I.bare,Un.kept hk,⟨_,hn,λi x v' h1' h2' h3'=>?_⟩,λx c h=>?_,I.hok.fresh (Na _),λx c h=>I.freeC x c (clE h).2,λp hp=>?_,I.hok.kept hk,?_⟩
 ·have h1':NB[i]? =some x:=h1'
  cases i with
  |zero=>
   rw[hy] at h1'
   cases h1'
   have h2':some v=some v':=by simpa using h2'
   cases h2'
   exact⟨u,rv,.inl ⟨hloc,by simp⟩⟩
  |succ k=>
   have hk':k < ixs.length:=by
    have:=(Ng.mp h1').1
    rw[S.len] at this;omega
   obtain⟨e1,e2⟩:=S.at' k hk'
   rw[Nat.add_comm 1 k] at e1 e2
   have hm:=e2 x h1'
   rw[List.getElem?_cons_succ,Nm,M9 hk'] at h2'
   simp only[Option.map_some,Option.some.injEq] at h2'
   have hix:ixs.getD k 0=ixs[k]:=by simp[hk']
   have hσ:σ[ixs[k]]? =some (some v'):=by
    cases e:σ[ixs[k]]? with
    |none=>rw[e] at h2';cases h2'
    |some o=>rw[e] at h2';simp at h2';rw[h2']
   rw[e1,hix] at h1'
   have hkind:=S.frees _ hm rfl
   have hvis:y7 X.env.scope x:=hkind.elim (λz=>.inr (.inl z)) (λz=>.inr (.inr z))
   obtain⟨m,hm',hl⟩:=I.loc
   obtain⟨u',r,look⟩:=hl _ x v' h1' hσ hvis
   refine⟨u',r,.inr ⟨.inr (S.names _ hm),?_⟩⟩
   rcases look with⟨z,_⟩ | ⟨_,c,hc,hcell⟩
   ·rcases hkind with q |q
    ·rw[q] at z;cases z
    ·rw[q] at z;cases z
   ·refine⟨c,?_,?_⟩
    ·have:=mM (cells:=X.env.cells) (cs:=[]) (.inl hm)
     rw[hc] at this
     exact this
    ·obtain⟨o,ho,hd⟩:=hcell
     exact⟨o,hk _ _ ho,hd⟩
 ·obtain⟨v,o,ho,hd⟩:=I.cell x c (clE h).2
  exact⟨v,o,hk _ _ ho,hd⟩
 ·have hp':p∈X.pn ++ pins:=by
   rcases Nz.mp hp with z |z
   ·exact z
   ·cases z
  obtain⟨e,n,ne,nf,d⟩:=I.pin p hp'
  refine⟨hk _ _ e,n,neN _ _ e,λz=>?_,d⟩
  rcases Nh.mp (I.stkSub _ z) with q |q
  ·exact ne q
  ·exact nf q
 ·show (some v :: ixs.map λi=>(σ[i]?).join).length=NB.length
  rw[S.len];simp;omega
end
def AF {prog:Program}{w:World}{A:Around}{R:Result->Shared->Prop}{s:Shared}{a:Addr}{args:Args}{o:Obj}{fd:FuncData}{body:Expr}{qn:Str}(hroom:A.depth < recursionLimit)
  (ho:s.heap.get? a=some o)
  (hd':o.data=.func fd) (hco:fd.scope.isCoroutine=false) (hgen:fd.scope.isGenerator=false) (hbody:fd.body=.expr body) (hcd:s.heap.CodeRec fd.code qn)
  (h:wpAny (model prog w) A.in1 (bindArgs fd args) (λbinds s₁=>
   wpAny (model prog w) A.in1 (newFunctionEnv fd.scope fd.globals fd.closure binds (qn ++ ".<locals>.") (some a) fd.code none fd.builtins)
    (λenv s₂=>s₂.heap.NoLimit/\codeAny (model prog w) A (.expr body env) R s₂) (λe s'=>R (.error e) s') s₁) (λe s'=>R (.error e) s') s) :
  codeAny (model prog w) A (.call (.ref a) args) R s:=by
 refine codeAny_of_tree ?_
 show wpAny _ A.in1 (callAny (.ref a) args) _ _ s
 simp only[callAny]
 refine Nf (wpAny_load ho ?_)
 obtain⟨c,oc,vs,tq,hc,hoc,hdc,hq⟩:=hcd
 simp only[hd',callFunction,hco,hgen,hbody,hc]
 rw[hc] at h
 refine Nf (m:=field (.ref c) 1) (wpAny_field hoc hdc hq (Nf (NJ ?_)))
 exact Nf (Of h (λbinds s₁ h₁=>Nf (Of h₁ (λenv s₂ h₂=>Nf (wpAny_enterFrame h₂.1 hroom
  (NJ (And.intro rfl h₂.2)))) λ_ _ h'=>h')) λ_ _ h'=>h')
section
variable {X:Cx}{NB:List Str}{ixs:List Nat}{scope:Scope}{pins:List (Addr×Obj)}{σ:St}{H:Hp}{s:Shared}
def Di {A:Around}{name qual:Str}{params:Arguments}{body:Expr}{pm ctv:Value}{q c':Addr}{y:Str}{v:V}{u:Value}{te:TE}{Q:VK}{qn:Str}
  (S:cf X NB 1 ixs scope) (nc:∀y∈scope.names,y.2≠.cell) (hco:scope.isCoroutine=false) (hgen:scope.isGenerator=false) (I:Inv X pins σ H s) (hA:A.frames=some X.stack) (hh:A.handled=none) (hd:A.depth < recursionLimit) (hy:NB[0]? =some y) (hloc:scope.names.lookup y=some .local) (rv:RelV v u)
  (ho:s.heap.get? q=some (PySem.W.kla_obj name qual params body scope (iB X.env.cells scope.names []) pm c' ctv)) (hcd:s.heap.CodeRec (.ref c') qn)
  (hb:bindArgs (PySem.W.kla_fn name qual params body scope (iB X.env.cells scope.names []) pm (.ref c') ctv) ⟨[u],[]⟩=pure [(y,u)])
  (he:PE (xo X A NB qn scope q (.ref c') s H (X.pn ++ pins)) body te) (h:te (some v :: ixs.map λi=>(σ[i]?).join) H Q) :
  wpAny (model X.prog X.w) A (call (.ref q) [u]) (EP X pins σ Q) (λ_ _=>False) s:=by
 refine wpAny_call ?_
 refine AF hd ho rfl hco hgen rfl hcd ?_
 rw[hb]
 refine NJ (wpAny_newFunctionEnv nc (λx hx=>by rw[NG] at hx;rw[hx];exact hloc) (λh1 hn hsb=>?_) S.kind)
 have hk:∀b o,s.heap.get? b=some o->h1.get? b=some o:=λb o e=>hsb.extBut b o (N0 (Nl e)) (Nd _ e)
 have lim:s.heap.NoLimit:=I.ok.mod.nolimit.keeps λb o e=>I.bk b o e
 refine⟨lim.keeps hk,?_⟩
 show codeAny _ _ (.expr body (Ez X qn scope s.heap.objs.size q (.ref c'))) _ _
 refine PySem.W.kla_codeExpr ?_
 have I':=AO (qual:=qn) (q:=q) (cdv:=.ref c') (tk:=s.toks + [(y,u)].length) S nc I hA hh hy hloc rv hn hk
 refine Of (he [] _ _ H Q I' h) (λu' s' ⟨x,H',I2,rx,qx⟩=>?_) λe s' hx=>hx.elim
 exact I.after ⟨x,H',I2.os,I2.bare,I2.base,I2.hok,rx,qx⟩
end
def Jb (X:Cx)(kr:St->V->V->Hp->VK->Prop):Prop:=∀(pins:List (Addr×Obj)) (s:Shared) (σ:St) (H:Hp) (q:Addr) (x:V) (u:Value) (Q:VK),Inv X pins σ H s->RelV x u->kr σ (.ref q) x H Q->wpAny (model X.prog X.w) X.A.in1 (call (.ref q) [u]) (EP X pins σ Q) (λ_ _=>False) s
def Kj (kr:St->V->V->Hp->VK->Prop)(ta tl:TE):TE:=λσ H Q=>ta σ H λx H1=>tl σ H1 λf H2=>∃(l q:Addr) (xs:List V) (kf:Nat->Int),x=.ref l/\f=.ref q/\H2 l=some (.lst xs)/\0 < xs.length/\
 (∀(i:Nat) (y:V) (H':Hp),xs[i]? =some y->ax H2 H'->kr σ (.ref q) y H' λw H''=>w=.int (kf i)/\ax H' H'')/\
 ∀(i:Nat) (y:V) (H':Hp),xs[i]? =some y->(∀j,j < xs.length->kf i<=kf j/\(j < i->kf i < kf j))->ax H2 H'->Q y H'
section
variable {X:Cx}{a lam:Expr}{ta tl:TE}{p pos kp:Pos}{kr:St->V->V->Hp->VK->Prop}
theorem Aw (hc:X.calm=true)(hg:Gl X "min")(hm:X.mg "min"=none)(hkr:Jb X kr)(ha:PE X a ta)(hl:PE X lam tl)(hv:bootBuiltins "min"=some (.builtin "min"):=by decide +kernel)
  (he:starEach [a] X.env=(false,eval a X.env) :: starEach [] X.env:=by rfl):PE X (.Call (.Name "min" p) [a] [⟨some "key",lam,kp⟩] pos) (Kj kr ta tl):=by
 intro pins s σ H Q I h
 refine OW (lX I hg hm hv ?_ (by decide))
 let K2:V->V->Hp->Prop:=λx f H2=>∃(l q:Addr) (xs:List V) (kf:Nat->Int),x=.ref l/\f=.ref q/\H2 l=some (.lst xs)/\0 < xs.length/\
  (∀(i:Nat) (y:V) (H':Hp),xs[i]? =some y->ax H2 H'->kr σ (.ref q) y H' λw H''=>w=.int (kf i)/\ax H' H'')/\
  ∀(i:Nat) (y:V) (H':Hp),xs[i]? =some y->(∀j,j < xs.length->kf i<=kf j/\(j < i->kf i < kf j))->ax H2 H'->Q y H'
 let QK:V->List V->Hp->Prop:=λx fs H2=>match fs with
  | [f]=>K2 x f H2
  |_=>False
 let QA:List V->Hp->Prop:=λvs H1=>match vs with
  | [x]=>zN tl CJ σ H1 (QK x)
  |_=>False
 have h':zN ta CJ σ H QA:=h
 refine callWith_kw (cK (bc ha cp he pos pins s σ H QA I h') λus s1 ⟨vs,H1,I1,r1,q1⟩=>?_) (by rw[he];rfl) (by rw[he];rfl) rfl rfl
 match vs,r1,q1 with
 | [],_,q1=>exact q1.elim
 |_ :: _ :: _,_,q1=>exact q1.elim
 | [x],r1,q1=>
  refine cK (EX hl Iy pos pins s1 σ H1 (QK x) I1 q1) λws s2 ⟨zs,H2,I2,rz,q2⟩=>?_
  match zs,rz,q2 with
  | [],_,q2=>exact q2.elim
  |_ :: _ :: _,_,q2=>exact q2.elim
  | [f],rz,q2=>
   obtain⟨l,q,xs,kf,rfl,rfl,hL,hne,hk,hQ⟩:=q2
   obtain⟨u,rfl,ru⟩:=vals1 r1
   obtain⟨uf,rfl,rf⟩:=vals1 rz
   cases ru
   cases rf
   show wpAny (model X.prog X.w) X.A (call (.builtin "min") [.ref l] [(Str.ofString "key",.ref q)]) (EP X pins σ Q) _ s2
   refine BZ I2 (I2.ok.hd hc) hL hne kf (λi x v own z H' ex rx I' s'=>?_) λi x H' ex hb s'=>hQ i x H' ex hb s'
   refine Of (hkr (pins ++ own) z σ H' q x v _ I' rx (hk i x H' ex s')) (λu' z' ⟨w,H'',I'',rw',e,s''⟩=>?_) λ_ _ hF=>hF
   subst e
   obtain⟨t,rfl⟩:=rw'
   exact⟨t,H'',rfl,I'',s''⟩
end
section
variable {X:Cx}{NB:List Str}{ixs:List Nat}{scope:Scope}
def wb (X:Cx)(params:Arguments)(body:Expr)(scope:Scope)(q:Addr)(H:Hp):Prop:=∃(name qual:Str) (pm ctv:Value) (c':Addr) (oc:Obj),
 H q=some (.aY (PySem.W.kla_obj name qual params body scope (iB X.env.cells scope.names []) pm c' ctv) (.own 0))/\H c'=some (.aY oc (.own 0))/\DU oc
def wb.step {params:Arguments}{body:Expr}{q:Addr}{H H':Hp}(h:wb X params body scope q H)(s:ax H H'):wb X params body scope q H':=by
 obtain⟨name,qual,pm,ctv,c',oc,h1,h2,h3⟩:=h
 exact⟨name,qual,pm,ctv,c',oc,s _ _ h1,s _ _ h2,h3⟩
def MV (X:Cx)(params:Arguments)(body:Expr)(scope:Scope)(ixs:List Nat)(te:TE):St->V->V->Hp->VK->Prop:=λσ f x H Q=>∃q,f=.ref q/\wb X params body scope q H/\te (some x :: ixs.map λi=>(σ[i]?).join) H Q
def DK {params:Arguments}{body:Expr}{y:Str}{te:TE}(S:cf X NB 1 ixs scope)(nc:∀y∈scope.names,y.2≠.cell)(hco:scope.isCoroutine=false)(hgen:scope.isGenerator=false)(hc:X.calm=true)(hd:X.A.in1.depth < recursionLimit)(hy:NB[0]? =some y)(hloc:scope.names.lookup y=some .local)
  (hb:∀(name qual:Str) (pm ctv:Value) (c':Addr) (u:Value),bindArgs (PySem.W.kla_fn name qual params body scope (iB X.env.cells scope.names []) pm (.ref c') ctv) ⟨[u],[]⟩=pure [(y,u)])
  (he:∀qn q c' s H pn,PE (xo X X.A.in1 NB qn scope q (.ref c') s H pn) body te):Jb X (MV X params body scope ixs te):=by
 rintro pins s σ H q x u Q I rx ⟨q',e,⟨name,qual,pm,ctv,c',oc,h1,h2,vs,qn,t,d1,d2⟩,h⟩
 cases e
 have g1:=(I.hok _ _ h1).1
 have g2:=(I.hok _ _ h2).1
 exact Di S nc hco hgen I I.env0.in1.frames (I.ok.hd hc) hd hy hloc rx g1 ⟨c',oc,vs,t,rfl,g2,d1,d2⟩ (hb name qual pm ctv c' u) (he qn q c' s H _) h
end
def Kw (X:Cx)(Tb:Hp->Prop)(params:Arguments)(body:Expr)(scope:Scope):TE:=λσ H Q=>Tb H/\∀q H',ax H H'->wb X params body scope q H'->Q (.ref q) H'
def lO (fb:VF D)(dr:D)(β:Int)(d:D):Option Int:=match fb [.da d,.da dr] β with
 | .ok (.int k) _=>some k
 |_=>none
def xf (ks:List Int):Nat:=argBest (λi j=>decide (ks.getD i 0 < ks.getD j 0)) (ks.length - 1)
def zo (ir:Nat)(fa fb:VF D):VF D:=λvs β=>(fa vs β).bnd λx β1=>match x,dat vs[ir]? with
 | .list ds,some dr=>if 0 < ds.length/\ds.all (λd=>(lO fb dr β1 d).isSome)=true then R.of ds[xf (ds.map λd=>(lO fb dr β1 d).getD 0)]? β1 else .bad
 |_,_=>.bad
def qp {ks:List Int}(h:0 < ks.length):xf ks < ks.length/\∀i,i < ks.length->(∀j,j < ks.length->ks.getD i 0<=ks.getD j 0/\(j < i->ks.getD i 0 < ks.getD j 0))->i=xf ks:=by
 have h1:=m6 (λi j=>decide (ks.getD i 0 < ks.getD j 0)) (ks.length - 1)
 refine⟨by unfold xf;omega,λi hi hb=>?_⟩
 have first:∀n:Nat,n < ks.length->∀j,j<=n->ks.getD (argBest (λi j=>decide (ks.getD i 0 < ks.getD j 0)) n) 0<=ks.getD j 0/\(j < argBest (λi j=>decide (ks.getD i 0 < ks.getD j 0)) n->ks.getD (argBest (λi j=>decide (ks.getD i 0 < ks.getD j 0)) n) 0 < ks.getD j 0):=by
  intro n
  induction n with
  |zero=>
   intro _ j hj
   have:j=0:=by omega
   subst this
   exact⟨Int.le_refl _,λz=>absurd z (NL _)⟩
  |succ n ih=>
   intro hn j hj
   have ihn:=ih (by omega)
   have le:=m6 (λi j=>decide (ks.getD i 0 < ks.getD j 0)) n
   unfold argBest
   by_cases c:ks.getD (n + 1) 0 < ks.getD (argBest (λi j=>decide (ks.getD i 0 < ks.getD j 0)) n) 0
   ·rw[Nc (Ni c)]
    by_cases e:j=n + 1
    ·subst e;exact⟨Int.le_refl _,λz=>absurd z (NL _)⟩
    ·have:=(ihn j (by omega)).1
     exact⟨by omega,λ_=>by omega⟩
   ·rw[Nk (by rw[NC];exact c)]
    by_cases e:j=n + 1
    ·subst e;exact⟨by omega,λz=>by omega⟩
    ·exact ihn j (by omega)
 have hB:=first (ks.length - 1) (by omega)
 show i=argBest _ (ks.length - 1)
 generalize argBest (λi j=>decide (ks.getD i 0 < ks.getD j 0)) (ks.length - 1)=b at hB h1
 have a1:=hB i (by omega)
 have a2:=hb b (by omega)
 rcases Nat.lt_trichotomy i b with z |z |z
 ·have:=a1.2 z;omega
 ·exact z
 ·have:=a2.2 z;omega
section
variable {X:Cx}{Γ:Fx}{E:XK}{a lam:Expr}{fa fb:VF D}{La Lb:List Nat}{ma mb:Md}{p pos kp:Pos}{NB:List Str}{scope:Scope}{params:Arguments}{body:Expr}{y:Str}{ir:Nat}{Tb:Hp->Prop}
theorem Ar (hc:X.calm=true)(hK:X.K=Γ.K)(hg:Gl X "min")(hm:X.mg "min"=none)(ha:SE X Γ E a fa La .v)(hl:PE X lam (Kw X Tb params body scope))(hT:∀(B:Option Addr) (G H:Hp) σ env β,SR Γ B G H σ env β->Tb H)
  (S:cf X NB 1 [ir] scope) (nc:∀y∈scope.names,y.2≠.cell) (hco:scope.isCoroutine=false) (hgen:scope.isGenerator=false) (hd:X.A.in1.depth < recursionLimit) (hy:NB[0]? =some y) (hloc:scope.names.lookup y=some .local)
  (hb:∀(name qual:Str) (pm ctv:Value) (c':Addr) (u:Value),bindArgs (PySem.W.kla_fn name qual params body scope (iB X.env.cells scope.names []) pm (.ref c') ctv) ⟨[u],[]⟩=pure [(y,u)])
  (he:∀H0 G0 qn q c' s H pn,SE (xo X X.A.in1 NB qn scope q (.ref c') s H pn) (Γ.jK H0 G0 [] (λ_=>false) none) E0 body fb Lb .v)
  (hst:starEach [a] X.env=(false,eval a X.env) :: starEach [] X.env:=by rfl):SE X Γ E (.Call (.Name "min" p) [a] [⟨some "key",lam,kp⟩] pos) (zo ir fa fb) La .v:=by
 let te:TE:=λσ H Q=>∃H0 G0,pT (Γ.jK H0 G0 [] (λ_=>false) none) E0 fb Lb .v σ H Q
 have hkr:=DK (te:=te) S nc hco hgen hc hd hy hloc hb λqn q c' s H pn pins s' σ' H' Q I ⟨H0,G0,h⟩=>he H0 G0 qn q c' s H pn pins s' σ' H' Q I h
 refine PE.post' (Aw hc hg hm hkr ha hl (he:=hst)) λσ H Q ⟨env,G,B,β,I,o⟩=>?_
 refine⟨env,G,B,β,I,o.bnd.imp λd1 β1 h x G1 H1 I1 s1 m1 vx=>?_⟩
 refine⟨hT B G1 H1 σ _ β1 I1,λq H2 s2 hlam=>?_⟩
 cases d1 with
 |list ds=>
  cases edr:dat (vl env)[ir]? with
  |none=>rw[edr] at h;exact h.elim
  |some dr=>
  rw[edr] at h
  dsimp only at h
  by_cases hz:0 < ds.length/\ds.all (λd=>(lO fb dr β1 d).isSome)=true
  case neg=>rw[Nk hz] at h;exact h.elim
  rw[Nc hz] at h
  obtain⟨d,ed,k⟩:=h.of
  have vx:Rp Γ.K G1 x (.list ds):=vx
  cases vx with
  | @lst l xs _ hq r=>
  have hl2:H2 l=some (.lst xs):=s2 _ _ (I1.sub _ _ hq)
  have hlen:=r.len
  refine⟨l,q,xs,λi=>(ds.map λd=>(lO fb dr β1 d).getD 0).getD i 0,rfl,rfl,hl2,by omega,λi y H' ey s'=>?_,λi y H' ey hbest s'=>?_⟩
  ·refine⟨q,rfl,hlam.step s',H',H',?_⟩
   obtain⟨di,edi,rdi⟩:=r.at' ey
   have sH:ax H1 H':=s2.trans s'
   have ry:Rp Γ.K H' y di:=rdi.mono (I1.sub.trans sH)
   have e1:(vl (aY La env))[ir]? =some (.da dr):=by rw[e8];exact join_some edr
   obtain⟨v,hv,rv⟩:∃v,σ[ir]? =some (some v)/\Rp Γ.K H' v dr:=by
    rcases Dp e1 with z |z |z
    ·obtain⟨v,w1,w2⟩:=I1.slot ir _ z
     exact⟨v,w1,w2.mono (I1.sub.trans sH)⟩
    ·obtain⟨c,w1,w2,w3,w4,w5⟩:=I1.slot ir _ z
     exact⟨_,w1,(mw.rpH (B:=B) (.inr ⟨c,rfl,w4,w5⟩) I1.sub).mono sH⟩
    ·obtain⟨_,c,w1,w4,_,w5⟩:=I1.slot ir _ z
     exact⟨_,w1,(mw.rpH (B:=B) (.inr ⟨c,rfl,w4,w5⟩) I1.sub).mono sH⟩
   have J:SR (Γ.jK H' H' [] (λ_=>false) none) none H' H' (some y :: [ir].map λi=>(σ[i]?).join) [.fz di,.fz dr] β1:=by
    refine⟨ax.refl _,ax.refl _,λb _ h=>h,λb o e _=>Kt.of e,(λb hb=>by cases hb),λb e=>e,(λb e=>by cases e),rfl,λi t e=>?_,λi j c d1 d2 e=>?_⟩
    ·match i,e with
     | 0,e=>cases e;exact⟨y,rfl,ry⟩
     | 1,e=>cases e;exact⟨v,by simp[hv],rv⟩
     |i + 2,e=>simp at e
    ·match i,e with
     | 0,e=>cases e
     | 1,e=>cases e
     |i + 2,e=>simp at e
   refine⟨_,H',none,β1,J,?_⟩
   show Out _ _ (fb [.da di,.da dr] β1) _
   have hs:=NQ.mp hz.2 di (Nw edi)
   have ek:(ds.map λd=>(lO fb dr β1 d).getD 0).getD i 0=(lO fb dr β1 di).getD 0:=by
    rw[Nr,Nm,edi];rfl
   cases ef:fb [.da di,.da dr] β1 with
   |exc c=>unfold lO at hs;rw[ef] at hs;cases hs
   |bad=>unfold lO at hs;rw[ef] at hs;cases hs
   |ok dk β'=>
    unfold lO at hs
    rw[ef] at hs
    cases dk with
    |int kk=>
     intro w G'' H'' J2 _ _ vo
     have vo:Rp Γ.K G'' w (.int kk):=vo
     cases vo
     have e2:lO fb dr β1 di=some kk:=by unfold lO;rw[ef]
     exact⟨by dsimp only;rw[ek,e2];rfl,λb o e=>J2.keep b o e (by intro z;cases z)⟩
    |_=>cases hs
  ·have hks:(ds.map λd=>(lO fb dr β1 d).getD 0).length=ds.length:=Nb ..
   have hi:i < xs.length:=(Ng.mp ey).1
   have ei:=(qp (ks:=ds.map λd=>(lO fb dr β1 d).getD 0) (by omega)).2 i (by omega) λj hj=>hbest j (by omega)
   rw[<-ei] at ed
   obtain⟨y',ey',ry⟩:=r.at ed
   rw[ey] at ey'
   cases ey'
   have sH:ax H1 H':=s2.trans s'
   exact k y G1 H' (I1.ext ⟨sH,ax.refl _,I1.sub.trans sH,λ_ _=>rfl⟩) s1 (m1.trans (sH.mov B)) ry
 |_=>exact h.elim
end
section
variable {X:Cx}{pins:List (Addr×Obj)}{σ:St}{H:Hp}{s:Shared}
def Inv.grow {P c':Addr}{ps more:Array Value}{oc:Obj}{h':Heap}{tk:Nat}(I:Inv X pins σ H s)(hP:H P=some (.tbl ps))(hx:Heap.ExtBut P s.heap h')(htb:h'.get? P=some (PySem.W.tabObj (ps ++ more)))(hge:s.heap.objs.size<=c')(hoc:h'.get? c'=some oc) :
  Inv X pins σ (upd (upd H P (.tbl (ps ++ more))) c' (.aY oc (.own 0))) {s with heap:=h',toks:=tk}:=by
 have lt:∀{b:Addr} {o:HO},H b=some o->b≠c':=λ{b o} e z=>by
  have:=I.hok.lt e
  rw[z] at this
  exact NL _ (NM this hge)
 have lts:∀{b:Addr} {o:Obj},s.heap.get? b=some o->b≠c':=λ{b o} e z=>by
  have:=Nl e
  rw[z] at this
  exact NL _ (NM this hge)
 have nP:∀{b:Addr},H b=none->b≠P:=λ{b} e z=>by rw[z,hP] at e;cases e
 have up:∀{b:Addr} {o:HO},H b=some o->b≠P->upd (upd H P (.tbl (ps ++ more))) c' (.aY oc (.own 0)) b=some o:=λ{b o} e n=>by rw[aB (lt e),aB n];exact e
 refine I.step (g':=s.gens) (d':=s.drawn) (t':=tk) (ch:=[]) (λ_ z=>nomatch z) (λb o _ _ _ e n=>hx b o (nP n) e) (λb o _ _ _ e n=>⟨o.slots,hx b o (nP n) e⟩) (λb o _ e n=>by rw[aB (lts e),aB (nP n)];exact n) (λb o _ e=>?_)
  (λb xs e=>up e λz=>by rw[z,hP] at e;cases e) (λb o u e=>up e λz=>by rw[z,hP] at e;cases e) (λb ps' e=>?_) (λm hn=>hn.extBut hx (nP I.free)) (λb u e=>?_) I.bare
 ·by_cases z:b=P
  ·rw[z];exact⟨_,htb⟩
  ·exact⟨o,hx b o z e⟩
 ·by_cases z:b=P
  ·subst z
   rw[hP] at e
   cases e
   exact⟨more,by rw[aB (lt hP),aC]⟩
  ·exact⟨#[],by rw[up e z];simp⟩
 ·by_cases zc:b=c'
  ·subst zc
   rw[aC] at e
   cases e
   exact⟨hoc,oc,hoc⟩
  ·rw[aB zc] at e
   by_cases z:b=P
   ·subst z
    rw[aC] at e
    cases e
    exact htb
   ·rw[aB z] at e
    refine (I.hok b u e).stay (λb' u' hb' q=>hx b' u' (λzz=>?_) q) (λb' q=>up q λzz=>by rw[zz,hP] at q;cases q) λb' xs q=>?_
    ·rcases hb' with rfl |hb'
     ·exact z zz
     ·rw[zz,hP] at hb';cases hb'
    ·rcases q with q | ⟨o,q⟩
     ·exact .inl (up q λzz=>by rw[zz,hP] at q;cases q)
     ·exact .inr ⟨o,up q λzz=>by rw[zz,hP] at q;cases q⟩
def ax.grow_tbl {P c':Addr}{ps:Array Value}{oc:Obj}{l k:Value}(hP:H P=some (.tbl ps))(hc:H c'=none)(hi:DU oc)(hl:∃i t,l=.int i t)(hk:∃i t,k=.int i t):ax H (upd (upd H P (.tbl (ps ++ #[l,k,.ref c']))) c' (.aY oc (.own 0))):=by
 obtain⟨il,tl,rfl⟩:=hl
 obtain⟨ik,tk,rfl⟩:=hk
 intro b o e
 have nc:b≠c':=λz=>by rw[z,hc] at e;cases e
 have Pc:P≠c':=λz=>by rw[z,hc] at hP;cases hP
 by_cases z:b=P
 ·subst z
  rw[hP] at e
  cases e
  refine⟨#[.int il tl,.int ik tk,.ref c'],by rw[aB nc,aC],trivial,λc hcm=>?_⟩
  have:c=c':=by
   simp only[Nh,NW,OD] at hcm
   rcases hcm with z |z |z
   ·cases z
   ·cases z
   ·cases z;rfl
  subst this
  exact⟨oc,aC,hi⟩
 ·exact Kt.of (by rw[aB nc,aB z];exact e)
end
theorem Cj:∀{l:List Value},DB l->TriplesOk l
 | [],_=>trivial
 | .int _ _ :: .int _ _ :: .ref _ :: r,h=>Cj (l:=r) h
theorem zH {pos:Pos}{cv:Value}:∀{l:List Value},DB l->codeAmong pos l=some cv->∃c,cv=.ref c/\Value.ref c∈l
 | [],_,h=>by cases h
 | .int a b :: .int c d :: .ref e :: r,h,hc=>by
  unfold codeAmong at hc
  split at hc
  ·cases hc;exact⟨e,rfl,by simp⟩
  ·obtain⟨c,e1,e2⟩:=zH (l:=r) h hc
   exact⟨c,e1,by simp[e2]⟩
def Ep (P:Addr)(H:Hp):Prop:=∃ps,H P=some (.tbl ps)/\DB ps.toList/\∀c,Value.ref c∈ps.toList->∃o,H c=some (.aY o (.own 0))/\DU o
section
variable {X:Cx}{NB:List Str}{own:Nat}{ixs:List Nat}{scope:Scope}{params:Arguments}{body:Expr}{pos:Pos}{c P:Addr}
theorem Hj (S:cf X NB own ixs scope)(hdef:defaultsOf params X.env=([],[]))(hcode:X.env.code=.ref c)(C:PySem.W.CodeHd X.base c P)(hb:X.base.BuiltinsAt X.mg P)(hgP:mainGlobals≠P):PE X (.Lambda params body scope pos) (Kw X (Ep P) params body scope):=by
 rintro pins s σ H Q I ⟨⟨ps,hP,htr,hrefs⟩,h⟩
 refine PySem.W.kla_eval hdef ?_
 have hcl:closureFor scope X.env=pure (iB X.env.cells scope.names []):=nj λy hy e=>I.ok.has _ (S.frees y hy e)
 have hb':s.heap.BuiltinsAt X.mg P:=by
  obtain⟨bm,o,b1,b2,b3,b4,b5,b6⟩:=hb
  exact⟨bm,o,b1,b2,b3,b4,I.bk _ _ b5,b6⟩
 cases hca:codeAmong pos ps.toList with
 |none=>
  refine PySem.W.kla_makeFunction hcl I.ok.glob (I.mod.glob.keeps I.bk) hcode (C.keeps I.bk) (I.hok P _ hP) (Cj htr) hca hgP hb' λc' ctv h' tk hx hge hlt hrec htb=>?_
  obtain⟨c2,oc,vs,t,e2,hoc,hd,hv⟩:=hrec
  cases e2
  have I1:=I.grow (tk:=tk) hP hx htb hge hoc
  have hc0:H c'=none:=I.hok.fresh hge
  have sm:=ax.grow_tbl (l:=rawInt pos.line) (k:=rawInt pos.col) hP hc0 (oc:=oc) ⟨vs,_,t,hd,hv⟩ ⟨_,_,rfl⟩ ⟨_,_,rfl⟩
  generalize hH1:upd (upd H P (.tbl (ps ++ #[rawInt pos.line,rawInt pos.col,.ref c']))) c' (.aY oc (.own 0))=H1 at I1 sm
  have ec:H1 c'=some (.aY oc (.own 0)):=by rw[<-hH1,aC]
  have ff:H1 h'.objs.size=none:=I1.hok.fresh (Na _)
  have I2:=I1.laid (a:=h'.objs.size) (o:=.aY (PySem.W.kla_obj "<lambda>" (X.env.qual ++ "<lambda>") params body scope (iB X.env.cells scope.names []) ((X.mg "__name__").getD .none) c' ctv) (.own 0)) (t':=tk) (h':=h'.push (PySem.W.kla_obj "<lambda>" (X.env.qual ++ "<lambda>") params body scope (iB X.env.cells scope.names []) ((X.mg "__name__").getD .none) c' ctv)) (λb u e=>Nd _ e) (Na _) ⟨Nu _ rfl,_,Nu _ rfl⟩
  exact⟨.ref h'.objs.size,_,I2,rfl,h _ _ (sm.trans (ax.new ff)) ⟨_,_,_,_,c',oc,aC,by rw[aB (aO ec ff)];exact ec,vs,_,t,hd,hv⟩⟩
 |some cv=>
  obtain⟨c',rfl,hm⟩:=zH htr hca
  obtain⟨oc,ec,hi⟩:=hrefs c' hm
  refine PySem.W.kla_makeFunctionHit hcl I.ok.glob (I.mod.glob.keeps I.bk) hcode (C.keeps I.bk) (I.hok P _ hP) (Cj htr) hca hb' λctv h' tk hk hsz=>?_
  have I1:Inv X pins σ H {s with heap:=h',toks:=tk}:=I.kept (t':=tk) hk
  have ff:H h'.objs.size=none:=I1.hok.fresh (Na _)
  have I2:=I1.laid (a:=h'.objs.size) (o:=.aY (PySem.W.kla_obj "<lambda>" (X.env.qual ++ "<lambda>") params body scope (iB X.env.cells scope.names []) ((X.mg "__name__").getD .none) c' ctv) (.own 0)) (t':=tk) (h':=h'.push (PySem.W.kla_obj "<lambda>" (X.env.qual ++ "<lambda>") params body scope (iB X.env.cells scope.names []) ((X.mg "__name__").getD .none) c' ctv)) (λb u e=>Nd _ e) (Na _) ⟨Nu _ rfl,_,Nu _ rfl⟩
  exact⟨.ref h'.objs.size,_,I2,rfl,h _ _ (ax.new ff) ⟨_,_,_,_,c',oc,aC,by rw[aB (aO ec ff)];exact ec,hi⟩⟩
end
def Ep.mono {P:Addr}{G G':Hp}(h:Ep P G)(s:ax G G'):Ep P G':=by
 obtain⟨ps,e,t,k⟩:=h
 obtain⟨m,e2,t2,k2⟩:=s P _ e
 refine⟨ps ++ m,e2,by rw[OJ];exact t.app t2,λc hc=>?_⟩
 rw[OJ,Nz] at hc
 rcases hc with hc |hc
 ·obtain⟨o,eo,io⟩:=k c hc;exact⟨o,s c _ eo,io⟩
 ·exact k2 c hc
def spT (T:Addr)(K:Frag)(ca:Str->Addr)(n:Nat)(F:List D->FR):Sp:=λvs H Q E=>∃G ds,Ep T G/\ax G H/\ds.length=n/\cF K G vs ds/\match F ds with
 | .ok d fr=>∀v G' H',ax H H'->ax G G'->ax G' H'->(∀b,Mx H b->G b=none->G' b=none)->FV K H G' H' fr d v->Q v H'
 | .exc c=>∀H',ax H H'->E (.ref (ca c)) none H'
 | .bad=>False
structure ka (T:Addr)(P:Program)(w:World)(K:Frag)(mg:Str->Option Value)(base:Heap)(ca:Str->Addr)(x:Str)(ps:List Str)(k:Nat)(F:List D->FR):Prop where
 ex:∃f fd,mg x=some (.ref f)/\PySem.W.keepIn K (.ref f)=true/\Binds K fd ps []/\fq P w K mg base (nE P w) k f fd ps (spT T K ca ps.length F)
 len:∀ds,F ds≠.bad->ds.length=ps.length
section
variable {P:Program}{w:World}{K:Frag}{mg:Str->Option Value}{base:Heap}{ca:Str->Addr}{T:Addr}
def Mu {x qual:Str}{st:Stmt}{f:Addr}{fd:FuncData}{N ps:List Str}{k:Nat}{sp:Sp}(F:Bd K x qual st f fd)(S:aF N ps (ar st))(len:∀vs H Q E,sp vs H Q E->vs.length=ps.length)
  (hbody:∀(cdv:Value) (A:Around) (outer:List Env) (s:Shared) (H:Hp) (vs:List V) (Q:VK) (E:XK),fd.code=cdv->dJ k (A.deeper (envOfC qual (ar st) s.heap.objs.size f cdv))->sp vs H Q E->
   ∃t,rO (pF (nE P w) P w K mg base N qual (ar st) f cdv A outer s H E) (de st) t/\t {nx:=λ_ H'=>Q .non H',rt:=Q} (start N vs) H):fq P w K mg base (nE P w) (k + 1) f fd ps sp:=by
 obtain⟨oc,od,kV,doc,pm,an,cdv,ct,osl,rfl,lk,hcd⟩:=F.ex
 exact CH lk hcd S len λA outer s H vs Q E hr hsp=>hbody cdv A outer s H vs Q E rfl hr hsp
def jG {x qual:Str}{st:Stmt}{f:Addr}{fd:FuncData}{N ps:List Str}{k:Nat}{m:SF}(F:Bd K x qual st f fd)(S:aF N ps (ar st))
  (hbody:∀(cdv:Value) (A:Around) (outer:List Env) (s:Shared) (H G:Hp) (E:XK),fd.code=cdv->Ep T G->dJ k (A.deeper (envOfC qual (ar st) s.heap.objs.size f cdv))->Dq (pF (nE P w) P w K mg base N qual (ar st) f cdv A outer s H E) (Fx.fn K H G ca) E (de st) m) :
  fq P w K mg base (nE P w) (k + 1) f fd ps (spT T K ca ps.length (aS N.length ps.length m)):=by
 have hpn:ps.length<=N.length:=by have:=congrArg List.length S.pre;rw[NU] at this;omega
 refine Mu F S (λvs H Q E h=>?_) (λcdv A outer s H vs Q E hcd hr h=>?_)
 ·obtain⟨G,ds,_,sG,hl,r,_⟩:=h
  rw[r.len];exact hl
 ·obtain⟨G,ds,tG,sG,hl,r,h⟩:=h
  refine⟨_,hbody cdv A outer s H G E hcd tG hr,?_⟩
  have I:=SR.start (ca:=ca) (N:=N) sG r (by omega)
  refine⟨_,G,none,0,I,?_⟩
  unfold aS at h
  rw[Nc hl] at h
  have fin':∀{B G' H' σ env β},SR (Fx.fn K H G ca) B G' H' σ env β->ax H H':=λJ b o e=>J.keep b o e (λz=>by cases z)
  cases q:m (x9 N.length ds) 0 with
  |nx env β=>rw[q] at h;exact λB G' H' σ J s'=>h .non G' H' (fin' J) s' J.sub (λb h1 h2=>J.new b h1 h2) Rp.non
  |bk env β=>rw[q] at h;exact h.elim
  |ct env β=>rw[q] at h;exact h.elim
  |rt d fr β=>
   rw[q] at h
   refine λB G' H' σ env v J s' rv=>h v G' H' (fin' J) s' J.sub (λb h1 h2=>J.new b h1 h2) ?_
   cases fr with
   |true=>exact rv
   |false=>exact rv
  |exc c=>rw[q] at h;exact λH' kp=>h H' λb o e=>kp b o e (λz=>by cases z)
  |bad=>rw[q] at h;exact h.elim
def Ag {f:Addr}{fd:FuncData}{ps:List Str}{k:Nat}:fq P w K mg base (nE P w) k f fd ps (spT T K ca ps.length λ_=>.bad):=
 ⟨λvs H Q E h=>by obtain⟨_,_,_,_,_,_,h⟩:=h;exact h.elim,λA outer s H args us vs Q E _ _ _ _ h=>by obtain⟨_,_,_,_,_,_,h⟩:=h;exact h.elim⟩
def ka.imp {x:Str}{ps:List Str}{k:Nat}{F F':List D->FR}(h:ka T P w K mg base ca x ps k F)(i:∀ds,F' ds≠.bad->F ds=F' ds):ka T P w K mg base ca x ps k F':=by
 obtain⟨f,fd,a,b,c,d⟩:=h.ex
 refine⟨⟨f,fd,a,b,c,d.imp λvs H Q E q=>?_⟩,λds hn=>h.len ds (by rw[i ds hn];exact hn)⟩
 obtain⟨G,ds,t,s,hl,r,q⟩:=q
 refine⟨G,ds,t,s,hl,r,?_⟩
 by_cases hb:F' ds=.bad
 ·rw[hb] at q;exact q.elim
 ·rw[i ds hb];exact q
theorem vR {x:Str}{st:Stmt}{ps:List Str}{f:Addr}{fd:FuncData}{j:Nat}{step:(List D->FR)->List D->FR}(F:gA K mg x st ps f fd)
  (h:∀(k:Nat) (F':List D->FR),j<=k->ka T P w K mg base ca x ps k F'->ka T P w K mg base ca x ps (k + 2) (step F')):∀n,ka T P w K mg base ca x ps (j + 2 * n) (gO step n)
 | 0=>⟨⟨f,fd,F.mg,F.F.kp,F.b,Ag⟩,λds hn=>(hn rfl).elim⟩
 |n + 1=>h (j + 2 * n) _ (Nat.le_add_right _ _) (vR F h n)
end
section
variable {X:Cx}{Γ:Fx}{E:XK}{a:Expr}{es:List Expr}{fr:VF (List D)}{L:List Nat}{pos:Pos}{T:Addr}
theorem xK {F:List D->FR}{ps:List Str}{Q:VK}{B:Option Addr}{G H:Hp}{σ:St}{env:En}{β:Int}(hT:Ep T Γ.G0)(I:SR Γ B G H σ env β)(hK:X.K=Γ.K){wv:Bool}
  (h:Out Γ E (if wv=true then sO F fr (vl env) β else aw F fr (vl env) β) λd β'=>∀v G' H',SR Γ B G' H' σ (aY L env) β'->ax G G'->iG B H H'->VO Γ.K B H G' H' (if wv=true then .w else .v) d v->Q v H') (hl:∀ds,F ds≠.bad->ds.length=ps.length) :
  aT Γ E fr L σ H λvs H1=>spT T X.K Γ.ca ps.length F vs H1 Q E:=by
 refine⟨env,G,B,β,I,?_⟩
 have h:Out Γ E (fr (vl env) β) λds β1=>Out Γ E (match F ds with
   | .ok d true=>.ok d β1
   | .ok d false=>if wv=true then .bad else .ok d β1
   | .exc c=>.exc c
   | .bad=>.bad) λd β'=>∀v G' H',SR Γ B G' H' σ (aY L env) β'->ax G G'->iG B H H'->VO Γ.K B H G' H' (if wv=true then .w else .v) d v->Q v H':=by
  cases wv with
  |true=>
   simp only[Ol] at h ⊢
   refine h.bnd.imp λds β1 h=>?_
   cases q:F ds with
   |ok d b=>rw[q] at h;cases b <;> exact h
   |exc c=>rw[q] at h;exact h
   |bad=>rw[q] at h;exact h
  |false=>
   simp only[Oc,Ov] at h ⊢
   refine h.bnd.imp λds β1 h=>?_
   cases q:F ds with
   |ok d b=>rw[q] at h;cases b <;> exact h
   |exc c=>rw[q] at h;exact h
   |bad=>rw[q] at h;exact h
 refine h.imp λds β1 k vs G1 H1 I1 s1 m1 r=>?_
 refine⟨G1,ds,hT.mono I1.old,I1.sub,?_,by rw[hK];exact r,?_⟩
 ·exact hl ds λz=>by rw[z] at k;exact k
 cases q:F ds with
 |bad=>rw[q] at k;exact k
 |exc c=>rw[q] at k;exact λH' s=>k H' (I1.kp s)
 |ok d b=>
  rw[q] at k
  intro v G' H' hh hg hs hn fv
  obtain⟨I2,m2⟩:=I1.called hh hg hs hn
  cases b with
  |true=>
   obtain⟨p,rfl,p1,p2,p3⟩:∃a,v=.ref a/\H1 a=none/\G' a=none/\Own X.K G' H' a d:=fv
   rw[hK] at p3
   have hp:=fT m1 I1.boxThere p1
   cases wv with
   |true=>exact k _ G' H' I2 (s1.trans hg) (m1.trans m2) ⟨p,rfl,hp,p2,p3⟩
   |false=>
    obtain⟨q1,q2,q3,q4⟩:=I1.fresh p1
    obtain⟨G3,I3,s3,r3⟩:=I2.letIn q1 p2 q3 q4 p3
    exact k _ G3 H' I3 ((s1.trans hg).trans s3) (m1.trans m2) r3
  |false=>
   cases wv with
   |true=>exact k.elim
   |false=>
    have fv:Rp X.K G' v d:=fv
    rw[hK] at fv
    exact k _ G' H' I2 (s1.trans hg) (m1.trans m2) fv
def fx {x:Str}{ps:List Str}{k:Nat}{F:List D->FR}{p:Pos}(hT:Ep T Γ.G0)(hf:ka T X.prog X.w X.K X.mg X.base Γ.ca x ps k F)(hr:dJ k X.A)(hx:Passes (nE X.prog X.w) X E)(hK:X.K=Γ.K)(hg:Gl X x)(ha:SA X Γ E (a :: es) fr L)(hdb:(x == ("__debug__":Str))=false:=by decide)
  (he:starEach (a :: es) X.env=(false,eval a X.env) :: starEach es X.env:=by rfl) (hpl:(backTo pos (starEach es X.env)).any (·.1)=false:=by rfl):SE X Γ E (.Call (.Name x p) (a :: es) [] pos) (aw F fr) L .v:=by
 obtain⟨f,fd,hm,hk,hb,hF⟩:=hf.ex
 refine PE.post' (nK (dvs:=[]) hF hr hg hm hk hb .nil hx ha hdb he hpl) λσ H Q ⟨env,G,B,β,I,o⟩=>?_
 show aT Γ E fr L σ H λvs H1=>spT T X.K Γ.ca ps.length F (vs ++ []) H1 Q E
 have:=xK (Q:=Q) (wv:=false) (ps:=ps) hT I hK o hf.len
 simpa using this
end
structure AN (mg:Str->Option Value)(base:Heap)(c T:Addr):Prop where
 hd:PySem.W.CodeHd base c T
 bt:base.BuiltinsAt mg T
 ne:mainGlobals≠T
def JC {X:Cx}{A:Around}{NB:List Str}{qual:Str}{scope:Scope}{q:Addr}{cdv:Value}{s3:Shared}{H3:Hp}{pn:List (Addr×Obj)}{P:Program}{w:World}:Passes (nE P w) (xo X A NB qual scope q cdv s3 H3 pn) E0:=λpins σ H s e s' I h=>by
 obtain⟨_,_,_,_,_,_,_,_,_,q⟩:=h
 exact q.elim
theorem AG {P:Program}{w:World}{K:Frag}{mg mb:Str->Option Value}{CX:z0}{k:Nat}{fa a T c:Addr}{fd:FuncData}{x:Str}{sp:Sp}{s₁:Shared}{vs:List Value}{ns:List Int}
  (KX:K.In s₁.heap) (hns:s₁.heap.Ns mainGlobals mg) (hb:s₁.heap.Ns builtinsNs mb) (hbb:∀x:Str,x≠"__name__"->mb x=bootBuiltins x) (hlim:s₁.heap.NoLimit) (hsys:∃mm,s₁.heap.Ns sysModules mm) (hg:s₁.gens=#[])
  (hbm:∃bm ob,mg "__builtins__"=some (.ref bm)/\bm≠builtinsNs/\s₁.heap.get? bm=some ob/\ob.cls=.type "module"/\ob.dict=some builtinsNs/\ob.data=.plain)
  (hT:s₁.heap.get? T=some (PySem.W.tabObj #[])) (hKT:K.lookup T=none) (hcd:PySem.W.codeHdIn K c T=true)
  (ha:s₁.heap.get? a=some {cls:=.type "list",data:=.seq vs.toArray}) (hi:IntsAre vs ns) (hl:ns.length<=sizeLine) (hr:dJ k callerA)
  (F:∀base:Heap,K.In base->base.Ns mainGlobals mg->AN mg base c T->fq P w K mg base CX k fa fd [x] sp) (hbind:∀(s:Shared) (u:Value),BindsTo s fd ⟨[u],[]⟩ [(x,u)])
  (hsp:∀H:Hp,H T=some (.tbl #[])->iM K H a (ns.map V.int)->sp [.ref a] H (λv _=>v=.bl true) λ_ _ _=>False)
  (hCX:∀H e s',CX [] H s₁ (λ_ _ _=>False) e s'->False) :
  codeAny (model P w) callerA (.call (.ref fa) ⟨[.ref a],[]⟩) (λr s'=>r=.ok (.ret (.bool true))/\OldK s₁.heap s'.heap/\s'.os=s₁.os/\AllBare s'.gens) s₁:=by
 have rv:=tD hi
 have lenV:=hi.length
 have aT:a≠T:=λz=>by rw[z,hT] at ha;cases ha
 have tabs:s₁.heap.TableAt c T #[]:=(PySem.W.codeHd_of_K KX hcd).tab hT
 have core:∀H:Hp,(∀b,b≠T->H b=none\/∃o xs,H b=some (.aY o (.lst xs)))->H T=some (.tbl #[])->iM K H a (ns.map V.int)->mU P w H s₁.heap->(∀b,H b≠none->b=a\/b=T)->(H a≠none->K.lookup a=none)->
   codeAny (model P w) callerA (.call (.ref fa) ⟨[.ref a],[]⟩) (λr s'=>r=.ok (.ret (.bool true))/\OldK s₁.heap s'.heap/\s'.os=s₁.os/\AllBare s'.gens) s₁:=by
  intro H hO hHT hS hok hA hK
  have base_of:∀{b:Addr} {o:Obj},s₁.heap.get? b=some o->H b=none->(rS s₁.heap H).get? b=some o:=λe n=>Cz e n
  have noO:∀{b:Addr} {o:Obj},s₁.heap.get? b=some o->(∀xs n,o.data≠.seq xs n)->(∀ps,o.data≠.fields ps)->H b=none:=λ{b o} e d1 d2=>by
   cases q:H b with
   |none=>rfl
   |some u=>
    rcases hA b (by rw[q];simp) with e' |e'
    ·subst e'
     rw[ha] at e;cases e
     exact absurd rfl (d1 _ _)
    ·subst e'
     rw[hT] at e;cases e
     exact absurd rfl (d2 _)
  have nsK:∀{b:Addr} {m:Str->Option Value},s₁.heap.Ns b m->(rS s₁.heap H).Ns b m:=λ{b m} ⟨o,es,ep,e,d,r⟩=>⟨o,es,ep,base_of e (noO e (λxs n z=>by rw[d] at z;cases z) λps z=>by rw[d] at z;cases z),d,r⟩
  have hKb:K.In (rS s₁.heap H):=λb o e=>base_of (KX b o e) (by
   cases q:H b with
   |none=>rfl
   |some u=>
    rcases hA b (by rw[q];simp) with e' |e'
    ·subst e'
     rw[hK (by rw[q];simp)] at e;cases e
    ·subst e'
     rw[hKT] at e;cases e)
  have hM:Mod K mg (rS s₁.heap H):=⟨hKb,nsK hns,⟨mb,nsK hb,hbb⟩,let ⟨mc,h1,h2⟩:=hlim;⟨mc,nsK h1,h2⟩,let ⟨mm,h1⟩:=hsys;⟨mm,nsK h1⟩⟩
  have neM:mainGlobals≠T:=λz=>by
   obtain⟨o,es,ep,e,d,_⟩:=hns
   rw[z,hT] at e
   cases e
   have d':Data.fields #[]=Data.dict es ep:=d
   cases d'
  have hL:AN mg (rS s₁.heap H) c T:=by
   refine⟨PySem.W.codeHd_of_K hKb hcd,?_,neM⟩
   obtain⟨bm,ob,b1,b2,b3,b4,b5,b6⟩:=hbm
   refine⟨bm,ob,b1,b2,λz=>?_,λz=>?_,base_of b3 (noO b3 (λxs n z=>by rw[b6] at z;cases z) λps z=>by rw[b6] at z;cases z),b4,b5,b6⟩
   ·obtain⟨o,es,ep,e,d,_⟩:=hns
    rw[<-z,b3] at e
    cases e
    rw[b6] at d
    cases d
   ·rw[z,hT] at b3
    cases b3
    cases b4
  have e0:xR P w K mg (rS s₁.heap H) callerA [] s₁ H:=⟨rfl,hM,λb o e=>EL e,Nat.le_of_eq (zY _ _),trivial,λb hb=>absurd (show b∈([]:List Addr) from hb) (by simp),hok,.of_eq hg⟩
  refine codeAny_mono ((F _ hKb (nsK hns) hL).run callerA [] s₁ H ⟨[.ref a],[]⟩ [.ref a] [.ref a] _ _ hr e0 (hbind s₁ (.ref a)) (.cons rfl .nil) (hsp H hHT hS)) λr s' h=>?_
  cases r with
  |error e=>exact (hCX H e s' h).elim
  |ok fl=>
   cases fl with
   |next=>exact False.elim h
   |brk=>exact False.elim h
   |cont=>exact False.elim h
   |ret u=>
    obtain⟨v,H',os,bare,un,hok',r',q⟩:=h
    have q':v=.bl true:=q
    subst q'
    obtain rfl:u=Value.bool true:=r'
    refine⟨rfl,⟨λb o e=>?_,λb o e=>?_⟩,os,bare⟩
    ·by_cases bT:b=T
     ·subst bT
      rw[hT] at e
      cases e
      obtain⟨more,e2⟩:=un.tbls b _ hHT
      exact .inr (.inl ⟨tabs.isCodeTable,rfl,#[],more,rfl,hok' b _ e2⟩)
     ·refine .inl ?_
      cases q:H b with
      |none=>exact un.keep b o e q (by intro z;exact absurd (show b∈([]:List Addr) from z) (by simp)) (by simp)
      |some u=>
       rcases hO b bT with z | ⟨ob,xs,z⟩
       ·rw[q] at z;cases z
       ·have z2:=un.frzs b ob _ z
        obtain⟨e1,_⟩:=hok b _ z
        obtain⟨e2,_⟩:=hok' b _ z2
        rw[e] at e1;cases e1
        exact e2
    ·by_cases bT:b=T
     ·subst bT
      obtain⟨more,e2⟩:=un.tbls b _ hHT
      exact⟨_,hok' b _ e2⟩
     ·cases q:H b with
      |none=>exact⟨o,un.keep b o e q (by intro z;exact absurd (show b∈([]:List Addr) from z) (by simp)) (by simp)⟩
      |some u=>
       rcases hO b bT with z | ⟨ob,xs,z⟩
       ·rw[q] at z;cases z
       ·exact⟨_,(hok' b _ (un.frzs b ob _ z)).1⟩
 cases hk:K.lookup a with
 |some o=>
  have e:=KX a o hk
  rw[ha] at e
  cases e
  refine core (λb=>if b=T then some (.tbl #[]) else none) (λb n=>.inl (Nk n)) (Nc rfl) (.inr ⟨_,vs.toArray,_,hk,rfl,rfl,rfl,by rw[Nt,lenV];exact hl,by simpa using rv⟩) (λb u z=>?_) (λb z=>?_) λz=>absurd (Nk aT) z
  ·by_cases hb:b=T
   ·have z':=(Nc hb).symm.trans z
    cases z'
    subst hb
    exact hT
   ·have z':=(Nk hb).symm.trans z
    cases z'
  ·by_cases hb:b=T
   ·exact .inr hb
   ·exact absurd (Nk hb) z
 |none=>
  refine core (λb=>if b=T then some (.tbl #[]) else if b=a then some (.aY {cls:=.type "list",data:=.seq vs.toArray} (.lst (ns.map V.int))) else none) (λb n=>?_) (Nc rfl) (.inl (.inr ⟨{cls:=.type "list",data:=.seq vs.toArray},(Nk aT).trans (Nc rfl)⟩)) (λb u z=>?_) (λb z=>?_) λ_=>hk
  ·by_cases hb:b=a
   ·exact .inr ⟨_,_,(Nk n).trans (Nc hb)⟩
   ·exact .inl ((Nk n).trans (Nk hb))
  ·by_cases hbT:b=T
   ·have z':=(Nc hbT).symm.trans z
    cases z'
    subst hbT
    exact hT
   ·have z:=(Nk hbT).symm.trans z
    by_cases hb:b=a
    ·have z':=(Nc hb).symm.trans z
     cases z'
     subst hb
     exact⟨ha,by rw[Nb];exact hl,vs,_,rv,ha⟩
    ·have z':=(Nk hb).symm.trans z
     cases z'
  ·by_cases hbT:b=T
   ·exact .inr hbT
   ·by_cases hb:b=a
    ·exact .inl hb
    ·exact absurd ((Nk hbT).trans (Nk hb)) z
def uj (T:Addr)(K:Frag):Sp:=λvs H Q _=>∃(a:Addr) (ns:List Int),vs= [.ref a]/\H T=some (.tbl #[])/\iM K H a (ns.map V.int)/\∀H',ax H H'->Q (.bl true) H'
def Cu {l:PySem.W.OpenLaw}{n k:Nat}{q:Program}{loose:List Str}{XP:(Str->Option Value)->Heap->Prop}{YP:World->Heap->Prop}{d:DefRec}{K:Params->Frag}{T c:Addr}
  (hn:l.most=some n) (hn2:n<=sizeLine) (hdf:d.params.defaults= []) (hi:PyProof.Rows.importsNone q=true) (hr:dJ k callerA)
  (hY:∀(w:World) (h:Heap),YP w h->(K w.params).In h) (hYT:∀(w:World) (h:Heap),YP w h->h.get? T=some (PySem.W.tabObj #[])) (hKT:∀p,(K p).lookup T=none) (hcd:∀p,PySem.W.codeHdIn (K p) c T=true)
  (F:∀(w:World) (mg:Str->Option Value) (fa:Addr) (h:Heap),(K w.params).In h->h.Ns mainGlobals mg->mg d.name=some (.ref fa)->
   ∃fd:FuncData,(∀(s:Shared) (u:Value),BindsTo s fd ⟨[u],[]⟩ [("script",u)])/\
    ∀base:Heap,(K w.params).In base->base.Ns mainGlobals mg->AN mg base c T->fq l.prog w (K w.params) mg base (nE l.prog w) k fa fd ["script"] (uj T (K w.params))) :
  PySem.W.WalkO q loose XP YP l.row.toRowW d [] (λf vs=>PySem.call f vs):=by
 refine Att.wZ hn hdf λw s₀ s₁ mg mb fa o pm cd doc a vs ns G Y ho hd hcd' hmg hobj hints hlen hg=>?_
 have KX:=hY w _ Y
 obtain⟨fd,hb,hF⟩:=F w mg fa _ KX G.T.g hmg
 exact AG KX G.T.g G.T.b G.T.builtins G.T.nolimit (let ⟨mm,h1,_⟩:=(G.T.seer hi).mods;⟨mm,h1⟩) hg G.T.bmain (hYT w _ Y) (hKT _) (hcd _) hobj hints (N8 hlen hn2) hr hF hb (λH hO hS=>⟨a,ns,rfl,hO,hS,λ_ _=>rfl⟩) λH e s' z=>by
  obtain⟨_,_,_,_,_,_,_,_,_,z⟩:=z
  exact z
section
variable {X:Cx}{Γ:Fx}{E:XK}{pos:Pos}
def wj {x:Str}{k:Nat}{F:List D->FR}{p:Pos}(hf:bR X.prog X.w X.K X.mg X.base Γ.ca x [] k F)(hr:dJ k X.A)(hx:Passes (nE X.prog X.w) X E)(hK:X.K=Γ.K)(hg:Gl X x)(hdb:(x == ("__debug__":Str))=false:=by decide):SE X Γ E (.Call (.Name x p) [] [] pos) (aw F ag) [] .v:=by
 obtain⟨f,fd,hm,hk,hb,hF⟩:=hf.ex
 refine PE.post' (CB (dvs:=[]) hF hr hg hm hk hb .nil hx hdb) λσ H Q ⟨env,G,B,β,I,o⟩=>?_
 obtain⟨env',G',B',β',I',o'⟩:=oN (Q:=Q) (wv:=false) (ps:=[]) I hK o hf.len
 exact o' [] G' H I' (ax.refl _) (iG.refl _ _) .nil
end
structure MH (K:Frag)(mg:Str->Option Value)(x:Str)(st:Stmt)(ps:List Str)(c:Addr):Prop where
 ex:∃f fd,gA K mg x st ps f fd/\fd.code=.ref c
def HR {K:Frag}{mg:Str->Option Value}{h:Heap}{x:Str}{st:Stmt}{ps:List Str}{f c:Addr}{oc:Value}{od an:Option Addr}{sl:Array (Option Value)}{kV doc pm ct:Value}(X:K.In h)(G:h.Ns mainGlobals mg)(b:aR x st ps)(a:PySem.W.nsIn K mainGlobals x=some (some (.ref f)))
  (l:K.lookup f=some ⟨oc,od,.func (PySem.W.fnOf x x (iU st) (de st) (ar st) .none kV doc pm an (.ref c) ct),sl⟩) (hc:PySem.W.codeIn K (.ref c) x=true) (k:PySem.W.keepIn K (.ref f)=true):MH K mg x st ps c:=
 ⟨⟨f,_,⟨O6 X G a,ra l hc k,(ra l hc k).binds b⟩,rfl⟩⟩
theorem MR {α:Type}{P:List α->Prop}(q:P []):∀us:List α,us.length=0->P us
 | [],_=>q
def Mg {T:Addr}{H:Hp}(h:H T=some (.tbl #[])):Ep T H:=⟨#[],h,trivial,λc hc=>by simp at hc⟩
end L2
namespace RM
open PySem L2
def k7:SF:=(a9 (GA (f2 (f2 (gv 1) (cst (.int 0)) aV) (f2 (gv 2) (cst (.int 1)) aV) (cJ false)) (f2 (bY (aa (f2 (gv 1) (cst (.int 0)) aV) (aa (f2 (gv 2) (cst (.int 1)) aV) ag))) (f2 (gv 0) (cst (.int 1)) aV) (lH false))))
def k9 (aI:List D->FR):SF:=(a9 (f2 (aw aI (aa (f2 (gv 0) (gv 2) aV) (aa (gv 1) ag))) (f2 (gv 0) (gv 2) aV) (cJ false)))
def jV (bG:List D->FR):SF:=(a9 (aw bG (aa (gv 0) (aa (f2 (gv 1) (cst (.int 1)) aV) (aa (f2 (gv 1) (cst (.int 0)) aV) ag)))))
def jU (bG:List D->FR):SF:=(a9 (aw bG (aa (gv 0) (aa (f2 (gv 1) (cst (.int 0)) aV) (aa (f2 (gv 1) (cst (.int 1)) aV) ag)))))
def kY (bG aI:List D->FR):SF:=(aJ (bO 2 ([] ++ [0]) (aM 1 [1,0] (.nm 0) (cD (f1 (gv 0) bX)) (ie (cz (f2 (gv 0) (f2 (gv 1) (cst (.int 0)) aV) (cJ false))) (fP (aw bG (aa (gv 2) (aa (f2 (gv 1) (cst (.int 0)) aV) (aa (gv 0) ag)))))) (gv 0)))
 (aJ (bO 3 (([] ++ ([] ++ [])) ++ (([] ++ []) ++ [])) (aw aI (aa (f2 (gv 0) (f2 (gv 1) (cst (.int 1)) aV) aV) (aa (f2 (gv 1) (cst (.int 1)) aV) ag))))
 (o4 (aM 2 [2,3] (.two 0 1) (Fl (gv 0)) jm (KY (cz (f2 (gv 0) (gv 2) (lH false))) (f2 (gv 1) (gv 3) K5) (gv 1))))))
def jZ (cw:List D->FR):SF:=(aJ (lA 3 (([2] ++ []) ++ []) (cC (aa (cC (aa (gv 2) ag)) ag)))
 (aJ (bO 4 [1] (gv 1))
 (aJ (bO 5 [] (cst (.int 0)))
 (aJ (iz ([0] ++ ((([] ++ []) ++ []) ++ ([2] ++ []))) (kB (fP (aw cw (aa (gv 0) (aa (f2 (f2 (gv 3) (gv 5) aV) (f1 (cst (.int 1)) pz) aV) (aa (gv 2) ag))))))
 (aJ (bO 6 ([] ++ [0]) (aM 1 [0,3,5] (.nm 0) (bL (gv 4)) (fP (aw cw (aa (gv 1) (aa (f2 (f2 (gv 2) (gv 3) aV) (f1 (cst (.int 1)) pz) aV) (aa (gv 0) ag))))) (gv 0)))
 (aJ (bO 4 ([] ++ []) (aM 1 [6] (.nm 0) (bL (gv 4)) (cz (f2 (gv 0) (gv 1) (lH true))) (gv 0)))
 (aJ (AU 3 ([] ++ []) (aM 1 [3,5] (.nm 0) (bL (gv 6)) jm (f2 (f2 (gv 1) (gv 2) aV) (cC (aa (gv 0) ag)) ic)))
 (bO 5 ([] ++ []) (f2 (gv 5) (cst (.int 1)) bZ))))) 1000)
 (a9 (f2 (gv 3) (gv 5) aV))))))
def jj (cu b9 fR gL:List D->FR):SF:=(aJ (bO 5 (([] ++ []) ++ []) (f2 (f2 (gv 2) (gv 3) aV) (cst (.int 0)) aV))
 (aJ (bO 6 (([] ++ []) ++ []) (f2 (f2 (gv 2) (gv 3) aV) (cst (.int 1)) aV))
 (aJ (gZ ([5] ++ ([4] ++ [])) (fP (aw b9 (aa (gv 5) (aa (gv 4) ag))))
 (a9 (bY (aa (cst (.str "ring")) (aa (gv 3) (aa (aw fR (aa (gv 0) (aa (gv 6) (aa (gv 4) ag)))) ag)))))
 jh)
 (a9 (aw cu (aa (gv 0) (aa (gv 1) (aa (f2 (f2 (vI (gv 2) (λ_ β=>.ok none β) (wV (gv 3))) (cC (aa (bY (aa (aw gL (aa (gv 5) (aa (gv 4) ag))) (aa (f2 (gv 6) (bY (aa (gv 4) ag)) mW) ag))) ag)) ic) (vI (gv 2) (wV (f2 (gv 3) (cst (.int 1)) bZ)) (λ_ β=>.ok none β)) ic) ag))))))))
def jO (b9:List D->FR):SF:=(a9 (f1 (aM 2 [1] (.two 0 1) (bL (gv 0)) (kB (fP (aw b9 (aa (gv 0) (aa (gv 2) ag))))) (gv 0)) bX))
def fJ (jl fZ fU fW:List D->FR):SF:=(aJ (bO 3 ([] ++ []) (aM 1 [2] (.nm 0) (bL (gv 1)) (kB (fP (f1 (aM 2 [0] (.two 0 1) (bL (gv 1)) jm (aw fZ (aa (gv 0) (aa (gv 2) ag)))) (bo λbs=>bs.any id)))) (gv 0)))
 (aJ (gZ ([] ++ []) (cz (f2 (f1 (gv 3) bX) (cst (.int 0)) (cJ false)))
 (a9 (bY (aa (cst (.str "rows")) (aa (aM 2 [] (.two 0 1) (bL (gv 2)) jm (aw fU (aa (gv 0) (aa (cC ag) ag)))) ag))))
 jh)
 (aJ (bO 4 [3] (zo 2 (gv 3) (aw fW (aa (gv 1) (aa (gv 0) ag)))))
 (aJ (lA 5 [] (cC ag))
 (aJ (gE (.nm 6) [] (cD (f1 (gv 2) bX))
 (aJ (bO 7 ([0] ++ ([3] ++ ([2] ++ ([6] ++ ([4] ++ []))))) (aw jl (aa (gv 0) (aa (gv 3) (aa (gv 2) (aa (gv 6) (aa (gv 4) ag)))))))
 (aJ (gZ (([] ++ []) ++ []) (cz (f2 (f2 (gv 7) (cst (.int 0)) aV) (cst (.str "rows")) (cJ false)))
 (tP 7)
 jh)
 (nJ 5 [7] (gv 7)))))
 (a9 (bY (aa (cst (.str "turn")) (aa (gv 4) (aa (f1 (gv 5) m9) ag))))))))))
def pX (du cu dv:List D->FR):SF:=(aJ (bO 2 (([0] ++ []) ++ ([] ++ [])) (bY (aa (aw du (aa (gv 0) ag)) (aa (bY ag) ag))))
 (a9 (aw cu (aa (gv 0) (aa (aw dv (aa (gv 0) ag)) (aa (f2 (cC (aa (gv 2) ag)) (gv 1) qP) ag))))))
def fm (aP fC:List D->FR):SF:=(aJ (mT ([0] ++ []) (aw aP (aa (gv 0) ag)))
 (aJ (bO 1 [] (cst (.int 1)))
 (aJ (bO 2 ([0] ++ ([1] ++ [])) (aw fC (aa (gv 0) (aa (gv 1) ag))))
 (aJ (iz (([] ++ []) ++ []) (cz (f2 (f2 (gv 2) (cst (.int 0)) aV) (cst (.str "rows")) (cJ true)))
 (aJ (bO 1 ([] ++ []) (f2 (gv 1) (cst (.int 1)) bZ))
 (bO 2 ([0] ++ ([1] ++ [])) (aw fC (aa (gv 0) (aa (gv 1) ag))))) 1000)
 (a9 (f2 (gv 2) (cst (.int 1)) aV))))))
def nY (dz:List D->FR):SF:=(a9 (f1 (aw dz (aa (gv 0) ag)) bX))
def iD (gH:List D->FR):SF:=(gZ ([0] ++ []) (kB (fP (aw gH (aa (gv 0) ag))))
 Hi
 jh)
def mz (cL b8:List D->FR):SF:=(a9 (eh (aw cL (aa (gv 0) (aa (f2 (gv 1) (cst (.int 0)) aV) ag))) (aw b8 (aa (gv 1) (aa (f2 (gv 0) (cst (.int 0)) aV) (aa (f2 (gv 0) (cst (.int 1)) aV) ag))))))
def j7 (cV:List D->FR):SF:=(a9 (eh (f1 (gv 0) (gj "list")) (f1 (aM 1 [1] (.nm 0) (bL (gv 0)) jm (aw cV (aa (gv 0) (aa (gv 1) ag)))) (bo λbs=>bs.all id))))
def jd (fY cw:List D->FR):SF:=(aJ (gZ (([0] ++ ([1] ++ [])) ++ ([] ++ [])) (ie (kB (fP (aw fY (aa (gv 0) (aa (gv 1) ag))))) (cz (f2 (f1 (gv 0) bX) (cst (.int 0)) (cJ false))))
 (a9 (cst (.bool false)))
 jh)
 (a9 (f1 (aM 1 [1,0] (.nm 0) (cD (f1 (gv 0) bX)) jm (aw cw (aa (gv 1) (aa (f2 (gv 2) (f2 (gv 0) (cst (.int 1)) n8) aV) (aa (f2 (gv 2) (gv 0) aV) ag))))) (bo λbs=>bs.all id))))
def iZ (bF:List D->FR):SF:=(gZ (([0] ++ []) ++ []) (ie (kB (fP (aw bF (aa (gv 0) ag)))) (kB (cz (gx (cst (.int 1)) (gv 0) (cst (.int 8)) vZ vZ))))
 Hi
 jh)
def iX (aP bN fC:List D->FR):SF:=(aJ (mT ([0] ++ []) (aw aP (aa (gv 0) ag)))
 (aJ (mT ([1] ++ []) (aw bN (aa (gv 1) ag)))
 (aJ (bO 2 ([0] ++ ([1] ++ [])) (aw fC (aa (gv 0) (aa (gv 1) ag))))
 (aJ (gZ (([] ++ []) ++ []) (cz (f2 (f2 (gv 2) (cst (.int 0)) aV) (cst (.str "rows")) (cJ false)))
 (a9 (cst .none))
 jh)
 (tP 2)))))
def iY (dZ:List D->FR):SF:=(a9 (eh (aw dZ (aa (gv 0) (aa (gv 1) ag))) (f1 (aM 1 [2] (.nm 0) (bL (gv 0)) jm (f2 (gv 0) (gv 1) (lH false))) (bo λbs=>bs.all id))))
def oM (iF cq eN cV:List D->FR):SF:=(aJ (gZ ([] ++ ([] ++ [])) (ie (kB (fP (f1 (gv 0) (gj "tuple")))) (cz (f2 (f1 (gv 0) bX) (cst (.int 3)) (cJ true))))
 (a9 (cst (.bool false)))
 jh)
 (aJ (gZ (([] ++ []) ++ []) (cz (f2 (f2 (gv 0) (cst (.int 0)) aV) (cst (.str "ring")) (cJ false)))
 (a9 (eh (aw cq (aa (f2 (gv 0) (cst (.int 1)) aV) (aa (f1 (gv 2) bX) ag))) (aw eN (aa (f2 (gv 0) (cst (.int 2)) aV) (aa (gv 1) (aa (f2 (gv 2) (f2 (gv 0) (cst (.int 1)) aV) aV) ag))))))
 jh)
 (aJ (gZ ((([] ++ []) ++ []) ++ (([] ++ []) ++ ([1] ++ []))) (ie (cz (f2 (f2 (gv 0) (cst (.int 0)) aV) (cst (.str "turn")) (cJ true))) (kB (fP (aw cV (aa (f2 (gv 0) (cst (.int 1)) aV) (aa (gv 1) ag))))))
 (a9 (cst (.bool false)))
 jh)
 (aJ (gZ (([] ++ []) ++ (([] ++ []) ++ [])) (ie (kB (fP (f1 (f2 (gv 0) (cst (.int 2)) aV) (gj "tuple")))) (cz (f2 (f1 (f2 (gv 0) (cst (.int 2)) aV) bX) (f1 (gv 2) bX) (cJ true))))
 (a9 (cst (.bool false)))
 jh)
 (aJ (gE (.two 3 4) ([] ++ []) (zS (f2 (gv 0) (cst (.int 2)) aV))
 (gZ ([4] ++ ([1] ++ ((((([] ++ []) ++ []) ++ ((([] ++ []) ++ (([] ++ []) ++ [])) ++ [])) ++ (([] ++ ([] ++ [])) ++ [])) ++ []))) (kB (fP (aw iF (aa (gv 4) (aa (gv 1) (aa (f2 (f2 (vI (gv 2) (λ_ β=>.ok none β) (wV (gv 3))) (cC (aa (f2 (f2 (gv 2) (gv 3) aV) (bY (aa (f2 (gv 0) (cst (.int 1)) aV) ag)) mW) ag)) ic) (vI (gv 2) (wV (f2 (gv 3) (cst (.int 1)) bZ)) (λ_ β=>.ok none β)) ic) ag))))))
 (a9 (cst (.bool false)))
 jh))
 (a9 (cst (.bool true))))))))
def fy (aP bN iF:List D->FR):SF:=(aJ (mT ([1] ++ []) (aw aP (aa (gv 1) ag)))
 (aJ (mT ([2] ++ []) (aw bN (aa (gv 2) ag)))
 (a9 (aw iF (aa (gv 0) (aa (gv 1) (aa (f2 (cC (aa (bY ag) ag)) (gv 2) qP) ag)))))))
noncomputable def fG (fQ:List D->FR)(aZ cn:List D->Int->FB):SF:=(aJ (bO 2 ([] ++ ([1] ++ [])) (f2 (cst (.int 1)) (ox 0 aZ (aa (gv 1) ag)) bZ))
 (aJ (bO 3 (([] ++ ([] ++ [])) ++ []) (aM 1 [0,2] (.nm 0) (cD (f2 (cst (.int 1)) (ox 0 aZ (aa (cst (.int 3)) ag)) bZ)) jm (ox 1 cn (aa (f1 (gv 2) hJ) ag))))
 (aJ (gZ (([] ++ []) ++ (([] ++ []) ++ [])) (xj (cz (f2 (gv 2) (cst (.int 6)) (cJ false))) (cz (f2 (ox 0 aZ (aa (cst (.int 3)) ag)) (cst (.int 2)) (cJ false))))
 (aJ (bO 4 ([] ++ []) (ox 0 cn (aa (f1 (cst (.int 6)) hJ) ag)))
 (aJ (bO 5 [] (cC ag))
 (aJ (gE (.nm 6) [] (cD (cst (.int 3)))
 (bO 5 ([] ++ ([] ++ [])) (f2 (gv 5) (aM 1 [6,4] (.nm 0) (cD (cst (.int 3))) (cz (f2 (gv 0) (gv 1) (cJ true))) (bY (aa (f2 (gv 2) (gv 1) aV) (aa (f2 (gv 2) (f2 (cst (.int 3)) (gv 0) bZ) aV) ag)))) ic)))
 (a9 (bY (aa (cst (.int 6)) (aa (f1 (f1 (gv 5) rn) m9) ag)))))))
 jh)
 (a9 (bY (aa (gv 2) (aa (aw fQ (aa (gv 2) (aa (gv 3) ag))) ag)))))))
def tv:SF:=(a9 (GA (f2 (f2 (gv 1) (cst (.int 0)) aV) (f2 (gv 2) (cst (.int 1)) aV) (cJ false)) (f2 (bY (aa (f2 (gv 1) (cst (.int 0)) aV) (aa (f2 (gv 2) (cst (.int 1)) aV) ag))) (f2 (gv 0) (cst (.int 1)) aV) (lH false))))
def dP (bP dX:List D->FR):SF:=(aJ (gZ ([] ++ (([] ++ []) ++ ([] ++ []))) (ie (kB (fP (f1 (gv 1) (gj "tuple")))) (ie (cz (f2 (f1 (gv 1) bX) (cst (.int 2)) (cJ true))) (kB (fP (f1 (aM 1 [] (.nm 0) (bL (gv 1)) jm (aw bP (aa (gv 0) ag))) (bo λbs=>bs.all id))))))
 (a9 (cst (.bool false)))
 jh)
 (a9 (eh (f1 (aM 1 [0] (.nm 0) (bL (gv 1)) jm (gx (cst (.int 0)) (gv 0) (f2 (gv 1) (cst (.int 0)) aV) vZ tE)) (bo λbs=>bs.all id)) (aw dX (aa (gv 0) (aa (f2 (gv 1) (cst (.int 0)) aV) (aa (f2 (gv 1) (cst (.int 1)) aV) ag)))))))
def jW (a7 ji:List D->FR):SF:=(aJ (gZ ([] ++ (([] ++ []) ++ ([] ++ [0]))) (ie (kB (fP (f1 (gv 1) (gj "list")))) (ie (cz (f2 (gv 1) (cC ag) xw)) (kB (fP (f1 (aM 1 [0] (.nm 0) (bL (gv 1)) jm (aw a7 (aa (gv 1) (aa (gv 0) ag)))) (bo λbs=>bs.all id))))))
 (a9 (cst (.bool false)))
 jh)
 (a9 (f1 (aM 1 [0,1] (.nm 0) (cD (f1 (gv 1) bX)) jm (aw ji (aa (gv 1) (aa (f2 (gv 2) (f2 (gv 0) (cst (.int 1)) n8) aV) (aa (f2 (gv 2) (gv 0) aV) ag))))) (bo λbs=>bs.all id))))
def iS (bC bP gc a7:List D->FR):SF:=(aJ (gZ ([] ++ ([] ++ [])) (ie (kB (fP (f1 (gv 0) (gj "tuple")))) (cz (f2 (f1 (gv 0) bX) (cst (.int 3)) (cJ true))))
 (a9 (cst (.bool false)))
 jh)
 (aJ (gZ (([] ++ []) ++ []) (cz (f2 (f1 (f2 (gv 0) (cst (.int 0)) aV) oY) (cst (.str "'ring'")) (AS false)))
 (aJ (gZ ((([] ++ []) ++ []) ++ ([] ++ ([1] ++ (([] ++ []) ++ [])))) (ie (kB (fP (aw bP (aa (f2 (gv 0) (cst (.int 1)) aV) ag)))) (ie (kB (cz (gx (cst (.int 0)) (f2 (gv 0) (cst (.int 1)) aV) (f1 (gv 2) bX) vZ tE))) (kB (fP (aw gc (aa (gv 1) (aa (f2 (gv 0) (cst (.int 2)) aV) ag)))))))
 (a9 (cst (.bool false)))
 jh)
 (a9 (f2 (aM 1 [2,0] (.nm 0) (bL (f2 (gv 0) (cst (.int 2)) aV)) (cz (f2 (gv 0) (f2 (gv 1) (f2 (gv 2) (cst (.int 1)) aV) aV) (lH true))) (gv 0)) (cC ag) (cJ false))))
 jh)
 (aJ (gZ ((([] ++ []) ++ []) ++ ([1] ++ (([] ++ []) ++ []))) (ie (cz (f2 (f1 (f2 (gv 0) (cst (.int 0)) aV) oY) (cst (.str "'turn'")) (AS true))) (kB (fP (aw a7 (aa (gv 1) (aa (f2 (gv 0) (cst (.int 1)) aV) ag))))))
 (a9 (cst (.bool false)))
 jh)
 (aJ (gZ (([] ++ []) ++ (([] ++ []) ++ [])) (ie (kB (fP (f1 (f2 (gv 0) (cst (.int 2)) aV) (gj "tuple")))) (cz (f2 (f1 (f2 (gv 0) (cst (.int 2)) aV) bX) (f1 (gv 2) bX) (cJ true))))
 (a9 (cst (.bool false)))
 jh)
 (aJ (gE (.nm 3) [] (cD (f1 (gv 2) bX))
 (aJ (bO 4 (((([] ++ []) ++ []) ++ ((([] ++ []) ++ (([] ++ []) ++ [])) ++ [])) ++ (([] ++ ([] ++ [])) ++ [])) (f2 (f2 (vI (gv 2) (λ_ β=>.ok none β) (wV (gv 3))) (cC (aa (f2 (f2 (gv 2) (gv 3) aV) (cC (aa (f2 (gv 0) (cst (.int 1)) aV) ag)) ic) ag)) ic) (vI (gv 2) (wV (f2 (gv 3) (cst (.int 1)) bZ)) (λ_ β=>.ok none β)) ic))
 (gZ ((([] ++ []) ++ []) ++ ([1] ++ ([4] ++ []))) (kB (fP (aw bC (aa (f2 (f2 (gv 0) (cst (.int 2)) aV) (gv 3) aV) (aa (gv 1) (aa (gv 4) ag))))))
 (a9 (cst (.bool false)))
 jh)))
 (a9 (cst (.bool true))))))))
def iy:SF:=(aJ (bO 0 [] (cC ag))
 (aJ (gE (.nm 1) [] (cD (cst (.int 4)))
 (bO 0 ([] ++ ([] ++ [1])) (f2 (gv 0) (aM 1 [1] (.nm 0) (cD (cst (.int 4))) (cz (f2 (gv 0) (gv 1) (cJ true))) (bY (aa (gv 1) (aa (f2 (cst (.int 4)) (gv 0) bZ) ag)))) ic)))
 (a9 (bY (aa (cst (.int 8)) (aa (f1 (gv 0) m9) ag))))))
def yN (gP kx c4 bC cg c6:List D->FR)(dU aZ:List D->Int->FB):SF:=(aJ (gE (.nm 1) [] (cD (cst (.int 1)))
 (aJ (ze 2 ([0] ++ ([1] ++ [])) (sO gP (aa (gv 0) (aa (gv 1) ag))))
 (aJ (bO 3 ([] ++ []) (ox 2 dU (aa (cst (.int 6)) ag)))
 (aJ (bO 4 ([3] ++ []) (aw kx (aa (gv 3) ag)))
 (aJ (gE (.nm 5) ([] ++ []) (zy (cst (.int 1)) (cst (.int 5)))
 (aJ (bO 6 ([3] ++ ([5] ++ [])) (aw c4 (aa (gv 3) (aa (gv 5) ag))))
 (aJ (gZ ([] ++ ([] ++ [])) (cz (f2 (f1 (gv 6) λd=>some (.bool (rD d))) (f2 (gv 5) (gv 4) LO) (cJ true)))
 (a9 (cst (.bool false)))
 jh)
 (gZ [] (tN (gv 6) true)
 (aJ (gZ ([6] ++ ([3] ++ (([] ++ []) ++ []))) (kB (fP (aw bC (aa (gv 6) (aa (gv 3) (aa (aM 1 [] (.nm 0) (cD (gv 5)) jm (cC ag)) ag))))))
 (a9 (cst (.bool false)))
 jh)
 (aJ (gZ (([6] ++ ([3] ++ ([5] ++ []))) ++ []) (cz (f2 (aw cg (aa (gv 6) (aa (gv 3) (aa (gv 5) ag)))) (cst (.bool true)) C5))
 (a9 (cst (.bool false)))
 jh)
 (gZ (([6] ++ ([3] ++ (([] ++ []) ++ []))) ++ []) (cz (f2 (aw cg (aa (gv 6) (aa (gv 3) (aa (f2 (gv 5) (cst (.int 1)) bZ) ag)))) (cst (.bool false)) C5))
 (a9 (cst (.bool false)))
 jh)))
 jh))))
 (gZ (([] ++ []) ++ (([] ++ []) ++ [])) (xj (cz (f2 (gv 1) (cst (.int 0)) (cJ false))) (cz (f2 (ox 2 aZ (aa (cst (.int 6)) ag)) (cst (.int 5)) (cJ false))))
 (gZ (([] ++ ([] ++ [])) ++ ([] ++ (([] ++ ([] ++ ([] ++ []))) ++ []))) (kB (fP (aw bC (aa (aw c4 (aa (aw c6 ag) (aa (cst (.int 3)) ag))) (aa (aw c6 ag) (aa (cC (aa (cC ag) (aa (cC ag) (aa (cC ag) ag)))) ag))))))
 (a9 (cst (.bool false)))
 jh)
 jh))))))
 (a9 (cst (.bool true))))
end RM
namespace RQ
open PySem L2 RM
def top (i:Nat):Stmt:=PySem.Challenge.pw_rowsorder_k43_case_papers_told.main.body.getD i (.Pass ⟨0,0,0,0⟩)
section
variable {P:Program}{w:World}{K:Frag}{mg:Str->Option Value}{base:Heap}{ca:Str->Addr}
abbrev lh:Stmt:=top 2
def vq:aF ["thing"] ["thing"] (ar lh):=⟨rfl,rfl,rfl,by decide +kernel,rfl,by decide +kernel,by decide +kernel⟩
def ve {f:Addr}{fd:FuncData}(F:gA K mg "is_whole" lh ["thing"] f fd)(B:iq mg):bR P w K mg base ca "is_whole" ["thing"] 1 (aS 1 1 (qk)):=
 ⟨⟨f,fd,F.mg,F.F.kp,F.b,aU (N:=["thing"]) (k:=0) F.F vq λcdv A outer s H G E hr=>
  (ay (aK (fH (gn "int" (by decide) rfl rfl B.isinstance rfl B.int (by decide +kernel) (ae 0)) (fN (yx (gn "bool" (by decide) rfl rfl B.isinstance rfl B.bool (by decide +kernel) (ae 0)))) (λ_ _=>rfl))))⟩,λds h=>aG ds h⟩
abbrev lg:Stmt:=top 3
def vT:aF ["thing","bound"] ["thing","bound"] (ar lg):=⟨rfl,rfl,rfl,by decide +kernel,rfl,by decide +kernel,by decide +kernel⟩
def uZ {f:Addr}{fd:FuncData}{bF:List D->FR}(F:gA K mg "is_below" lg ["thing","bound"] f fd)(B:iq mg)(cZ:bR P w K mg base ca "is_whole" ["thing"] 1 bF):bR P w K mg base ca "is_below" ["thing","bound"] 2 (aS 2 2 (qb bF)):=
 ⟨⟨f,fd,F.mg,F.F.kp,F.b,aU (N:=["thing","bound"]) (k:=1) F.F vT λcdv A outer s H G E hr=>
  (ay (aK (fH (aE cZ (hr.mono (by decide)) aQ rfl rfl (ab (av 0 rfl) af)) (fN (qf qI sY xG A2 ak (ae 0) (ae 1))) (λ_ _=>rfl))))⟩,λds h=>aG ds h⟩
abbrev mN:Stmt:=top 4
def xu:aF ["thing"] ["thing"] (ar mN):=⟨rfl,rfl,rfl,by decide +kernel,rfl,by decide +kernel,by decide +kernel⟩
def wz {f:Addr}{fd:FuncData}{bF:List D->FR}(F:gA K mg "is_many" mN ["thing"] f fd)(B:iq mg)(cZ:bR P w K mg base ca "is_whole" ["thing"] 1 bF){sq:Tok}(km:mg "MOST_THINGS"=some (.int 8 sq)):bR P w K mg base ca "is_many" ["thing"] 2 (aS 1 1 (tS bF)):=
 ⟨⟨f,fd,F.mg,F.F.kp,F.b,aU (N:=["thing"]) (k:=1) F.F xu λcdv A outer s H G E hr=>
  (ay (aK (fH (aE cZ (hr.mono (by decide)) aQ rfl rfl (ab (av 0 rfl) af)) (fN (qf qI qI xG xG ak (ae 0) (zl (by rfl) km))) (λ_ _=>rfl))))⟩,λds h=>aG ds h⟩
abbrev mJ:Stmt:=top 5
def xC:aF ["thing","many"] ["thing","many"] (ar mJ):=⟨rfl,rfl,rfl,by decide +kernel,rfl,by decide +kernel,by decide +kernel⟩
def pw {f:Addr}{fd:FuncData}{cq:List D->FR}(F:gA K mg "is_pair" mJ ["thing","many"] f fd)(B:iq mg)(dE:bR P w K mg base ca "is_below" ["thing","bound"] 2 cq):bR P w K mg base ca "is_pair" ["thing","many"] 3 (aS 2 2 (kE cq)):=
 ⟨⟨f,fd,F.mg,F.F.kp,F.b,aU (N:=["thing","many"]) (k:=2) F.F xC λcdv A outer s H G E hr=>
  (aq (bW (oq.t (gC (bM (bD rfl (gn "tuple" (by decide) rfl rfl B.isinstance rfl B.tuple (by decide +kernel) (ae 0)))) (fL (a8 (dI hr.units) dA (aN bw dB rfl B.len NK (ae 0)) ak (aW _))) (λ_ _=>rfl)))
  (ay (aK cS))
  bh)
  (ay (aK (fH (aE dE (hr.mono (by decide)) aQ rfl rfl (ab (aH aA aX (ae 0) ak (λ_ _=>rfl)) (ab (av 1 rfl) af))) (fN (aE dE (hr.mono (by decide)) aQ rfl rfl (ab (aH aA aX (ae 0) ak (λ_ _=>rfl)) (ab (av 1 rfl) af)))) (λ_ _=>rfl)))))⟩,λds h=>aG ds h⟩
abbrev gu:Stmt:=top 6
def rQ:aF ["many"] ["many"] (ar gu):=⟨rfl,rfl,rfl,by decide +kernel,rfl,by decide +kernel,by decide +kernel⟩
def qt {f:Addr}{fd:FuncData}(F:gA K mg "every_pair" gu ["many"] f fd)(B:iq mg):bR P w K mg base ca "every_pair" ["many"] 1 (aS 1 1 (ja)):=
 ⟨⟨f,fd,F.mg,F.F.kp,F.b,aU (N:=["many"]) (k:=0) F.F rQ λcdv A outer s H G E hr=>
  (ay (mE (bH (NB:=["number","many"]) (own:=1) (ixs:=[0]) [] rfl (bI (by kernel_rfl)) (λ_ _=>rfl) (iL rfl B.range (bu lM ny (ae 0) (ae 0))) (λH0 G0 par br bx C ex s3 H3 pn=>(cI (i:=0) (show (["number","many"]:List Str).Nodup by decide +kernel))) (λH0 G0 par br bx C ex s3 H3 pn hB1=>cN) (λH0 G0 par br bx C ex s3 H3 pn hB1=>(b7 (ab (bu uY J1 (ae 0) (ae 1)) (ab (bu mY sN (ae 0) (ae 1)) af)))))))⟩,λds h=>aG ds h⟩
abbrev kT:Stmt:=top 14
def vG:aF ["pairs"] ["pairs"] (ar kT):=⟨rfl,rfl,rfl,by decide +kernel,rfl,by decide +kernel,by decide +kernel⟩
def u4 {f:Addr}{fd:FuncData}(F:gA K mg "has_ring" kT ["pairs"] f fd)(B:iq mg):bR P w K mg base ca "has_ring" ["pairs"] 1 (aS 1 1 (qe)):=
 ⟨⟨f,fd,F.mg,F.F.kp,F.b,aU (N:=["pairs"]) (k:=0) F.F vG λcdv A outer s H G E hr=>
  (ay (aK (aN (wD rfl) dW rfl B.any (by decide +kernel) (bH (NB:=["a","b"]) (own:=2) (ixs:=[]) [] rfl (bI (by kernel_rfl)) (λ_ _=>rfl) (kn rfl (ae 0)) (λH0 G0 par br bx C ex s3 H3 pn=>(iH (i:=0) (j:=1) (show (["a","b"]:List Str).Nodup by decide +kernel))) (λH0 G0 par br bx C ex s3 H3 pn hB1=>cN) (λH0 G0 par br bx C ex s3 H3 pn hB1=>(c5 (cT hr.units) dA (ae 0) (ae 1) (aW _)))))))⟩,λds h=>aG ds h⟩
abbrev kW:Stmt:=top 12
def lP:aF ["thing","many","pairs"] ["thing"] (ar kW):=⟨rfl,rfl,rfl,by decide +kernel,rfl,by decide +kernel,by decide +kernel⟩
def u7 {f:Addr}{fd:FuncData}{jn cL kC gK:List D->FR}(F:gA K mg "is_order" kW ["thing"] f fd)(B:iq mg)(oP:bR P w K mg base ca "is_many" ["thing"] 2 jn)(ky:bR P w K mg base ca "is_pair" ["thing","many"] 3 cL)(qq:bR P w K mg base ca "closed" ["many","pairs"] 3 kC)(nq:bR P w K mg base ca "has_ring" ["pairs"] 1 gK):bR P w K mg base ca "is_order" ["thing"] 4 (aS 3 1 (jD jn cL kC gK)):=
 ⟨⟨f,fd,F.mg,F.F.kp,F.b,aU (N:=["thing","many","pairs"]) (k:=3) F.F lP λcdv A outer s H G E hr=>
  (aq (bW (oq.t (gC (bM (bD rfl (gn "tuple" (by decide) rfl rfl B.isinstance rfl B.tuple (by decide +kernel) (ae 0)))) (fL (a8 (dI hr.units) dA (aN bw dB rfl B.len NK (ae 0)) ak (aW _))) (λ_ _=>rfl)))
  (ay (aK cS))
  bh)
  (aq (bg (i:=1) (aH aA aX (ae 0) ak (λ_ _=>rfl)) lP.nd)
  (aq (bg (i:=2) (aH aA aX (ae 0) ak (λ_ _=>rfl)) lP.nd)
  (aq (bW (oq.t (gC (bM (bD rfl (aE oP (hr.mono (by decide)) aQ rfl rfl (ab (av 1 rfl) af)))) (fL (bM (bD rfl (gn "tuple" (by decide) rfl rfl B.isinstance rfl B.tuple (by decide +kernel) (ae 2))))) (λ_ _=>rfl)))
  (ay (aK cS))
  bh)
  (aq (bW (bM (bD rfl (aN (dM rfl) dW rfl B.all (by decide +kernel) (bH (NB:=["pair","many"]) (own:=1) (ixs:=[1]) [1] rfl (bI (by kernel_rfl)) (λ_ _=>rfl) (kn rfl (ae 2)) (λH0 G0 par br bx C ex s3 H3 pn=>(cI (i:=0) (show (["pair","many"]:List Str).Nodup by decide +kernel))) (λH0 G0 par br bx C ex s3 H3 pn hB1=>cN) (λH0 G0 par br bx C ex s3 H3 pn hB1=>(aE ky (hr.mono (by decide)) j8 rfl rfl (ab (av 0 (hB1 0 (by decide))) (ab (av 1 (hB1 1 (by decide))) af))))))))
  (ay (aK cS))
  bh)
  (ay (aK (fH (c5 (cT hr.units) dA (ae 2) (aE qq (hr.mono (by decide)) aQ rfl rfl (ab (av 1 rfl) (ab (av 2 rfl) af))) (aW _)) (fN (yx (aE nq (hr.mono (by decide)) aQ rfl rfl (ab (av 2 rfl) af)))) (λ_ _=>rfl)))))))))⟩,λds h=>aG ds h⟩
abbrev iO:Stmt:=top 15
def sy:aF ["thing"] ["thing"] (ar iO):=⟨rfl,rfl,rfl,by decide +kernel,rfl,by decide +kernel,by decide +kernel⟩
def qR {f:Addr}{fd:FuncData}{gH:List D->FR}(F:gA K mg "need_order" iO ["thing"] f fd)(B:iq mg)(nz:bR P w K mg base ca "is_order" ["thing"] 4 gH):bR P w K mg base ca "need_order" ["thing"] 5 (aS 1 1 (iD gH)):=
 ⟨⟨f,fd,F.mg,F.F.kp,F.b,aU (N:=["thing"]) (k:=4) F.F sy λcdv A outer s H G E hr=>
  (ay (bW (bM (bD rfl (aE nz (hr.mono (by decide)) aQ rfl rfl (ab (av 0 rfl) af))))
  (ay Ca)
  bh))⟩,λds h=>aG ds h⟩
abbrev j5:Stmt:=top 16
def tV:aF ["order","a","b"] ["order","a","b"] (ar j5):=⟨rfl,rfl,rfl,by decide +kernel,rfl,by decide +kernel,by decide +kernel⟩
def sh {f:Addr}{fd:FuncData}(F:gA K mg "are_apart" j5 ["order","a","b"] f fd)(B:iq mg):bR P w K mg base ca "are_apart" ["order","a","b"] 1 (aS 3 3 (o6)):=
 ⟨⟨f,fd,F.mg,F.F.kp,F.b,aU (N:=["order","a","b"]) (k:=0) F.F tV λcdv A outer s H G E hr=>
  (ay (aK (fH (c5 (dI hr.units) dA (ae 1) (ae 2) (aW _)) (fH (c5 (gM hr.u1) oW (b7 (ab (av 1 rfl) (ab (av 2 rfl) af))) (aH aA aX (ae 0) ak (λ_ _=>rfl)) (by with_unfolding_all rfl)) (fN (c5 (gM hr.u1) oW (b7 (ab (av 2 rfl) (ab (av 1 rfl) af))) (aH aA aX (ae 0) ak (λ_ _=>rfl)) (by with_unfolding_all rfl))) (λ_ _=>rfl)) (λ_ _=>rfl))))⟩,λds h=>aG ds h⟩
abbrev iR:Stmt:=top 18
def si:aF ["placed","thing"] ["placed","thing"] (ar iR):=⟨rfl,rfl,rfl,by decide +kernel,rfl,by decide +kernel,by decide +kernel⟩
def rA {f:Addr}{fd:FuncData}(F:gA K mg "with_thing" iR ["placed","thing"] f fd)(B:iq mg):bR P w K mg base ca "with_thing" ["placed","thing"] 1 (aS 2 2 (jc)):=
 ⟨⟨f,fd,F.mg,F.F.kp,F.b,aU (N:=["placed","thing"]) (k:=0) F.F si λcdv A outer s H G E hr=>
  (ay (aK (bu Gp JQ (ae 0) (bu HB KO ak (ae 1)))))⟩,λds h=>aG ds h⟩
abbrev g7:Stmt:=top 19
def jE:aF ["order","masks","a","b"] ["order"] (ar g7):=⟨rfl,rfl,rfl,by decide +kernel,rfl,by decide +kernel,by decide +kernel⟩
def pC {f:Addr}{fd:FuncData}{aI:List D->FR}(F:gA K mg "masks_ahead" g7 ["order"] f fd)(B:iq mg)(ba:bR P w K mg base ca "with_thing" ["placed","thing"] 1 aI):bR P w K mg base ca "masks_ahead" ["order"] 2 (aS 4 1 (gY aI)):=
 ⟨⟨f,fd,F.mg,F.F.kp,F.b,aU (N:=["order","masks","a","b"]) (k:=1) F.F jE λcdv A outer s H G E hr=>
  (aq (jM (i:=1) (yb (bQ (ab ak af)) (aH aA aX (ae 0) ak (λ_ _=>rfl))) jE.nd)
  (aq (iA PassesOwn.leaving rfl (Mp rfl (aH aA aX (ae 0) ak (λ_ _=>rfl))) (iH (i:=2) (j:=3) jE.nd)
  (ay (Fq 1 (λ_=>rfl) (aE ba (hr.mono (by decide)) aQ rfl rfl (ab (aH aA aX (ae 1) (ae 3) (λ_ _=>rfl)) (ab (av 2 rfl) af))) (ae 3))))
  (ay (pV 1))))⟩,λds h=>aG ds h⟩
abbrev gW:Stmt:=top 20
def jz:aF ["masks","placed","free","thing","mask"] ["masks","placed"] (ar gW):=⟨rfl,rfl,rfl,by decide +kernel,rfl,by decide +kernel,by decide +kernel⟩
def pG {f:Addr}{fd:FuncData}{aI:List D->FR}(F:gA K mg "free_things" gW ["masks","placed"] f fd)(B:iq mg)(ba:bR P w K mg base ca "with_thing" ["placed","thing"] 1 aI):bR P w K mg base ca "free_things" ["masks","placed"] 2 (aS 5 2 (gQ aI)):=
 ⟨⟨f,fd,F.mg,F.F.kp,F.b,aU (N:=["masks","placed","free","thing","mask"]) (k:=1) F.F jz λcdv A outer s H G E hr=>
  (aq (jM (i:=2) (bQ af) jz.nd)
  (aq (iA PassesOwn.leaving rfl (vv rfl rfl B.enumerate (av 0 rfl)) (iH (i:=3) (j:=4) jz.nd)
  (ay (bW (oq.t (uV (a8 (dI hr.units) dA (aE ba (hr.mono (by decide)) aQ rfl rfl (ab (av 1 rfl) (ab (av 3 rfl) af))) (ae 1) (aW _)) (p9 (a8 (cT hr.units) dA (bu He Js (ae 1) (ae 4)) (ae 4) (aW _))) (λ_ _=>rfl)))
  (ay (mL 2 (λ_=>rfl) (av 3 rfl)))
  bh)))
  (ay (pV 2))))⟩,λds h=>aG ds h⟩
abbrev j4:Stmt:=top 21
def eJ:aF ["masks","late","row","placed","free","early"] ["masks","late"] (ar j4):=⟨rfl,rfl,rfl,by decide +kernel,rfl,by decide +kernel,by decide +kernel⟩
def sf {f:Addr}{fd:FuncData}{dw aI:List D->FR}(F:gA K mg "row_along" j4 ["masks","late"] f fd)(B:iq mg)(kg:bR P w K mg base ca "free_things" ["masks","placed"] 2 dw)(ba:bR P w K mg base ca "with_thing" ["placed","thing"] 1 aI):bR P w K mg base ca "row_along" ["masks","late"] 3 (aS 6 2 (jT dw aI)):=
 ⟨⟨f,fd,F.mg,F.F.kp,F.b,aU (N:=["masks","late","row","placed","free","early"]) (k:=2) F.F eJ λcdv A outer s H G E hr=>
  (aq (jM (i:=2) (bQ af) eJ.nd)
  (aq (bg (i:=3) ak eJ.nd)
  (aq (nI 1000 PassesOwn.leaving (a8 sY A2 (aN bw dB rfl B.len NK (ae 2)) (aN bw dB rfl B.len NK (ae 0)) (aW _))
  (aq (bg (i:=4) (aE kg (hr.mono (by decide)) aQ rfl rfl (ab (av 0 rfl) (ab (av 3 rfl) af))) eJ.nd)
  (aq (p5 (i:=5) (NB:=["thing","late"]) (own:=1) (ixs:=[1]) [] rfl (bI (by kernel_rfl)) (λ_ _=>rfl) (kn rfl (ae 4)) (λH0 G0 par br bx C ex s3 H3 pn=>(cI (i:=0) (show (["thing","late"]:List Str).Nodup by decide +kernel))) (λH0 G0 par br bx C ex s3 H3 pn hB1=>(eG (a8 (gM hr.u1) oW (ae 0) (ae 1) (by with_unfolding_all rfl)))) (λH0 G0 par br bx C ex s3 H3 pn hB1=>(av 0 (hB1 0 (by decide)))) eJ.nd)
  (aq (mL 2 (λ_=>rfl) (aH aA aX (bu gr lI (ae 5) (ae 4)) ak (λ_ _=>rfl)))
  (ay (bg (i:=3) (aE ba (hr.mono (by decide)) aQ rfl rfl (ab (av 3 rfl) (ab (aH aA aX (ae 2) (Dr xI BS ak) (λ_ _=>rfl)) af))) eJ.nd))))))
  (ay (aK (jv cQ mF rfl B.tuple (by decide +kernel) (ae 2)))))))⟩,λds h=>aG ds h⟩
abbrev p0:Stmt:=top 23
def Bq:aF ["order"] ["order"] (ar p0):=⟨rfl,rfl,rfl,by decide +kernel,rfl,by decide +kernel,by decide +kernel⟩
def Au {f:Addr}{fd:FuncData}{aP df b8:List D->FR}(F:gA K mg "turns" p0 ["order"] f fd)(B:iq mg)(bJ:bR P w K mg base ca "need_order" ["thing"] 5 aP)(kH:bR P w K mg base ca "every_pair" ["many"] 1 df)(gf:bR P w K mg base ca "are_apart" ["order","a","b"] 1 b8):bR P w K mg base ca "turns" ["order"] 6 (aS 1 1 (pU aP df b8)):=
 ⟨⟨f,fd,F.mg,F.F.kp,F.b,aU (N:=["order"]) (k:=5) F.F Bq λcdv A outer s H G E hr=>
  (aq (mi (aE bJ (hr.mono (by decide)) aQ rfl rfl (ab (av 0 rfl) af)))
  (ay (mE (bH (NB:=["a","b","order"]) (own:=2) (ixs:=[0]) [0] rfl (bI (by kernel_rfl)) (λ_ _=>rfl) (kn rfl (aE kH (hr.mono (by decide)) aQ rfl rfl (ab (aH aA aX (ae 0) ak (λ_ _=>rfl)) af))) (λH0 G0 par br bx C ex s3 H3 pn=>(iH (i:=0) (j:=1) (show (["a","b","order"]:List Str).Nodup by decide +kernel))) (λH0 G0 par br bx C ex s3 H3 pn hB1=>(eG (bD rfl (aE gf (hr.mono (by decide)) j8 rfl rfl (ab (av 2 (hB1 2 (by decide))) (ab (av 0 (hB1 0 (by decide))) (ab (av 1 (hB1 1 (by decide))) af))))))) (λH0 G0 par br bx C ex s3 H3 pn hB1=>(b7 (ab (av 0 (hB1 0 (by decide))) (ab (av 1 (hB1 1 (by decide))) af))))))))⟩,λds h=>aG ds h⟩
abbrev kM:Stmt:=top 25
def pd:aF ["order","a","b","pairs"] ["order","a","b"] (ar kM):=⟨rfl,rfl,rfl,by decide +kernel,rfl,by decide +kernel,by decide +kernel⟩
def vc {f:Addr}{fd:FuncData}(F:gA K mg "is_sharp" kM ["order","a","b"] f fd)(B:iq mg):bR P w K mg base ca "is_sharp" ["order","a","b"] 1 (aS 4 3 (la)):=
 ⟨⟨f,fd,F.mg,F.F.kp,F.b,aU (N:=["order","a","b","pairs"]) (k:=0) F.F pd λcdv A outer s H G E hr=>
  (aq (bg (i:=3) (aH aA aX (ae 0) ak (λ_ _=>rfl)) pd.nd)
  (aq (bW (bM (bD rfl (aN (dM rfl) dW rfl B.all (by decide +kernel) (bH (NB:=["one","other","a","b","pairs"]) (own:=2) (ixs:=[1,2,3]) [2] rfl (bI (by kernel_rfl)) (λ_ _=>rfl) (kn rfl (ae 3)) (λH0 G0 par br bx C ex s3 H3 pn=>(iH (i:=0) (j:=1) (show (["one","other","a","b","pairs"]:List Str).Nodup by decide +kernel))) (λH0 G0 par br bx C ex s3 H3 pn hB1=>(eG (a8 (cT hr.units) dA (ae 1) (ae 2) (aW _)))) (λH0 G0 par br bx C ex s3 H3 pn hB1=>(c5 (oJ hr.u1) oW (b7 (ab (av 0 (hB1 0 (by decide))) (ab (av 3 (hB1 3 (by decide))) af))) (ae 4) (by with_unfolding_all rfl)))))))
  (ay (aK cS))
  bh)
  (ay (aK (aN (dM rfl) dW rfl B.all (by decide +kernel) (bH (NB:=["one","other","b","a","pairs"]) (own:=2) (ixs:=[2,1,3]) [1] rfl (bI (by kernel_rfl)) (λ_ _=>rfl) (kn rfl (ae 3)) (λH0 G0 par br bx C ex s3 H3 pn=>(iH (i:=0) (j:=1) (show (["one","other","b","a","pairs"]:List Str).Nodup by decide +kernel))) (λH0 G0 par br bx C ex s3 H3 pn hB2=>(eG (a8 (cT hr.units) dA (ae 0) (ae 2) (aW _)))) (λH0 G0 par br bx C ex s3 H3 pn hB2=>(c5 (oJ hr.u1) oW (b7 (ab (av 3 (hB2 3 (by decide))) (ab (av 1 (hB2 1 (by decide))) af))) (ae 4) (by with_unfolding_all rfl)))))))))⟩,λds h=>aG ds h⟩
abbrev g8:Stmt:=top 24
def qS:aF ["order"] ["order"] (ar g8):=⟨rfl,rfl,rfl,by decide +kernel,rfl,by decide +kernel,by decide +kernel⟩
def pL {f:Addr}{fd:FuncData}{mG gF:List D->FR}(F:gA K mg "sharp_turns" g8 ["order"] f fd)(B:iq mg)(va:bR P w K mg base ca "turns" ["order"] 6 mG)(ni:bR P w K mg base ca "is_sharp" ["order","a","b"] 1 gF):bR P w K mg base ca "sharp_turns" ["order"] 7 (aS 1 1 (mS mG gF)):=
 ⟨⟨f,fd,F.mg,F.F.kp,F.b,aU (N:=["order"]) (k:=6) F.F qS λcdv A outer s H G E hr=>
  (ay (mE (bH (NB:=["a","b","order"]) (own:=2) (ixs:=[0]) [0] rfl (bI (by kernel_rfl)) (λ_ _=>rfl) (kn rfl (aE va (hr.mono (by decide)) aQ rfl rfl (ab (av 0 rfl) af))) (λH0 G0 par br bx C ex s3 H3 pn=>(iH (i:=0) (j:=1) (show (["a","b","order"]:List Str).Nodup by decide +kernel))) (λH0 G0 par br bx C ex s3 H3 pn hB1=>(eG (bD rfl (aE ni (hr.mono (by decide)) j8 rfl rfl (ab (av 2 (hB1 2 (by decide))) (ab (av 0 (hB1 0 (by decide))) (ab (av 1 (hB1 1 (by decide))) af))))))) (λH0 G0 par br bx C ex s3 H3 pn hB1=>(b7 (ab (av 0 (hB1 0 (by decide))) (ab (av 1 (hB1 1 (by decide))) af)))))))⟩,λds h=>aG ds h⟩
abbrev l9:Stmt:=top 26
def xW:aF ["thing","order"] ["thing","order"] (ar l9):=⟨rfl,rfl,rfl,by decide +kernel,rfl,by decide +kernel,by decide +kernel⟩
def v5 {f:Addr}{fd:FuncData}{cL b8:List D->FR}(F:gA K mg "is_turn" l9 ["thing","order"] f fd)(B:iq mg)(ky:bR P w K mg base ca "is_pair" ["thing","many"] 3 cL)(gf:bR P w K mg base ca "are_apart" ["order","a","b"] 1 b8):bR P w K mg base ca "is_turn" ["thing","order"] 4 (aS 2 2 (mz cL b8)):=
 ⟨⟨f,fd,F.mg,F.F.kp,F.b,aU (N:=["thing","order"]) (k:=3) F.F xW λcdv A outer s H G E hr=>
  (ay (aK (fH (aE ky (hr.mono (by decide)) aQ rfl rfl (ab (av 0 rfl) (ab (aH aA aX (ae 1) ak (λ_ _=>rfl)) af))) (fN (aE gf (hr.mono (by decide)) aQ rfl rfl (ab (av 1 rfl) (ab (aH aA aX (ae 0) ak (λ_ _=>rfl)) (ab (aH aA aX (ae 0) ak (λ_ _=>rfl)) af))))) (λ_ _=>rfl))))⟩,λds h=>aG ds h⟩
abbrev j9:Stmt:=top 27
def ug:aF ["thing","order"] ["thing","order"] (ar j9):=⟨rfl,rfl,rfl,by decide +kernel,rfl,by decide +kernel,by decide +kernel⟩
def r0 {f:Addr}{fd:FuncData}{cV:List D->FR}(F:gA K mg "are_turns" j9 ["thing","order"] f fd)(B:iq mg)(jk:bR P w K mg base ca "is_turn" ["thing","order"] 4 cV):bR P w K mg base ca "are_turns" ["thing","order"] 5 (aS 2 2 (j7 cV)):=
 ⟨⟨f,fd,F.mg,F.F.kp,F.b,aU (N:=["thing","order"]) (k:=4) F.F ug λcdv A outer s H G E hr=>
  (ay (aK (fH (gn "list" (by decide) rfl rfl B.isinstance rfl B.list (by decide +kernel) (ae 0)) (fN (aN (dM rfl) dW rfl B.all (by decide +kernel) (bH (NB:=["turn","order"]) (own:=1) (ixs:=[1]) [1] rfl (bI (by kernel_rfl)) (λ_ _=>rfl) (kn rfl (ae 0)) (λH0 G0 par br bx C ex s3 H3 pn=>(cI (i:=0) (show (["turn","order"]:List Str).Nodup by decide +kernel))) (λH0 G0 par br bx C ex s3 H3 pn hB1=>cN) (λH0 G0 par br bx C ex s3 H3 pn hB1=>(aE jk (hr.mono (by decide)) j8 rfl rfl (ab (av 0 (hB1 0 (by decide))) (ab (av 1 (hB1 1 (by decide))) af))))))) (λ_ _=>rfl))))⟩,λds h=>aG ds h⟩
abbrev kN:Stmt:=top 28
def wA:aF ["order","turn","other"] ["order","turn","other"] (ar kN):=⟨rfl,rfl,rfl,by decide +kernel,rfl,by decide +kernel,by decide +kernel⟩
def vf {f:Addr}{fd:FuncData}(F:gA K mg "leads_on" kN ["order","turn","other"] f fd)(B:iq mg):bR P w K mg base ca "leads_on" ["order","turn","other"] 1 (aS 3 3 (k7)):=
 ⟨⟨f,fd,F.mg,F.F.kp,F.b,aU (N:=["order","turn","other"]) (k:=0) F.F wA λcdv A outer s H G E hr=>
  (ay (aK (Gh (c5 (cT hr.units) dA (aH aA aX (ae 1) ak (λ_ _=>rfl)) (aH aA aX (ae 2) ak (λ_ _=>rfl)) (aW _)) (fN (c5 (oJ hr.u1) oW (b7 (ab (aH aA aX (ae 1) ak (λ_ _=>rfl)) (ab (aH aA aX (ae 2) ak (λ_ _=>rfl)) af))) (aH aA aX (ae 0) ak (λ_ _=>rfl)) (by with_unfolding_all rfl))) (λ_ _=>rfl))))⟩,λds h=>aG ds h⟩
abbrev jb:Stmt:=top 29
def rY:aF ["thing","order"] ["thing","order"] (ar jb):=⟨rfl,rfl,rfl,by decide +kernel,rfl,by decide +kernel,by decide +kernel⟩
def qU {f:Addr}{fd:FuncData}{fY cw:List D->FR}(F:gA K mg "goes_round" jb ["thing","order"] f fd)(B:iq mg)(lY:bR P w K mg base ca "are_turns" ["thing","order"] 5 fY)(fK:bR P w K mg base ca "leads_on" ["order","turn","other"] 1 cw):bR P w K mg base ca "goes_round" ["thing","order"] 6 (aS 2 2 (jd fY cw)):=
 ⟨⟨f,fd,F.mg,F.F.kp,F.b,aU (N:=["thing","order"]) (k:=5) F.F rY λcdv A outer s H G E hr=>
  (aq (bW (oq.t (gC (bM (bD rfl (aE lY (hr.mono (by decide)) aQ rfl rfl (ab (av 0 rfl) (ab (av 1 rfl) af))))) (fL (a8 (cT hr.units) dA (aN bw dB rfl B.len NK (ae 0)) ak (aW _))) (λ_ _=>rfl)))
  (ay (aK cS))
  bh)
  (ay (aK (aN (dM rfl) dW rfl B.all (by decide +kernel) (bH (NB:=["at","order","thing"]) (own:=1) (ixs:=[1,0]) [1] rfl (bI (by kernel_rfl)) (λ_ _=>rfl) (iL rfl B.range (aN bw dB rfl B.len NK (ae 0))) (λH0 G0 par br bx C ex s3 H3 pn=>(cI (i:=0) (show (["at","order","thing"]:List Str).Nodup by decide +kernel))) (λH0 G0 par br bx C ex s3 H3 pn hB1=>cN) (λH0 G0 par br bx C ex s3 H3 pn hB1=>(aE fK (hr.mono (by decide)) j8 rfl rfl (ab (av 1 (hB1 1 (by decide))) (ab (aH aA aX (ae 2) (bu C3 Gr (ae 0) ak) (λ_ _=>rfl)) (ab (aH aA aX (ae 2) (ae 0) (λ_ _=>rfl)) af))))))))))⟩,λds h=>aG ds h⟩
abbrev ll:Stmt:=top 30
def v3:aF ["masks","a","b"] ["masks","a","b"] (ar ll):=⟨rfl,rfl,rfl,by decide +kernel,rfl,by decide +kernel,by decide +kernel⟩
def tT {f:Addr}{fd:FuncData}{aI:List D->FR}(F:gA K mg "is_ahead" ll ["masks","a","b"] f fd)(B:iq mg)(ba:bR P w K mg base ca "with_thing" ["placed","thing"] 1 aI):bR P w K mg base ca "is_ahead" ["masks","a","b"] 2 (aS 3 3 (k9 aI)):=
 ⟨⟨f,fd,F.mg,F.F.kp,F.b,aU (N:=["masks","a","b"]) (k:=1) F.F v3 λcdv A outer s H G E hr=>
  (ay (aK (c5 (cT hr.units) dA (aE ba (hr.mono (by decide)) aQ rfl rfl (ab (aH aA aX (ae 0) (ae 2) (λ_ _=>rfl)) (ab (av 1 rfl) af))) (aH aA aX (ae 0) (ae 2) (λ_ _=>rfl)) (aW _))))⟩,λds h=>aG ds h⟩
abbrev j6:Stmt:=top 31
def ui:aF ["masks","turn"] ["masks","turn"] (ar j6):=⟨rfl,rfl,rfl,by decide +kernel,rfl,by decide +kernel,by decide +kernel⟩
def so {f:Addr}{fd:FuncData}{bG:List D->FR}(F:gA K mg "is_turned" j6 ["masks","turn"] f fd)(B:iq mg)(cY:bR P w K mg base ca "is_ahead" ["masks","a","b"] 2 bG):bR P w K mg base ca "is_turned" ["masks","turn"] 3 (aS 2 2 (jV bG)):=
 ⟨⟨f,fd,F.mg,F.F.kp,F.b,aU (N:=["masks","turn"]) (k:=2) F.F ui λcdv A outer s H G E hr=>
  (ay (aK (aE cY (hr.mono (by decide)) aQ rfl rfl (ab (av 0 rfl) (ab (aH aA aX (ae 1) ak (λ_ _=>rfl)) (ab (aH aA aX (ae 1) ak (λ_ _=>rfl)) af))))))⟩,λds h=>aG ds h⟩
abbrev jQ:Stmt:=top 32
def uk:aF ["masks","turn"] ["masks","turn"] (ar jQ):=⟨rfl,rfl,rfl,by decide +kernel,rfl,by decide +kernel,by decide +kernel⟩
def rZ {f:Addr}{fd:FuncData}{bG:List D->FR}(F:gA K mg "is_barred" jQ ["masks","turn"] f fd)(B:iq mg)(cY:bR P w K mg base ca "is_ahead" ["masks","a","b"] 2 bG):bR P w K mg base ca "is_barred" ["masks","turn"] 3 (aS 2 2 (jU bG)):=
 ⟨⟨f,fd,F.mg,F.F.kp,F.b,aU (N:=["masks","turn"]) (k:=2) F.F uk λcdv A outer s H G E hr=>
  (ay (aK (aE cY (hr.mono (by decide)) aQ rfl rfl (ab (av 0 rfl) (ab (aH aA aX (ae 1) ak (λ_ _=>rfl)) (ab (aH aA aX (ae 1) ak (λ_ _=>rfl)) af))))))⟩,λds h=>aG ds h⟩
abbrev kK:Stmt:=top 33
def lR:aF ["masks","turn","late","more"] ["masks","turn"] (ar kK):=⟨rfl,rfl,rfl,by decide +kernel,rfl,by decide +kernel,by decide +kernel⟩
def uA {f:Addr}{fd:FuncData}{bG aI:List D->FR}(F:gA K mg "put_turn" kK ["masks","turn"] f fd)(B:iq mg)(cY:bR P w K mg base ca "is_ahead" ["masks","a","b"] 2 bG)(ba:bR P w K mg base ca "with_thing" ["placed","thing"] 1 aI):bR P w K mg base ca "put_turn" ["masks","turn"] 3 (aS 4 2 (kY bG aI)):=
 ⟨⟨f,fd,F.mg,F.F.kp,F.b,aU (N:=["masks","turn","late","more"]) (k:=2) F.F lR λcdv A outer s H G E hr=>
  (aq (bg (i:=2) (SE.wv (bH (NB:=["thing","turn","masks"]) (own:=1) (ixs:=[1,0]) [0] rfl (bI (by kernel_rfl)) (λ_ _=>rfl) (iL rfl B.range (aN bw dB rfl B.len NK (ae 0))) (λH0 G0 par br bx C ex s3 H3 pn=>(cI (i:=0) (show (["thing","turn","masks"]:List Str).Nodup by decide +kernel))) (λH0 G0 par br bx C ex s3 H3 pn hB1=>(eG (oq.t (gC (a8 (cT hr.units) dA (ae 0) (aH aA aX (ae 1) ak (λ_ _=>rfl)) (aW _)) (fL (bD rfl (aE cY (hr.mono (by decide)) j8 rfl rfl (ab (av 2 (hB1 2 (by decide))) (ab (aH aA aX (ae 1) ak (λ_ _=>rfl)) (ab (av 0 (hB1 0 (by decide))) af)))))) (λi hi=>hB1 i (by revert i hi;decide)))))) (λH0 G0 par br bx C ex s3 H3 pn hB1=>(av 0 (hB1 0 (by decide)))))) lR.nd)
  (aq (bg (i:=3) (aE ba (hr.mono (by decide)) aQ rfl rfl (ab (aH aA aX (ae 0) (aH aA aX (ae 1) ak (λ_ _=>rfl)) (λ_ _=>rfl)) (ab (aH aA aX (ae 1) ak (λ_ _=>rfl)) af))) lR.nd)
  (ay (mE (bH (NB:=["thing","mask","late","more"]) (own:=2) (ixs:=[2,3]) [] rfl (bI (by kernel_rfl)) (λ_ _=>rfl) (SI.vb (vv rfl rfl B.enumerate (av 0 rfl))) (λH0 G0 par br bx C ex s3 H3 pn=>(iH (i:=0) (j:=1) (show (["thing","mask","late","more"]:List Str).Nodup by decide +kernel))) (λH0 G0 par br bx C ex s3 H3 pn hB2=>cN) (λH0 G0 par br bx C ex s3 H3 pn hB2=>(Kr (a8 (oJ hr.u1) oW (ae 0) (ae 2) (by with_unfolding_all rfl)) (bu Gp JQ (ae 1) (ae 3)) (av 1 (hB2 1 (by decide))) (λi hi=>hB2 i (by revert i hi;decide)))))))))⟩,λds h=>aG ds h⟩
abbrev jP:Stmt:=top 34
def c7:aF ["order","put","turn","paths","left","at","fresh"] ["order","put","turn"] (ar jP):=⟨rfl,rfl,rfl,by decide +kernel,rfl,by decide +kernel,by decide +kernel⟩
def sv {f:Addr}{fd:FuncData}{cw:List D->FR}(F:gA K mg "ring_with" jP ["order","put","turn"] f fd)(B:iq mg)(fK:bR P w K mg base ca "leads_on" ["order","turn","other"] 1 cw):bR P w K mg base ca "ring_with" ["order","put","turn"] 2 (aS 7 3 (jZ cw)):=
 ⟨⟨f,fd,F.mg,F.F.kp,F.b,aU (N:=["order","put","turn","paths","left","at","fresh"]) (k:=1) F.F c7 λcdv A outer s H G E hr=>
  (aq (jM (i:=3) (bQ (ab (SE.wv (bQ (ab (av 2 rfl) af))) af)) c7.nd)
  (aq (bg (i:=4) (av 1 rfl) c7.nd)
  (aq (bg (i:=5) ak c7.nd)
  (aq (nI 1000 PassesOwn.leaving (bM (bD rfl (aE fK (hr.mono (by decide)) aQ rfl rfl (ab (av 0 rfl) (ab (aH aA aX (aH aA aX (ae 3) (ae 5) (λ_ _=>rfl)) (Dr xI BS ak) (λ_ _=>rfl)) (ab (av 2 rfl) af))))))
  (aq (bg (i:=6) (SE.wv (bH (NB:=["other","order","paths","at"]) (own:=1) (ixs:=[0,3,5]) [0] rfl (bI (by kernel_rfl)) (λ_ _=>rfl) (kn rfl (ae 4)) (λH0 G0 par br bx C ex s3 H3 pn=>(cI (i:=0) (show (["other","order","paths","at"]:List Str).Nodup by decide +kernel))) (λH0 G0 par br bx C ex s3 H3 pn hB1=>(eG (bD rfl (aE fK (hr.mono (by decide)) j8 rfl rfl (ab (av 1 (hB1 1 (by decide))) (ab (aH aA aX (aH aA aX (ae 2) (ae 3) (λ_ _=>rfl)) (Dr xI BS ak) (λ_ _=>rfl)) (ab (av 0 (hB1 0 (by decide))) af))))))) (λH0 G0 par br bx C ex s3 H3 pn hB1=>(av 0 (hB1 0 (by decide)))))) c7.nd)
  (aq (p5 (i:=4) (NB:=["other","fresh"]) (own:=1) (ixs:=[6]) [] rfl (bI (by kernel_rfl)) (λ_ _=>rfl) (kn rfl (ae 4)) (λH0 G0 par br bx C ex s3 H3 pn=>(cI (i:=0) (show (["other","fresh"]:List Str).Nodup by decide +kernel))) (λH0 G0 par br bx C ex s3 H3 pn hB2=>(eG (a8 (gM hr.u1) oW (ae 0) (ae 1) (by with_unfolding_all rfl)))) (λH0 G0 par br bx C ex s3 H3 pn hB2=>(av 0 (hB2 0 (by decide)))) c7.nd)
  (aq (AK 3 (λ_=>rfl) (bH (NB:=["other","paths","at"]) (own:=1) (ixs:=[3,5]) [] rfl (bI (by kernel_rfl)) (λ_ _=>rfl) (kn rfl (ae 6)) (λH0 G0 par br bx C ex s3 H3 pn=>(cI (i:=0) (show (["other","paths","at"]:List Str).Nodup by decide +kernel))) (λH0 G0 par br bx C ex s3 H3 pn hB3=>cN) (λH0 G0 par br bx C ex s3 H3 pn hB3=>(SE.wv (bu gr lI (aH aA aX (ae 1) (ae 2) (λ_ _=>rfl)) (bQ (ab (av 0 (hB3 0 (by decide))) af)))))))
  (ay (bg (i:=5) (bu fM fO (ae 5) ak) c7.nd))))))
  (ay (aK (aH aA aX (ae 3) (ae 5) (λ_ _=>rfl))))))))⟩,λds h=>aG ds h⟩
abbrev mh:Stmt:=top 44
def nh:aF ["order","left","rows","number","turn","masks","put"] ["order","left","rows","number","turn"] (ar mh):=⟨rfl,rfl,rfl,by decide +kernel,rfl,by decide +kernel,by decide +kernel⟩
def vL {T:Addr}{f:Addr}{fd:FuncData}{cu b9 fR gL:List D->FR}{k:Nat}(hk:6<=k)(F:gA K mg "case_of" mh ["order","left","rows","number","turn"] f fd)(B:iq mg)(jx:ka T P w K mg base ca "cases_on" ["order","left","rows"] k cu)(fV:bR P w K mg base ca "is_barred" ["masks","turn"] 3 b9)(lN:bR P w K mg base ca "ring_with" ["order","put","turn"] 2 fR)(nu:bR P w K mg base ca "put_turn" ["masks","turn"] 3 gL):ka T P w K mg base ca "case_of" ["order","left","rows","number","turn"] (k + 1) (aS 7 5 (jj cu b9 fR gL)):=
 ⟨⟨f,fd,F.mg,F.F.kp,F.b,jG (N:=["order","left","rows","number","turn","masks","put"]) (k:=k) F.F nh λcdv A outer s H G E hcd hT hr=>
  (aq (bg (i:=5) (aH aA aX (aH aA aX (ae 2) (ae 3) (λ_ _=>rfl)) ak (λ_ _=>rfl)) nh.nd)
  (aq (bg (i:=6) (aH aA aX (aH aA aX (ae 2) (ae 3) (λ_ _=>rfl)) ak (λ_ _=>rfl)) nh.nd)
  (aq (bW (bD rfl (aE fV (hr.mono (by omega)) aQ rfl rfl (ab (av 5 rfl) (ab (av 4 rfl) af))))
  (ay (aK (b7 (ab kc (ab (av 3 rfl) (ab (aE lN (hr.mono (by omega)) aQ rfl rfl (ab (av 0 rfl) (ab (av 6 rfl) (ab (av 4 rfl) af)))) af))))))
  bh)
  (ay (aK (fx hT jx (hr.mono (by omega)) aQ rfl rfl (ab (av 0 rfl) (ab (av 1 rfl) (ab (SE.wv (bu gr lI (bu gr lI (kq rfl (ae 2) me (mD (ae 3))) (bQ (ab (b7 (ab (aE nu (hr.mono (by omega)) aQ rfl rfl (ab (av 5 rfl) (ab (av 4 rfl) af))) (ab (bu vO Ck (ae 6) (b7 (ab (av 4 rfl) af))) af))) af))) (kq rfl (ae 2) (mD (bu fM fO (ae 3) ak)) me))) af)))))))))⟩,λds h=>aG ds h⟩
abbrev jN:Stmt:=top 43
def ux:aF ["rows","turn"] ["rows","turn"] (ar jN):=⟨rfl,rfl,rfl,by decide +kernel,rfl,by decide +kernel,by decide +kernel⟩
def sg {f:Addr}{fd:FuncData}{b9:List D->FR}(F:gA K mg "free_rows" jN ["rows","turn"] f fd)(B:iq mg)(fV:bR P w K mg base ca "is_barred" ["masks","turn"] 3 b9):bR P w K mg base ca "free_rows" ["rows","turn"] 4 (aS 2 2 (jO b9)):=
 ⟨⟨f,fd,F.mg,F.F.kp,F.b,aU (N:=["rows","turn"]) (k:=3) F.F ux λcdv A outer s H G E hr=>
  (ay (aK (aN bw dB rfl B.len NK (bH (NB:=["masks","put","turn"]) (own:=2) (ixs:=[1]) [1] rfl (bI (by kernel_rfl)) (λ_ _=>rfl) (kn rfl (ae 0)) (λH0 G0 par br bx C ex s3 H3 pn=>(iH (i:=0) (j:=1) (show (["masks","put","turn"]:List Str).Nodup by decide +kernel))) (λH0 G0 par br bx C ex s3 H3 pn hB1=>(eG (bM (bD rfl (aE fV (hr.mono (by decide)) j8 rfl rfl (ab (av 0 (hB1 0 (by decide))) (ab (av 2 (hB1 2 (by decide))) af))))))) (λH0 G0 par br bx C ex s3 H3 pn hB1=>(av 0 (hB1 0 (by decide))))))))⟩,λds h=>aG ds h⟩
abbrev k8:Stmt:=top 42
def fX:aF ["order","left","rows","undone","turn","papers","number","found"] ["order","left","rows"] (ar k8):=⟨rfl,rfl,rfl,by decide +kernel,rfl,by decide +kernel,by decide +kernel⟩
def uy {T:Addr}{f:Addr}{fd:FuncData}{jl fZ fU fW:List D->FR}{k:Nat}(hk:7<=k)(F:gA K mg "cases_on" k8 ["order","left","rows"] f fd)(B:iq mg){c:Addr}(hcode:fd.code=.ref c)(LT:AN mg base c T)(Ad:ka T P w K mg base ca "case_of" ["order","left","rows","number","turn"] (k + 1) jl)(lU:bR P w K mg base ca "is_turned" ["masks","turn"] 3 fZ)(lZ:bR P w K mg base ca "row_along" ["masks","late"] 3 fU)(lJ:bR P w K mg base ca "free_rows" ["rows","turn"] 4 fW):ka T P w K mg base ca "cases_on" ["order","left","rows"] (k + 1 + 1) (aS 8 3 (fJ jl fZ fU fW)):=
 ⟨⟨f,fd,F.mg,F.F.kp,F.b,jG (N:=["order","left","rows","undone","turn","papers","number","found"]) (k:=(k + 1)) F.F fX λcdv A outer s H G E hcd hT hr=>
  (aq (p5 (i:=3) (NB:=["turn","rows"]) (own:=1) (ixs:=[2]) [] rfl (bI (by kernel_rfl)) (λ_ _=>rfl) (kn rfl (ae 1)) (λH0 G0 par br bx C ex s3 H3 pn=>(cI (i:=0) (show (["turn","rows"]:List Str).Nodup by decide +kernel))) (λH0 G0 par br bx C ex s3 H3 pn hB1=>(eG (bM (bD rfl (aN (wD rfl) dW rfl B.any (by decide +kernel) (bH (NB:=["masks","put","turn"]) (own:=2) (ixs:=[0]) [0] rfl (bI (by kernel_rfl)) (λi hi=>hB1 i (by revert i hi;decide)) (kn rfl (ae 1)) (λH0 G0 par br bx C ex s3 H3 pn=>(iH (i:=0) (j:=1) (show (["masks","put","turn"]:List Str).Nodup by decide +kernel))) (λH0 G0 par br bx C ex s3 H3 pn hB2=>cN) (λH0 G0 par br bx C ex s3 H3 pn hB2=>(aE lU (hr.mono (by omega)) j8 rfl rfl (ab (av 0 (hB2 0 (by decide))) (ab (av 2 (hB2 2 (by decide))) af)))))))))) (λH0 G0 par br bx C ex s3 H3 pn hB1=>(av 0 (hB1 0 (by decide)))) fX.nd)
  (aq (bW (a8 (cT hr.units) dA (aN bw dB rfl B.len NK (ae 3)) ak (aW _))
  (ay (aK (b7 (ab kc (ab (SE.wv (bH (NB:=["masks","put"]) (own:=2) (ixs:=[]) [] rfl (bI (by kernel_rfl)) (λ_ _=>rfl) (kn rfl (ae 2)) (λH0 G0 par br bx C ex s3 H3 pn=>(iH (i:=0) (j:=1) (show (["masks","put"]:List Str).Nodup by decide +kernel))) (λH0 G0 par br bx C ex s3 H3 pn hB3=>cN) (λH0 G0 par br bx C ex s3 H3 pn hB3=>(aE lZ (hr.mono (by omega)) j8 rfl rfl (ab (av 0 (hB3 0 (by decide))) (ab (SE.wv (bQ af)) af)))))) af)))))
  bh)
  (aq (bg (i:=4) (Ar (NB:=["one","rows"]) (ir:=2) rfl rfl rfl B.min (av 3 rfl) (Hj (NB:=["one","rows"]) (own:=1) (ixs:=[2]) (bI (by kernel_rfl)) rfl (hcd.symm.trans hcode) LT.hd LT.bt LT.ne) (λ_ _ _ _ _ _ I=>hT.mono (I.old.trans I.sub)) (bI (by kernel_rfl)) (by decide) rfl rfl hr.depth rfl rfl (λ_ _ _ _ _ _=>rfl) (λH0 G0 qn q c1 s1 H1 pn=>(aE lJ ((hr.mono (by omega)).in1.deeper _) JC rfl rfl (ab (av 1 rfl) (ab (av 0 rfl) af))))) fX.nd)
  (aq (jM (i:=5) (bQ af) fX.nd)
  (aq (iA PassesOwn.leaving rfl (iL rfl B.range (aN bw dB rfl B.len NK (ae 2))) (cI (i:=6) fX.nd)
  (aq (bg (i:=7) (fx hT Ad (hr.mono (by omega)) aQ rfl rfl (ab (av 0 rfl) (ab (av 3 rfl) (ab (av 2 rfl) (ab (av 6 rfl) (ab (av 4 rfl) af)))))) fX.nd)
  (aq (bW (a8 (cT hr.units) dA (aH aA aX (ae 7) ak (λ_ _=>rfl)) kc (aW _))
  (ay (pV 7))
  bh)
  (ay (mL 5 (λ_=>rfl) (av 7 rfl))))))
  (ay (aK (b7 (ab kc (ab (av 4 rfl) (ab (jv cQ mF rfl B.tuple (by decide +kernel) (ae 5)) af)))))))))))⟩,λds h=>aG ds h⟩
abbrev pR:Stmt:=top 41
def vM:aF ["order","count","bare"] ["order","count"] (ar pR):=⟨rfl,rfl,rfl,by decide +kernel,rfl,by decide +kernel,by decide +kernel⟩
def Ah {T:Addr}{f:Addr}{fd:FuncData}{du cu dv:List D->FR}(F:gA K mg "cases" pR ["order","count"] f fd)(B:iq mg)(ke:bR P w K mg base ca "masks_ahead" ["order"] 2 du)(jx:ka T P w K mg base ca "cases_on" ["order","left","rows"] 87 cu)(kl:bR P w K mg base ca "sharp_turns" ["order"] 7 dv):ka T P w K mg base ca "cases" ["order","count"] 88 (aS 3 2 (pX du cu dv)):=
 ⟨⟨f,fd,F.mg,F.F.kp,F.b,jG (N:=["order","count","bare"]) (k:=87) F.F vM λcdv A outer s H G E hcd hT hr=>
  (aq (bg (i:=2) (b7 (ab (aE ke (hr.mono (by decide)) aQ rfl rfl (ab (av 0 rfl) af)) (ab (b7 af) af))) vM.nd)
  (ay (aK (fx hT jx (hr.mono (by decide)) aQ rfl rfl (ab (av 0 rfl) (ab (aE kl (hr.mono (by decide)) aQ rfl rfl (ab (av 0 rfl) af)) (ab (SE.wv (yb (bQ (ab (av 2 rfl) af)) (ae 1))) af)))))))⟩,λds h=>aG ds h⟩
abbrev gR:Stmt:=top 38
def dF:aF ["order","count","found"] ["order"] (ar gR):=⟨rfl,rfl,rfl,by decide +kernel,rfl,by decide +kernel,by decide +kernel⟩
def pM {T:Addr}{f:Addr}{fd:FuncData}{aP fC:List D->FR}(F:gA K mg "fewest_rows" gR ["order"] f fd)(B:iq mg)(bJ:bR P w K mg base ca "need_order" ["thing"] 5 aP)(kU:ka T P w K mg base ca "cases" ["order","count"] 88 fC):ka T P w K mg base ca "fewest_rows" ["order"] 89 (aS 3 1 (fm aP fC)):=
 ⟨⟨f,fd,F.mg,F.F.kp,F.b,jG (N:=["order","count","found"]) (k:=88) F.F dF λcdv A outer s H G E hcd hT hr=>
  (aq (mi (aE bJ (hr.mono (by decide)) aQ rfl rfl (ab (av 0 rfl) af)))
  (aq (bg (i:=1) ak dF.nd)
  (aq (bg (i:=2) (fx hT kU (hr.mono (by decide)) aQ rfl rfl (ab (av 0 rfl) (ab (av 1 rfl) af))) dF.nd)
  (aq (nI 1000 PassesOwn.leaving (a8 (dI hr.units) dA (aH aA aX (ae 2) ak (λ_ _=>rfl)) kc (aW _))
  (aq (bg (i:=1) (bu fM fO (ae 1) ak) dF.nd)
  (ay (bg (i:=2) (fx hT kU (hr.mono (by decide)) aQ rfl rfl (ab (av 0 rfl) (ab (av 1 rfl) af))) dF.nd))))
  (ay (aK (aH aA aX (ae 2) ak (λ_ _=>rfl))))))))⟩,λds h=>aG ds h⟩
abbrev nN:Stmt:=top 37
def A8:aF ["order"] ["order"] (ar nN):=⟨rfl,rfl,rfl,by decide +kernel,rfl,by decide +kernel,by decide +kernel⟩
def yi {T:Addr}{f:Addr}{fd:FuncData}{dz:List D->FR}(F:gA K mg "fewest" nN ["order"] f fd)(B:iq mg)(kj:ka T P w K mg base ca "fewest_rows" ["order"] 89 dz):ka T P w K mg base ca "fewest" ["order"] 90 (aS 1 1 (nY dz)):=
 ⟨⟨f,fd,F.mg,F.F.kp,F.b,jG (N:=["order"]) (k:=89) F.F A8 λcdv A outer s H G E hcd hT hr=>
  (ay (aK (aN bw dB rfl B.len NK (fx hT kj (hr.mono (by decide)) aQ rfl rfl (ab (av 0 rfl) af)))))⟩,λds h=>aG ds h⟩
abbrev iV:Stmt:=top 40
def sL:aF ["thing"] ["thing"] (ar iV):=⟨rfl,rfl,rfl,by decide +kernel,rfl,by decide +kernel,by decide +kernel⟩
def rh {f:Addr}{fd:FuncData}{bF:List D->FR}(F:gA K mg "need_count" iV ["thing"] f fd)(B:iq mg)(cZ:bR P w K mg base ca "is_whole" ["thing"] 1 bF){wq:Tok}(l0:mg "MOST_ROWS"=some (.int 8 wq)):bR P w K mg base ca "need_count" ["thing"] 2 (aS 1 1 (iZ bF)):=
 ⟨⟨f,fd,F.mg,F.F.kp,F.b,aU (N:=["thing"]) (k:=1) F.F sL λcdv A outer s H G E hr=>
  (ay (bW (oq.t (gC (bM (bD rfl (aE cZ (hr.mono (by decide)) aQ rfl rfl (ab (av 0 rfl) af)))) (fL (bM (wX qI qI xG xG ak (ae 0) (zl (by rfl) l0)))) (λ_ _=>rfl)))
  (ay Ca)
  bh))⟩,λds h=>aG ds h⟩
abbrev i7:Stmt:=top 39
def mX:aF ["order","count","found"] ["order","count"] (ar i7):=⟨rfl,rfl,rfl,by decide +kernel,rfl,by decide +kernel,by decide +kernel⟩
def qL {T:Addr}{f:Addr}{fd:FuncData}{aP bN fC:List D->FR}(F:gA K mg "case_paper" i7 ["order","count"] f fd)(B:iq mg)(bJ:bR P w K mg base ca "need_order" ["thing"] 5 aP)(eS:bR P w K mg base ca "need_count" ["thing"] 2 bN)(kU:ka T P w K mg base ca "cases" ["order","count"] 88 fC):ka T P w K mg base ca "case_paper" ["order","count"] 89 (aS 3 2 (iX aP bN fC)):=
 ⟨⟨f,fd,F.mg,F.F.kp,F.b,jG (N:=["order","count","found"]) (k:=88) F.F mX λcdv A outer s H G E hcd hT hr=>
  (aq (mi (aE bJ (hr.mono (by decide)) aQ rfl rfl (ab (av 0 rfl) af)))
  (aq (mi (aE eS (hr.mono (by decide)) aQ rfl rfl (ab (av 1 rfl) af)))
  (aq (bg (i:=2) (fx hT kU (hr.mono (by decide)) aQ rfl rfl (ab (av 0 rfl) (ab (av 1 rfl) af))) mX.nd)
  (aq (bW (a8 (cT hr.units) dA (aH aA aX (ae 2) ak (λ_ _=>rfl)) kc (aW _))
  (ay (aK IA))
  bh)
  (ay (pV 2))))))⟩,λds h=>aG ds h⟩
abbrev i8:Stmt:=top 47
def rV:aF ["thing","order","put"] ["thing","order","put"] (ar i8):=⟨rfl,rfl,rfl,by decide +kernel,rfl,by decide +kernel,by decide +kernel⟩
def rE {f:Addr}{fd:FuncData}{dZ:List D->FR}(F:gA K mg "is_ring_of" i8 ["thing","order","put"] f fd)(B:iq mg)(kZ:bR P w K mg base ca "goes_round" ["thing","order"] 6 dZ):bR P w K mg base ca "is_ring_of" ["thing","order","put"] 7 (aS 3 3 (iY dZ)):=
 ⟨⟨f,fd,F.mg,F.F.kp,F.b,aU (N:=["thing","order","put"]) (k:=6) F.F rV λcdv A outer s H G E hr=>
  (ay (aK (fH (aE kZ (hr.mono (by decide)) aQ rfl rfl (ab (av 0 rfl) (ab (av 1 rfl) af))) (fN (aN (dM rfl) dW rfl B.all (by decide +kernel) (bH (NB:=["turn","put"]) (own:=1) (ixs:=[2]) [] rfl (bI (by kernel_rfl)) (λ_ _=>rfl) (kn rfl (ae 0)) (λH0 G0 par br bx C ex s3 H3 pn=>(cI (i:=0) (show (["turn","put"]:List Str).Nodup by decide +kernel))) (λH0 G0 par br bx C ex s3 H3 pn hB1=>cN) (λH0 G0 par br bx C ex s3 H3 pn hB1=>(c5 (oJ hr.u1) oW (ae 0) (ae 1) (by with_unfolding_all rfl)))))) (λ_ _=>rfl))))⟩,λds h=>aG ds h⟩
abbrev uP:Stmt:=top 46
def zt:aF ["thing","order","puts","number","paper"] ["thing","order","puts"] (ar uP):=⟨rfl,rfl,rfl,by decide +kernel,rfl,by decide +kernel,by decide +kernel⟩
def Cf {f:Addr}{fd:FuncData}{iF cq eN cV:List D->FR}{k:Nat}(hk:7<=k)(F:gA K mg "bars" uP ["thing","order","puts"] f fd)(B:iq mg)(rB:bR P w K mg base ca "bars" ["thing","order","puts"] k iF)(dE:bR P w K mg base ca "is_below" ["thing","bound"] 2 cq)(ly:bR P w K mg base ca "is_ring_of" ["thing","order","put"] 7 eN)(jk:bR P w K mg base ca "is_turn" ["thing","order"] 4 cV):bR P w K mg base ca "bars" ["thing","order","puts"] (k + 1) (aS 5 3 (oM iF cq eN cV)):=
 ⟨⟨f,fd,F.mg,F.F.kp,F.b,aU (N:=["thing","order","puts","number","paper"]) (k:=k) F.F zt λcdv A outer s H G E hr=>
  (aq (bW (oq.t (gC (bM (bD rfl (gn "tuple" (by decide) rfl rfl B.isinstance rfl B.tuple (by decide +kernel) (ae 0)))) (fL (a8 (dI hr.units) dA (aN bw dB rfl B.len NK (ae 0)) ak (aW _))) (λ_ _=>rfl)))
  (ay (aK cS))
  bh)
  (aq (bW (a8 (cT hr.units) dA (aH aA aX (ae 0) ak (λ_ _=>rfl)) kc (aW _))
  (ay (aK (fH (aE dE (hr.mono (by omega)) aQ rfl rfl (ab (aH aA aX (ae 0) ak (λ_ _=>rfl)) (ab (aN bw dB rfl B.len NK (ae 2)) af))) (fN (aE ly (hr.mono (by omega)) aQ rfl rfl (ab (aH aA aX (ae 0) ak (λ_ _=>rfl)) (ab (av 1 rfl) (ab (aH aA aX (ae 2) (aH aA aX (ae 0) ak (λ_ _=>rfl)) (λ_ _=>rfl)) af))))) (λ_ _=>rfl))))
  bh)
  (aq (bW (oq.t (gC (a8 (dI hr.units) dA (aH aA aX (ae 0) ak (λ_ _=>rfl)) kc (aW _)) (fL (bM (bD rfl (aE jk (hr.mono (by omega)) aQ rfl rfl (ab (aH aA aX (ae 0) ak (λ_ _=>rfl)) (ab (av 1 rfl) af)))))) (λ_ _=>rfl)))
  (ay (aK cS))
  bh)
  (aq (bW (oq.t (gC (bM (bD rfl (gn "tuple" (by decide) rfl rfl B.isinstance rfl B.tuple (by decide +kernel) (aH aA aX (ae 0) ak (λ_ _=>rfl))))) (fL (a8 (dI hr.units) dA (aN bw dB rfl B.len NK (aH aA aX (ae 0) ak (λ_ _=>rfl))) (aN bw dB rfl B.len NK (ae 2)) (aW _))) (λ_ _=>rfl)))
  (ay (aK cS))
  bh)
  (aq (iA PassesOwn.leaving rfl (Dk rfl rfl B.enumerate (aH aA aX (ae 0) ak (λ_ _=>rfl))) (iH (i:=3) (j:=4) zt.nd)
  (ay (bW (bM (bD rfl (aE rB (hr.mono (by omega)) aQ rfl rfl (ab (av 4 rfl) (ab (av 1 rfl) (ab (SE.wv (bu gr lI (bu gr lI (kq rfl (ae 2) me (mD (ae 3))) (bQ (ab (bu vO Ck (aH aA aX (ae 2) (ae 3) (λ_ _=>rfl)) (b7 (ab (aH aA aX (ae 0) ak (λ_ _=>rfl)) af))) af))) (kq rfl (ae 2) (mD (bu fM fO (ae 3) ak)) me))) af))))))
  (ay (aK cS))
  bh)))
  (ay (aK cS)))))))⟩,λds h=>aG ds h⟩
abbrev fF:Stmt:=top 45
def oV:aF ["thing","order","count"] ["thing","order","count"] (ar fF):=⟨rfl,rfl,rfl,by decide +kernel,rfl,by decide +kernel,by decide +kernel⟩
def nZ {f:Addr}{fd:FuncData}{aP bN iF:List D->FR}(F:gA K mg "is_case_paper" fF ["thing","order","count"] f fd)(B:iq mg)(bJ:bR P w K mg base ca "need_order" ["thing"] 5 aP)(eS:bR P w K mg base ca "need_count" ["thing"] 2 bN)(rB:bR P w K mg base ca "bars" ["thing","order","puts"] 47 iF):bR P w K mg base ca "is_case_paper" ["thing","order","count"] 48 (aS 3 3 (fy aP bN iF)):=
 ⟨⟨f,fd,F.mg,F.F.kp,F.b,aU (N:=["thing","order","count"]) (k:=47) F.F oV λcdv A outer s H G E hr=>
  (aq (mi (aE bJ (hr.mono (by decide)) aQ rfl rfl (ab (av 1 rfl) af)))
  (aq (mi (aE eS (hr.mono (by decide)) aQ rfl rfl (ab (av 2 rfl) af)))
  (ay (aK (aE rB (hr.mono (by decide)) aQ rfl rfl (ab (av 0 rfl) (ab (av 1 rfl) (ab (SE.wv (yb (bQ (ab (b7 af) af)) (ae 2))) af))))))))⟩,λds h=>aG ds h⟩
abbrev kQ:Stmt:=top 49
def cX:aF ["script","k","here","number","j","part"] ["script","k"] (ar kQ):=⟨rfl,rfl,rfl,by decide +kernel,rfl,by decide +kernel,by decide +kernel⟩
def tZ {f:Addr}{fd:FuncData}(F:gA K mg "_law_box" kQ ["script","k"] f fd)(B:iq mg):bR P w K mg base ca "_law_box" ["script","k"] 1 (aS 6 2 (je)):=
 ⟨⟨f,fd,F.mg,F.F.kp,F.b,aU (N:=["script","k","here","number","j","part"]) (k:=0) F.F cX λcdv A outer s H G E hr=>
  (aq (bg (i:=2) (bu fM fO (bu lM ny ak (ae 1)) ak) cX.nd)
  (aq (bW (a8 sY A2 (ae 1) (aN bw dB rfl B.len NK (ae 0)) (aW _))
  (ay (bg (i:=2) (aH aA aX (ae 0) (ae 1) (λ_ _=>rfl)) cX.nd))
  bh)
  (aq (bW (a8 (cT hr.units) dA (bu mY sN (ae 2) ak) ak (aW _))
  (ay (mE (bQ (ab (bu uY J1 (ae 2) ak) af))))
  bh)
  (aq (bg (i:=3) ak cX.nd)
  (aq (iA PassesOwn.leaving rfl (iL rfl B.range ak) (cI (i:=4) cX.nd)
  (aq (bg (i:=5) (bu mY sN (bu fM fO (bu fM fO (bu lM ny (bu mY sN (ae 2) ak) ak) (bu lM ny ak (ae 4))) ak) ak) cX.nd)
  (aq (bg (i:=5) (bu mY sN (bu lM ny (ae 5) (ae 5)) ak) cX.nd)
  (ay (bg (i:=3) (bu fM fO (bu lM ny (ae 3) ak) (bu mY sN (bu lM ny (ae 5) (bu fM fO (ae 5) ak)) ak)) cX.nd)))))
  (ay (mE (bQ (ab (av 3 rfl) af)))))))))⟩,λds h=>aG ds h⟩
abbrev jS:Stmt:=top 50
def nU:aF ["box","many","left","digit"] ["box","many"] (ar jS):=⟨rfl,rfl,rfl,by decide +kernel,rfl,by decide +kernel,by decide +kernel⟩
def rR {f:Addr}{fd:FuncData}(F:gA K mg "_law_take" jS ["box","many"] f fd)(B:iq mg):pH P w K mg base "_law_take" ["box","many"] 1 eV:=by
 refine⟨⟨f,fd,F.mg,F.F.kp,F.b,?_⟩,λds β h=>?_⟩
 ·refine F.F.Be nU (λvs H Q E h=>?_) (λcdv A outer s H vs Q E hr h=>?_)
  ·obtain⟨b,rest,G,ds,β,rfl,hb,gb,sG,hl,r,_⟩:=h
   rw[N1,r.len,hl];rfl
  ·obtain⟨b,rest,G,ds,β,rfl,hb,gb,sG,hl,r,h⟩:=h
   obtain⟨m,rfl,h0,h1⟩:=zJ (λz=>by rw[z] at h;exact h)
   rw[tX h0 h1] at h
   have kk:∀v G' H',iG (some b) H H'->H' b=some (.lst [.int (β / m)])->ax G G'->ax G' H'->(∀c,Mx H c->G c=none->G' c=none)->FV K H G' H' false (.int (β % m)) v->Q v H':=h
   cases r with
   |cons r1 r2=>
    cases r1
    cases r2
    refine⟨_,ju (rl (qZ wO rfl B.divmod (by decide +kernel) (bc (mR i5 (pv 0) xD (λ_ _=>rfl)) (bc (pv 1) cp))) (FE (i:=2) (j:=3) nU.nd rfl rfl rfl rfl rfl))
     (ju (rl (pv 2) (vg (pv 0) xD set_list)) (jL (oB (pv 3)))),?_⟩
    refine⟨_,rfl,b,_,0,.int β,rfl,rfl,.inl (.inl hb),rfl,_,rfl,β,m,rfl,⟨h0,h1⟩,λp hp=>⟨p,_,rfl,.inl (.inl aC),rfl,_,_,rfl,_,_,rfl,rfl,?_⟩⟩
    have hbp:b≠p:=aO hb hp
    exact⟨_,rfl,_,rfl,b,[.int β],0,0,rfl,rfl,by rw[aB hbp];exact hb,rfl,_,rfl,Ds hb sG hp kk gb⟩
 ·obtain⟨m,rfl,_⟩:=zJ h
  rfl
abbrev i9:Stmt:=top 51
def sD:aF ["thing"] ["thing"] (ar i9):=⟨rfl,rfl,rfl,by decide +kernel,rfl,by decide +kernel,by decide +kernel⟩
def qz {f:Addr}{fd:FuncData}(F:gA K mg "_law_whole" i9 ["thing"] f fd)(B:iq mg):bR P w K mg base ca "_law_whole" ["thing"] 1 (aS 1 1 (n5)):=
 ⟨⟨f,fd,F.mg,F.F.kp,F.b,aU (N:=["thing"]) (k:=0) F.F sD λcdv A outer s H G E hr=>
  (ay (aK (fH (gn "int" (by decide) rfl rfl B.isinstance rfl B.int (by decide +kernel) (ae 0)) (fN (yx (gn "bool" (by decide) rfl rfl B.isinstance rfl B.bool (by decide +kernel) (ae 0)))) (λ_ _=>rfl))))⟩,λds h=>aG ds h⟩
abbrev fB:Stmt:=top 52
def gG:aF ["box","some","left","found"] ["box","some"] (ar fB):=⟨rfl,rfl,rfl,by decide +kernel,rfl,by decide +kernel,by decide +kernel⟩
def nM {f:Addr}{fd:FuncData}{aZ:List D->Int->FB}(F:gA K mg "_law_shuffled" fB ["box","some"] f fd)(B:iq mg)(cc:pH P w K mg base "_law_take" ["box","many"] 1 aZ):pH P w K mg base "_law_shuffled" ["box","some"] 2 (vQ 4 1 (fE aZ)):=
 ⟨⟨f,fd,F.mg,F.F.kp,F.b,wQ (ca:=λ_=>0) (N:=["box","some","left","found"]) (k:=1) F.F gG (by decide) λcdv A outer s H G b E hr=>
  (aq (jM (i:=2) (jv tW GZ rfl B.list (by decide +kernel) (ae 1)) gG.nd)
  (aq (jM (i:=3) (bQ af) gG.nd)
  (aq (nI 1000 PassesOwn.leaving (a8 (dI hr.units) dA (ae 2) (bQ af) (aW _))
  (ay (z7 3 2 (λ_=>rfl) (pk 0 cc (hr.mono (by decide)) aQ rfl rfl (ab (aN bw dB rfl B.len NK (ae 2)) af)))))
  (ay (aK (jv cQ mF rfl B.tuple (by decide +kernel) (ae 3)))))))⟩,λds β h=>vm ds β h⟩
abbrev jY:Stmt:=top 53
def i4:aF ["many","rows","found","a","b"] ["many","rows"] (ar jY):=⟨rfl,rfl,rfl,by decide +kernel,rfl,by decide +kernel,by decide +kernel⟩
def sE {f:Addr}{fd:FuncData}(F:gA K mg "_law_told" jY ["many","rows"] f fd)(B:iq mg):bR P w K mg base ca "_law_told" ["many","rows"] 1 (aS 5 2 (jX)):=
 ⟨⟨f,fd,F.mg,F.F.kp,F.b,aU (N:=["many","rows","found","a","b"]) (k:=0) F.F i4 λcdv A outer s H G E hr=>
  (aq (jM (i:=2) (bQ af) i4.nd)
  (aq (iA PassesOwn.leaving rfl (iL rfl B.range (ae 0)) (cI (i:=3) i4.nd)
  (ay (iA PassesOwn.leaving rfl (iL rfl B.range (ae 0)) (cI (i:=4) i4.nd)
  (ay (bW (oq.t (uV (a8 (dI hr.units) dA (ae 3) (ae 4) (aW _)) (p9 (bD rfl (aN (dM rfl) dW rfl B.all (by decide +kernel) (bH (NB:=["row","a","b"]) (own:=1) (ixs:=[3,4]) [] rfl (bI (by kernel_rfl)) (λ_ _=>rfl) (kn rfl (ae 1)) (λH0 G0 par br bx C ex s3 H3 pn=>(cI (i:=0) (show (["row","a","b"]:List Str).Nodup by decide +kernel))) (λH0 G0 par br bx C ex s3 H3 pn hB1=>cN) (λH0 G0 par br bx C ex s3 H3 pn hB1=>(c5 sY A2 (vJ rfl (ae 0) (ae 1)) (vJ rfl (ae 0) (ae 2)) (aW _))))))) (λ_ _=>rfl)))
  (ay (mL 2 (λ_=>rfl) (b7 (ab (av 3 rfl) (ab (av 4 rfl) af)))))
  bh)))))
  (ay (aK (jv cQ mF rfl B.tuple (by decide +kernel) (ae 2))))))⟩,λds h=>aG ds h⟩
abbrev i3:Stmt:=top 54
def cP:aF ["box","most","many","rows","lows","pairs","k"] ["box","most"] (ar i3):=⟨rfl,rfl,rfl,by decide +kernel,rfl,by decide +kernel,by decide +kernel⟩
def qc {f:Addr}{fd:FuncData}{fQ:List D->FR}{aZ cn:List D->Int->FB}(F:gA K mg "_law_order" i3 ["box","most"] f fd)(B:iq mg)(lK:bR P w K mg base ca "_law_told" ["many","rows"] 1 fQ)(cc:pH P w K mg base "_law_take" ["box","many"] 1 aZ)(fD:pH P w K mg base "_law_shuffled" ["box","some"] 2 cn):pH P w K mg base "_law_order" ["box","most"] 3 (vQ 7 1 (fG fQ aZ cn)):=
 ⟨⟨f,fd,F.mg,F.F.kp,F.b,wQ (ca:=ca) (N:=["box","most","many","rows","lows","pairs","k"]) (k:=2) F.F cP (by decide) λcdv A outer s H G b E hr=>
  (aq (bg (i:=2) (bu fM fO ak (pk 0 cc (hr.mono (by decide)) aQ rfl rfl (ab (av 1 rfl) af))) cP.nd)
  (aq (p5 (i:=3) (NB:=["turn","box","many"]) (own:=1) (ixs:=[0,2]) [] rfl (bI (by kernel_rfl)) (λ_ _=>rfl) (iL rfl B.range (bu fM fO ak (pk 0 cc (hr.mono (by decide)) aQ rfl rfl (ab ak af)))) (λH0 G0 par br bx C ex s3 H3 pn=>(cI (i:=0) (show (["turn","box","many"]:List Str).Nodup by decide +kernel))) (λH0 G0 par br bx C ex s3 H3 pn hB1=>cN) (λH0 G0 par br bx C ex s3 H3 pn hB1=>(pk 1 fD (hr.mono (by decide)) j8 rfl rfl (ab (SE.wv (qu rfl rfl B.list rfl B.range (ae 2))) af))) cP.nd)
  (aq (bW (oq.t (uV (a8 (cT hr.units) dA (ae 2) ak (aW _)) (p9 (a8 (cT hr.units) dA (pk 0 cc (hr.mono (by decide)) aQ rfl rfl (ab ak af)) ak (aW _))) (λ_ _=>rfl)))
  (aq (bg (i:=4) (pk 0 fD (hr.mono (by decide)) aQ rfl rfl (ab (SE.wv (qu rfl rfl B.list rfl B.range ak)) af)) cP.nd)
  (aq (bg (i:=5) (SE.wv (bQ af)) cP.nd)
  (aq (iA PassesOwn.leaving rfl (iL rfl B.range ak) (cI (i:=6) cP.nd)
  (ay (bg (i:=5) (SE.wv (bu gr lI (ae 5) (bH (NB:=["j","k","lows"]) (own:=1) (ixs:=[6,4]) [] rfl (bI (by kernel_rfl)) (λ_ _=>rfl) (iL rfl B.range ak) (λH0 G0 par br bx C ex s3 H3 pn=>(cI (i:=0) (show (["j","k","lows"]:List Str).Nodup by decide +kernel))) (λH0 G0 par br bx C ex s3 H3 pn hB2=>(eG (a8 (dI hr.units) dA (ae 0) (ae 1) (aW _)))) (λH0 G0 par br bx C ex s3 H3 pn hB2=>(b7 (ab (aH aA aX (ae 2) (ae 1) (λ_ _=>rfl)) (ab (aH aA aX (ae 2) (bu fM fO ak (ae 0)) (λ_ _=>rfl)) af))))))) cP.nd)))
  (ay (aK (b7 (ab ak (ab (jv cQ mF rfl B.tuple (by decide +kernel) (aN vX EA rfl B.sorted (by decide +kernel) (ae 5))) af))))))))
  bh)
  (ay (aK (b7 (ab (av 2 rfl) (ab (aE lK (hr.mono (by decide)) aQ rfl rfl (ab (av 2 rfl) (ab (av 3 rfl) af))) af))))))))⟩,λds β h=>vm ds β h⟩
abbrev iW:Stmt:=top 55
def rT:aF ["order","a","b"] ["order","a","b"] (ar iW):=⟨rfl,rfl,rfl,by decide +kernel,rfl,by decide +kernel,by decide +kernel⟩
def rK {f:Addr}{fd:FuncData}(F:gA K mg "_law_apart" iW ["order","a","b"] f fd)(B:iq mg):bR P w K mg base ca "_law_apart" ["order","a","b"] 1 (aS 3 3 (oh)):=
 ⟨⟨f,fd,F.mg,F.F.kp,F.b,aU (N:=["order","a","b"]) (k:=0) F.F rT λcdv A outer s H G E hr=>
  (ay (aK (fH (c5 (dI hr.units) dA (ae 1) (ae 2) (aW _)) (fH (c5 (gM hr.u1) oW (b7 (ab (av 1 rfl) (ab (av 2 rfl) af))) (aH aA aX (ae 0) ak (λ_ _=>rfl)) (by with_unfolding_all rfl)) (fN (c5 (gM hr.u1) oW (b7 (ab (av 2 rfl) (ab (av 1 rfl) af))) (aH aA aX (ae 0) ak (λ_ _=>rfl)) (by with_unfolding_all rfl))) (λ_ _=>rfl)) (λ_ _=>rfl))))⟩,λds h=>aG ds h⟩
abbrev my:Stmt:=top 56
def xP:aF ["order","one","other"] ["order","one","other"] (ar my):=⟨rfl,rfl,rfl,by decide +kernel,rfl,by decide +kernel,by decide +kernel⟩
def vn {f:Addr}{fd:FuncData}(F:gA K mg "_law_on" my ["order","one","other"] f fd)(B:iq mg):bR P w K mg base ca "_law_on" ["order","one","other"] 1 (aS 3 3 (tv)):=
 ⟨⟨f,fd,F.mg,F.F.kp,F.b,aU (N:=["order","one","other"]) (k:=0) F.F xP λcdv A outer s H G E hr=>
  (ay (aK (Gh (c5 (cT hr.units) dA (aH aA aX (ae 1) ak (λ_ _=>rfl)) (aH aA aX (ae 2) ak (λ_ _=>rfl)) (aW _)) (fN (c5 (oJ hr.u1) oW (b7 (ab (aH aA aX (ae 1) ak (λ_ _=>rfl)) (ab (aH aA aX (ae 2) ak (λ_ _=>rfl)) af))) (aH aA aX (ae 0) ak (λ_ _=>rfl)) (by with_unfolding_all rfl))) (λ_ _=>rfl))))⟩,λds h=>aG ds h⟩
abbrev eO:Stmt:=top 57
def nV:aF ["order","thing"] ["order","thing"] (ar eO):=⟨rfl,rfl,rfl,by decide +kernel,rfl,by decide +kernel,by decide +kernel⟩
def mZ {f:Addr}{fd:FuncData}{bP dX:List D->FR}(F:gA K mg "_law_turn_good" eO ["order","thing"] f fd)(B:iq mg)(eB:bR P w K mg base ca "_law_whole" ["thing"] 1 bP)(lu:bR P w K mg base ca "_law_apart" ["order","a","b"] 1 dX):bR P w K mg base ca "_law_turn_good" ["order","thing"] 2 (aS 2 2 (dP bP dX)):=
 ⟨⟨f,fd,F.mg,F.F.kp,F.b,aU (N:=["order","thing"]) (k:=1) F.F nV λcdv A outer s H G E hr=>
  (aq (bW (oq.t (gC (bM (bD rfl (gn "tuple" (by decide) rfl rfl B.isinstance rfl B.tuple (by decide +kernel) (ae 1)))) (gC (a8 (dI hr.units) dA (aN bw dB rfl B.len NK (ae 1)) ak (aW _)) (fL (bM (bD rfl (aN (dM rfl) dW rfl B.all (by decide +kernel) (bH (NB:=["one"]) (own:=1) (ixs:=[]) [] rfl (bI (by kernel_rfl)) (λ_ _=>rfl) (kn rfl (ae 1)) (λH0 G0 par br bx C ex s3 H3 pn=>(cI (i:=0) (show (["one"]:List Str).Nodup by decide +kernel))) (λH0 G0 par br bx C ex s3 H3 pn hB1=>cN) (λH0 G0 par br bx C ex s3 H3 pn hB1=>(aE eB (hr.mono (by decide)) j8 rfl rfl (ab (av 0 (hB1 0 (by decide))) af)))))))) (λ_ _=>rfl)) (λ_ _=>rfl)))
  (ay (aK cS))
  bh)
  (ay (aK (fH (aN (dM rfl) dW rfl B.all (by decide +kernel) (bH (NB:=["one","order"]) (own:=1) (ixs:=[0]) [] rfl (bI (by kernel_rfl)) (λ_ _=>rfl) (kn rfl (ae 1)) (λH0 G0 par br bx C ex s3 H3 pn=>(cI (i:=0) (show (["one","order"]:List Str).Nodup by decide +kernel))) (λH0 G0 par br bx C ex s3 H3 pn hB2=>cN) (λH0 G0 par br bx C ex s3 H3 pn hB2=>(qf qI sY xG A2 ak (ae 0) (aH aA aX (ae 1) ak (λ_ _=>rfl)))))) (fN (aE lu (hr.mono (by decide)) aQ rfl rfl (ab (av 0 rfl) (ab (aH aA aX (ae 1) ak (λ_ _=>rfl)) (ab (aH aA aX (ae 1) ak (λ_ _=>rfl)) af))))) (λ_ _=>rfl)))))⟩,λds h=>aG ds h⟩
abbrev jR:Stmt:=top 58
def uK:aF ["order","thing"] ["order","thing"] (ar jR):=⟨rfl,rfl,rfl,by decide +kernel,rfl,by decide +kernel,by decide +kernel⟩
def rW {f:Addr}{fd:FuncData}{a7 ji:List D->FR}(F:gA K mg "_law_ring" jR ["order","thing"] f fd)(B:iq mg)(cB:bR P w K mg base ca "_law_turn_good" ["order","thing"] 2 a7)(oU:bR P w K mg base ca "_law_on" ["order","one","other"] 1 ji):bR P w K mg base ca "_law_ring" ["order","thing"] 3 (aS 2 2 (jW a7 ji)):=
 ⟨⟨f,fd,F.mg,F.F.kp,F.b,aU (N:=["order","thing"]) (k:=2) F.F uK λcdv A outer s H G E hr=>
  (aq (bW (oq.t (gC (bM (bD rfl (gn "list" (by decide) rfl rfl B.isinstance rfl B.list (by decide +kernel) (ae 1)))) (gC (a8 (BQ hr.units) EO (ae 1) (bQ af) (aW _)) (fL (bM (bD rfl (aN (dM rfl) dW rfl B.all (by decide +kernel) (bH (NB:=["one","order"]) (own:=1) (ixs:=[0]) [0] rfl (bI (by kernel_rfl)) (λ_ _=>rfl) (kn rfl (ae 1)) (λH0 G0 par br bx C ex s3 H3 pn=>(cI (i:=0) (show (["one","order"]:List Str).Nodup by decide +kernel))) (λH0 G0 par br bx C ex s3 H3 pn hB1=>cN) (λH0 G0 par br bx C ex s3 H3 pn hB1=>(aE cB (hr.mono (by decide)) j8 rfl rfl (ab (av 1 (hB1 1 (by decide))) (ab (av 0 (hB1 0 (by decide))) af))))))))) (λ_ _=>rfl)) (λ_ _=>rfl)))
  (ay (aK cS))
  bh)
  (ay (aK (aN (dM rfl) dW rfl B.all (by decide +kernel) (bH (NB:=["at","order","thing"]) (own:=1) (ixs:=[0,1]) [0] rfl (bI (by kernel_rfl)) (λ_ _=>rfl) (iL rfl B.range (aN bw dB rfl B.len NK (ae 1))) (λH0 G0 par br bx C ex s3 H3 pn=>(cI (i:=0) (show (["at","order","thing"]:List Str).Nodup by decide +kernel))) (λH0 G0 par br bx C ex s3 H3 pn hB2=>cN) (λH0 G0 par br bx C ex s3 H3 pn hB2=>(aE oU (hr.mono (by decide)) j8 rfl rfl (ab (av 1 (hB2 1 (by decide))) (ab (aH aA aX (ae 2) (bu C3 Gr (ae 0) ak) (λ_ _=>rfl)) (ab (aH aA aX (ae 2) (ae 0) (λ_ _=>rfl)) af))))))))))⟩,λds h=>aG ds h⟩
abbrev jg:Stmt:=top 59
def kb:aF ["thing","order","put","place","more"] ["thing","order","put"] (ar jg):=⟨rfl,rfl,rfl,by decide +kernel,rfl,by decide +kernel,by decide +kernel⟩
def qW {f:Addr}{fd:FuncData}{bC bP gc a7:List D->FR}{k:Nat}(hk:3<=k)(F:gA K mg "_law_shows" jg ["thing","order","put"] f fd)(B:iq mg)(eR:bR P w K mg base ca "_law_shows" ["thing","order","put"] k bC)(eB:bR P w K mg base ca "_law_whole" ["thing"] 1 bP)(l5:bR P w K mg base ca "_law_ring" ["order","thing"] 3 gc)(cB:bR P w K mg base ca "_law_turn_good" ["order","thing"] 2 a7):bR P w K mg base ca "_law_shows" ["thing","order","put"] (k + 1) (aS 5 3 (iS bC bP gc a7)):=
 ⟨⟨f,fd,F.mg,F.F.kp,F.b,aU (N:=["thing","order","put","place","more"]) (k:=k) F.F kb λcdv A outer s H G E hr=>
  (aq (bW (oq.t (gC (bM (bD rfl (gn "tuple" (by decide) rfl rfl B.isinstance rfl B.tuple (by decide +kernel) (ae 0)))) (fL (a8 (dI hr.units) dA (aN bw dB rfl B.len NK (ae 0)) ak (aW _))) (λ_ _=>rfl)))
  (ay (aK cS))
  bh)
  (aq (bW (a8 Jk Jv (aN (qy hr.gd hr.u1) yO rfl B.repr (by decide +kernel) (aH aA aX (ae 0) ak (λ_ _=>rfl))) kc (aW _))
  (aq (bW (oq.t (gC (bM (bD rfl (aE eB (hr.mono (by omega)) aQ rfl rfl (ab (aH aA aX (ae 0) ak (λ_ _=>rfl)) af)))) (gC (bM (wX qI sY xG A2 ak (aH aA aX (ae 0) ak (λ_ _=>rfl)) (aN bw dB rfl B.len NK (ae 2)))) (fL (bM (bD rfl (aE l5 (hr.mono (by omega)) aQ rfl rfl (ab (av 1 rfl) (ab (aH aA aX (ae 0) ak (λ_ _=>rfl)) af)))))) (λ_ _=>rfl)) (λ_ _=>rfl)))
  (ay (aK cS))
  bh)
  (ay (aK (c5 (cT hr.units) dA (bH (NB:=["one","put","thing"]) (own:=1) (ixs:=[2,0]) [] rfl (bI (by kernel_rfl)) (λ_ _=>rfl) (kn rfl (aH aA aX (ae 0) ak (λ_ _=>rfl))) (λH0 G0 par br bx C ex s3 H3 pn=>(cI (i:=0) (show (["one","put","thing"]:List Str).Nodup by decide +kernel))) (λH0 G0 par br bx C ex s3 H3 pn hB1=>(eG (a8 (gM hr.u1) oW (ae 0) (aH aA aX (ae 1) (aH aA aX (ae 2) ak (λ_ _=>rfl)) (λ_ _=>rfl)) (by with_unfolding_all rfl)))) (λH0 G0 par br bx C ex s3 H3 pn hB1=>(av 0 (hB1 0 (by decide))))) (bQ af) (aW _)))))
  bh)
  (aq (bW (oq.t (gC (a8 JV Kx (aN (qy hr.gd hr.u1) yO rfl B.repr (by decide +kernel) (aH aA aX (ae 0) ak (λ_ _=>rfl))) kc (aW _)) (fL (bM (bD rfl (aE cB (hr.mono (by omega)) aQ rfl rfl (ab (av 1 rfl) (ab (aH aA aX (ae 0) ak (λ_ _=>rfl)) af)))))) (λ_ _=>rfl)))
  (ay (aK cS))
  bh)
  (aq (bW (oq.t (gC (bM (bD rfl (gn "tuple" (by decide) rfl rfl B.isinstance rfl B.tuple (by decide +kernel) (aH aA aX (ae 0) ak (λ_ _=>rfl))))) (fL (a8 (dI hr.units) dA (aN bw dB rfl B.len NK (aH aA aX (ae 0) ak (λ_ _=>rfl))) (aN bw dB rfl B.len NK (ae 2)) (aW _))) (λ_ _=>rfl)))
  (ay (aK cS))
  bh)
  (aq (iA PassesOwn.leaving rfl (iL rfl B.range (aN bw dB rfl B.len NK (ae 2))) (cI (i:=3) kb.nd)
  (aq (bg (i:=4) (SE.wv (bu gr lI (bu gr lI (kq rfl (ae 2) me (mD (ae 3))) (bQ (ab (SE.wv (bu gr lI (aH aA aX (ae 2) (ae 3) (λ_ _=>rfl)) (bQ (ab (aH aA aX (ae 0) ak (λ_ _=>rfl)) af)))) af))) (kq rfl (ae 2) (mD (bu fM fO (ae 3) ak)) me))) kb.nd)
  (ay (bW (bM (bD rfl (aE eR (hr.mono (by omega)) aQ rfl rfl (ab (aH aA aX (aH aA aX (ae 0) ak (λ_ _=>rfl)) (ae 3) (λ_ _=>rfl)) (ab (av 1 rfl) (ab (av 4 rfl) af))))))
  (ay (aK cS))
  bh))))
  (ay (aK cS)))))))⟩,λds h=>aG ds h⟩
abbrev iQ:Stmt:=top 60
def gX:aF ["pairs","low"] [] (ar iQ):=⟨rfl,rfl,rfl,by decide +kernel,rfl,by decide +kernel,by decide +kernel⟩
def q8 {f:Addr}{fd:FuncData}(F:gA K mg "_law_crown" iQ [] f fd)(B:iq mg):bR P w K mg base ca "_law_crown" [] 1 (aS 2 0 (iy)):=
 ⟨⟨f,fd,F.mg,F.F.kp,F.b,aU (N:=["pairs","low"]) (k:=0) F.F gX λcdv A outer s H G E hr=>
  (aq (bg (i:=0) (SE.wv (bQ af)) gX.nd)
  (aq (iA PassesOwn.leaving rfl (iL rfl B.range ak) (cI (i:=1) gX.nd)
  (ay (bg (i:=0) (SE.wv (bu gr lI (ae 0) (bH (NB:=["high","low"]) (own:=1) (ixs:=[1]) [1] rfl (bI (by kernel_rfl)) (λ_ _=>rfl) (iL rfl B.range ak) (λH0 G0 par br bx C ex s3 H3 pn=>(cI (i:=0) (show (["high","low"]:List Str).Nodup by decide +kernel))) (λH0 G0 par br bx C ex s3 H3 pn hB1=>(eG (a8 (dI hr.units) dA (ae 0) (ae 1) (aW _)))) (λH0 G0 par br bx C ex s3 H3 pn hB1=>(b7 (ab (av 1 (hB1 1 (by decide))) (ab (bu fM fO ak (ae 0)) af))))))) gX.nd)))
  (ay (aK (b7 (ab ak (ab (jv cQ mF rfl B.tuple (by decide +kernel) (ae 0)) af)))))))⟩,λds h=>aG ds h⟩
abbrev mP:Stmt:=top 61
def nv:aF ["script","k","box","order","few","count","paper"] ["script"] (ar mP):=⟨rfl,rfl,rfl,by decide +kernel,rfl,by decide +kernel,by decide +kernel⟩
def EW {T:Addr}{f:Addr}{fd:FuncData}{gP kx c4 bC cg c6:List D->FR}{dU aZ:List D->Int->FB}(F:gA K mg "law" mP ["script"] f fd)(B:iq mg)(nr:bR P w K mg base ca "_law_box" ["script","k"] 1 gP)(rm:ka T P w K mg base ca "fewest" ["order"] 90 kx)(jf:ka T P w K mg base ca "case_paper" ["order","count"] 89 c4)(eR:bR P w K mg base ca "_law_shows" ["thing","order","put"] 43 bC)(fA:bR P w K mg base ca "is_case_paper" ["thing","order","count"] 48 cg)(iP:bR P w K mg base ca "_law_crown" [] 1 c6)(kI:pH P w K mg base "_law_order" ["box","most"] 3 dU)(cc:pH P w K mg base "_law_take" ["box","many"] 1 aZ):fq P w K mg base (nE P w) 91 f fd ["script"] (spT T K ca 1 (aS 7 1 (yN gP kx c4 bC cg c6 dU aZ))):=
 jG (N:=["script","k","box","order","few","count","paper"]) (k:=90) F.F nv λcdv A outer s H G E hcd hT hr=>
  (aq (iA PassesOwn.leaving rfl (iL rfl B.range ak) (cI (i:=1) nv.nd)
  (aq (Eh (i:=2) rfl (BK nr (hr.mono (by decide)) aQ rfl rfl (ab (av 0 rfl) (ab (av 1 rfl) af))) nv.nd)
  (aq (bg (i:=3) (pk 2 kI (hr.mono (by decide)) aQ rfl rfl (ab ak af)) nv.nd)
  (aq (bg (i:=4) (fx hT rm (hr.mono (by decide)) aQ rfl rfl (ab (av 3 rfl) af)) nv.nd)
  (aq (iA PassesOwn.leaving rfl (Je rfl B.range ak ak) (cI (i:=5) nv.nd)
  (aq (bg (i:=6) (fx hT jf (hr.mono (by decide)) aQ rfl rfl (ab (av 3 rfl) (ab (av 5 rfl) af))) nv.nd)
  (aq (bW (a8 (dI hr.units) dA (Im (ae 6)) (c5 Ku LL (ae 5) (ae 4) (aW _)) (aW _))
  (ay (aK cS))
  bh)
  (ay (bW (Fv (ae 6))
  (aq (bW (bM (bD rfl (aE eR (hr.mono (by decide)) aQ rfl rfl (ab (av 6 rfl) (ab (av 3 rfl) (ab (SE.wv (bH (NB:=["place"]) (own:=1) (ixs:=[]) [] rfl (bI (by kernel_rfl)) (λ_ _=>rfl) (iL rfl B.range (ae 5)) (λH0 G0 par br bx C ex s3 H3 pn=>(cI (i:=0) (show (["place"]:List Str).Nodup by decide +kernel))) (λH0 G0 par br bx C ex s3 H3 pn hB1=>cN) (λH0 G0 par br bx C ex s3 H3 pn hB1=>(SE.wv (bQ af))))) af))))))
  (ay (aK cS))
  bh)
  (aq (bW (a8 tQ w9 (aE fA (hr.mono (by decide)) aQ rfl rfl (ab (av 6 rfl) (ab (av 3 rfl) (ab (av 5 rfl) af)))) cS (aW _))
  (ay (aK cS))
  bh)
  (ay (bW (a8 tQ w9 (aE fA (hr.mono (by decide)) aQ rfl rfl (ab (av 6 rfl) (ab (av 3 rfl) (ab (bu fM fO (ae 5) ak) af)))) cS (aW _))
  (ay (aK cS))
  bh))))
  bh)))))
  (ay (bW (oq.t (uV (a8 (cT hr.units) dA (ae 1) ak (aW _)) (p9 (a8 (cT hr.units) dA (pk 2 cc (hr.mono (by decide)) aQ rfl rfl (ab ak af)) ak (aW _))) (λ_ _=>rfl)))
  (ay (bW (bM (bD rfl (aE eR (hr.mono (by decide)) aQ rfl rfl (ab (fx hT jf (hr.mono (by decide)) aQ rfl rfl (ab (wj iP (hr.mono (by decide)) aQ rfl rfl) (ab ak af))) (ab (wj iP (hr.mono (by decide)) aQ rfl rfl) (ab (SE.wv (bQ (ab (SE.wv (bQ af)) (ab (SE.wv (bQ af)) (ab (SE.wv (bQ af)) af))))) af))))))
  (ay (aK cS))
  bh))
  bh)))))))
  (ay (aK cS)))
end
end RQ
namespace RM
open PySem L2
theorem BD {t u:VF Bool}{vs:List Nv}{β:Int}{a b:Bool}(h:t vs β=.ok a β)(h':u vs β=.ok b β):xj t u vs β=.ok (a && b) β:=by
 rw[uT,h];dsimp only[R.bnd]
 cases a with
 |true=>rw[Nc rfl,h'];rfl
 |false=>rfl
theorem Ef {t u:VF Bool}{vs:List Nv}{β:Int}{a b:Bool}(h:t vs β=.ok a β)(h':u vs β=.ok b β):ie t u vs β=.ok (a || b) β:=by
 rw[pQ,h];dsimp only[R.bnd]
 cases a with
 |true=>rfl
 |false=>rw[Nk Nj,h'];rfl
def bz {t:VF Bool}{vs:List Nv}{β:Int}{a:Bool}(h:t vs β=.ok a β):kB t vs β=.ok (!a) β:=by rw[yI,h];rfl
def Cp {fa:VF D}{vs:List Nv}{β:Int}{l:List Pr}{f:Pr->Bool}(h:fa vs β=.ok (.list (l.map λq=>PyData.bool (f q))) β):f1 fa (bo λbs=>bs.all id) vs β=.ok (.bool (l.all f)) β:=by
 refine fo h ?_
 simp only[bo]
 rw[eQ]
 simp[Pj]
def upTo (n:Nat)(f:Pr->Bool)(i k:Nat):List Pr:=(OM.dq n).filter λp=>(decide (p.1 < i) || (decide (p.1=i) && decide (p.2 < k))) && f p
def Dh {n:Nat}(f:Pr->Bool)(i k:Nat)(h8:n<=8):(upTo n f i k).length<=64:=by
 have h1:(upTo n f i k).length<=(OM.dq n).length:=NZ _ _
 rw[gq] at h1
 have:n * n<=64:=OK h8 h8
 omega
def Ax (n:Nat)(f:Pr->Bool):upTo n f 0 0= []:=by
 unfold upTo
 rw[List.filter_eq_nil_iff]
 intro p hp
 have:=OM.bV.mp hp
 rw[Nx (by omega),Nx (p:=p.2 < ((0:Nat):Int)) (by omega)];simp
def BB (n:Nat)(f:Pr->Bool):upTo n f n 0=(OM.dq n).filter f:=by
 unfold upTo
 refine Pu λp hp=>?_
 have:=(OM.bV.mp hp).1.2
 rw[Ni this];simp
def Ci (n:Nat)(f:Pr->Bool)(i:Nat):upTo n f i n=upTo n f (i + 1) 0:=by
 unfold upTo
 refine Pu λp hp=>?_
 have h:=OM.bV.mp hp
 congr 1
 rw[NS]
 simp only[Oj,Ny,NC]
 omega
def sZ {n i k:Nat}(f:Pr->Bool)(hi:i < n)(hk:k < n):upTo n f i (k + 1)=upTo n f i k ++ if f ((i:Int),(k:Int))=true then [((i:Int),(k:Int))] else []:=by
 refine OM.kL (OM.jy _ (OM.ko n)) ?_ λx=>?_
 ·show List.Pairwise OM.BA _
  rw[List.pairwise_append]
  refine⟨OM.jy _ (OM.ko n),?_,λp hp q hq=>?_⟩
  ·split <;> simp
  ·unfold upTo at hp
   have h1:=(Nq.mp hp).2
   simp only[Oj,Ny,NC] at h1
   split at hq
   ·have:q=((i:Int),(k:Int)):=by simpa using hq
    subst this
    show p.1 < (i:Int)\/(p.1=(i:Int)/\p.2 < (k:Int))
    exact h1.1
   ·cases hq
 ·rw[Nz]
  unfold upTo
  rw[Nq,Nq,OM.bV]
  simp only[Oj,Ny,NC]
  constructor
  ·rintro⟨h1,h2,h3⟩
   by_cases z:x.1=i/\x.2=k
   ·obtain⟨xa,xb⟩:=x
    simp only at z h3
    obtain⟨rfl,rfl⟩:=z
    rw[Nc h3]
    exact .inr (NG.mpr rfl)
   ·exact .inl ⟨h1,by omega,h3⟩
  ·rintro (⟨h1,h2,h3⟩ |h)
   ·exact⟨h1,by omega,h3⟩
   ·split at h
    ·rename_i hf
     have:x=((i:Int),(k:Int)):=by simpa using h
     subst this
     exact⟨⟨⟨by show (0:Int)<=(i:Int);omega,by show (i:Int) < n;omega⟩,by show (0:Int)<=(k:Int);omega,by show (k:Int) < n;omega⟩,.inr ⟨rfl,by show (k:Int) < ((k + 1:Nat):Int);omega⟩,hf⟩
    ·cases h
def tupI (r:List Int):D:=.tuple (r.map int)
def zb {fa fb:VF D}{vs:List Nv}{β:Int}{r:List Int}{k:Int}(h:fa vs β=.ok (tupI r) β)(h':fb vs β=.ok (.int k) β)(hk:k∈r):oK fa fb vs β=.ok (.int (r.idxOf k:Nat)) β:=by
 unfold oK
 rw[h]
 dsimp only[R.bnd]
 rw[Nc (by rfl),h']
 dsimp only[R.bnd,Fg,tupI]
 rw[mf]
 dsimp only
 rw[Nc hk];rfl
noncomputable def By:List D->FR:=aS 6 2 je
def GL (ns:List Int)(k:Nat):∃z,By [dH ns,.int k]=.ok (.list [.int z]) true:=by
 show ∃z,fin (je [.fz (dH ns),.fz (.int k),.no,.no,.no,.no] 0)=.ok (.list [.int z]) true
 unfold je
 have e0:f2 (f2 (cst (.int 7919)) (gv 1) dD) (cst (.int 13)) bZ [Nv.da (dH ns),.da (.int k),.no,.no,.no,.no] 0=.ok (.int (7919 * k + 13)) 0:=az (az (x:=.int 7919) (y:=.int k) rfl rfl (rL ⟨by omega,by omega⟩)) rfl rfl
 rw[aL (env':=[.fz (dH ns),.fz (.int k),.fz (.int (7919 * k + 13)),.no,.no,.no]) (β':=0) ?h0]
 case h0=>
  show toS (f2 (f2 (cst (.int 7919)) (gv 1) dD) (cst (.int 13)) bZ [Nv.da (dH ns),.da (.int k),.no,.no,.no,.no] 0) _=_
  rw[e0];rfl
 obtain⟨c,hc⟩:∃c:Int,gZ ([] ++ []) (cz (f2 (gv 1) (f1 (gv 0) bX) tE)) (bO 2 ([] ++ []) (f2 (gv 0) (gv 1) aV)) jh [.fz (dH ns),.fz (.int k),.fz (.int (7919 * k + 13)),.no,.no,.no] 0=.nx [.fz (dH ns),.fz (.int k),.fz (.int c),.no,.no,.no] 0:=by
  have e:cz (f2 (gv 1) (f1 (gv 0) bX) tE) (vl [.fz (dH ns),.fz (.int k),.fz (.int (7919 * k + 13)),.no,.no,.no]) 0=.ok (decide ((k:Int) < (ns.map int).length)) 0:=Iq rfl rfl
  by_cases h:k < ns.length
  ·rw[Ni (by simp;exact h)] at e
   refine⟨ns[k],?_⟩
   rw[jB e]
   show toS (f2 (gv 0) (gv 1) aV [Nv.da (dH ns),.da (.int k),.da (.int (7919 * k + 13)),.no,.no,.no] 0) _=_
   rw[az (x:=dH ns) (y:=.int k) (d:=.int ns[k]) (β1:=0) (β2:=0) rfl rfl]
   ·rfl
   ·show lG (ns.map int) (k:Int)=_
    rw[mC,oX h];rfl
  ·rw[Nx (by simp;omega)] at e
   exact⟨_,by rw[iK e];rfl⟩
 rw[aL hc]
 have e1:cz (f2 (f2 (gv 2) (cst (.int 2)) lF) (cst (.int 0)) (cJ false)) (vl [.fz (dH ns),.fz (.int k),.fz (.int c),.no,.no,.no]) 0=.ok (decide (c % 2=0)) 0:=cG (neg:=false) (az rfl rfl (oo (by omega))) rfl
 by_cases h:c % 2=0
 ·rw[Ni h] at e1
  refine⟨c / 2,?_⟩
  rw[gp (d:=.list [.int (c / 2)]) (b:=true) (β':=0)]
  ·rfl
  ·rw[jB e1]
   show toS (cC (aa (f2 (gv 2) (cst (.int 2)) Hl) ag) [Nv.da (dH ns),.da (.int k),.da (.int c),.no,.no,.no] 0) _=_
   rw[kO (ds:=[.int (c / 2)]) (β1:=0)]
   ·rfl
   ·have e2:f2 (gv 2) (cst (.int 2)) Hl [Nv.da (dH ns),.da (.int k),.da (.int c),.no,.no,.no] 0=.ok (.int (c / 2)) 0:=az (x:=.int c) rfl rfl (FT (by omega) (by omega))
    rw[dh,e2];rfl
   ·simp
 ·rw[Nx h] at e1
  rw[aL (env':=[.fz (dH ns),.fz (.int k),.fz (.int c),.no,.no,.no]) (β':=0) (by rw[iK e1];rfl)]
  rw[aL (env':=[.fz (dH ns),.fz (.int k),.fz (.int c),.fz (.int 0),.no,.no]) (β':=0) (by rfl)]
  obtain⟨env',β',el,z,x,y,rfl,rfl⟩:=jF (t:=.nm 4) (m:=aJ (bO 5 ((((([] ++ []) ++ []) ++ ([] ++ [])) ++ []) ++ []) (f2 (f2 (f2 (f2 (f2 (gv 2) (cst (.int 2147483647)) lF) (cst (.int 48271)) dD) (f2 (cst (.int 7919)) (gv 4) dD) bZ) (cst (.int 1)) bZ) (cst (.int 2147483647)) lF))
    (aJ (bO 5 (([] ++ []) ++ []) (f2 (f2 (gv 5) (gv 5) dD) (cst (.int 2147483629)) lF))
    (bO 3 (([] ++ []) ++ (([] ++ ([] ++ [])) ++ [])) (f2 (f2 (gv 3) (cst (.int 2147483647)) dD) (f2 (f2 (gv 5) (f2 (gv 5) (cst (.int 13)) bZ) dD) (cst (.int 2147483647)) lF) bZ)))) (ds:=dg 0 16) (k:=0)
   (λ_ env β=>∃(z:Int) (x y:Sl),env= [.fz (dH ns),.fz (.int k),.fz (.int c),.fz (.int z),x,y]/\β=0) (env:=[.fz (dH ns),.fz (.int k),.fz (.int c),.fz (.int 0),.no,.no]) (β:=0) ⟨0,.no,.no,rfl,rfl⟩ (by
    rintro i d env β hi ⟨z,x,y,rfl,rfl⟩
    obtain⟨_,rfl⟩:=ip hi
    generalize (0 + (i:Int))=j
    refine⟨[.fz (dH ns),.fz (.int k),.fz (.int c),.fz (.int z),.fz (.int j),y],rfl,?_⟩
    have b1:0<=c % 2147483647/\c % 2147483647 < 2147483647:=⟨OY _ (by omega),OZ _ (by omega)⟩
    have a1:f2 (f2 (f2 (f2 (f2 (gv 2) (cst (.int 2147483647)) lF) (cst (.int 48271)) dD) (f2 (cst (.int 7919)) (gv 4) dD) bZ) (cst (.int 1)) bZ) (cst (.int 2147483647)) lF (vl [.fz (dH ns),.fz (.int k),.fz (.int c),.fz (.int z),.fz (.int j),y]) 0=.ok (.int ((c % 2147483647 * 48271 + 7919 * j + 1) % 2147483647)) 0:=
     az (az (az (az (az (x:=.int c) rfl rfl (oo (by omega))) rfl (BL ⟨by omega,by omega⟩)) (az (x:=.int 7919) (y:=.int j) rfl rfl (rL ⟨by omega,by omega⟩)) rfl) rfl rfl) rfl (oo (by omega))
    generalize hp:(c % 2147483647 * 48271 + 7919 * j + 1) % 2147483647=p at a1
    have bp:0<=p/\p < 2147483647:=by rw[<-hp];exact⟨OY _ (by omega),OZ _ (by omega)⟩
    rw[aL (env':=[.fz (dH ns),.fz (.int k),.fz (.int c),.fz (.int z),.fz (.int j),.fz (.int p)]) (β':=0) ?k1]
    case k1=>rw[cR,a1];rfl
    have a2:f2 (f2 (gv 5) (gv 5) dD) (cst (.int 2147483629)) lF (vl [.fz (dH ns),.fz (.int k),.fz (.int c),.fz (.int z),.fz (.int j),.fz (.int p)]) 0=.ok (.int (p * p % 2147483629)) 0:=
     az (az (x:=.int p) (y:=.int p) rfl rfl (rL ⟨by omega,by omega⟩)) rfl (oo (by omega))
    generalize hq:p * p % 2147483629=q at a2
    have bq:0<=q/\q < 2147483629:=by rw[<-hq];exact⟨OY _ (by omega),OZ _ (by omega)⟩
    rw[aL (env':=[.fz (dH ns),.fz (.int k),.fz (.int c),.fz (.int z),.fz (.int j),.fz (.int q)]) (β':=0) ?k2]
    case k2=>rw[cR,a2];rfl
    have a3:f2 (f2 (gv 3) (cst (.int 2147483647)) dD) (f2 (f2 (gv 5) (f2 (gv 5) (cst (.int 13)) bZ) dD) (cst (.int 2147483647)) lF) bZ (vl [.fz (dH ns),.fz (.int k),.fz (.int c),.fz (.int z),.fz (.int j),.fz (.int q)]) 0=.ok (.int (z * 2147483647 + q * (q + 13) % 2147483647)) 0:=
     az (az (x:=.int z) rfl rfl (BL ⟨by omega,by omega⟩)) (az (az (x:=.int q) (y:=.int (q + 13)) rfl rfl (rL ⟨by omega,by omega⟩)) rfl (oo (by omega))) rfl
    refine⟨[.fz (dH ns),.fz (.int k),.fz (.int c),.fz (.int (z * 2147483647 + q * (q + 13) % 2147483647)),.fz (.int j),.fz (.int q)],0,?_,_,_,_,rfl,rfl⟩
    rw[cR,a3];rfl)
  refine⟨z,?_⟩
  rw[aL (env':=[.fz (dH ns),.fz (.int k),.fz (.int c),.fz (.int z),x,y]) (β':=0) ?h2]
  case h2=>exact el
  show fin (toS (cC (aa (gv 3) ag) [.da (dH ns),.da (.int k),.da (.int c),.da (.int z),x.val,y.val] 0) _)=_
  rw[kO (ds:=[.int z]) (β1:=0) rfl (by simp)]
  rfl
noncomputable def sV:List D->Int->FB:=vQ 4 1 (fE eV)
def Gw (ns:List Int)(hz:ns.length<=100)(β:Int):∃(ms:List Int) (β':Int),sV [.list (ns.map int)] β=.ok (tupI ms) false β'/\ms.Perm ns:=by
 show ∃(ms:List Int) (β':Int),Eo (fE eV [.bx,.fz (.list (ns.map int)),.no,.no] β)=.ok (tupI ms) false β'/\ms.Perm ns
 unfold fE
 rw[aL (env':=[.bx,.fz (.list (ns.map int)),.ow (.list (ns.map int)),.no]) (β':=β) (by rfl)]
 have ez:cC ag [Nv.bx,.da (.list (ns.map int)),.da (.list (ns.map int)),.no] β=.ok (.list []) β:=kO rfl (by simp)
 rw[aL (env':=[.bx,.fz (.list (ns.map int)),.ow (.list (ns.map int)),.ow (.list [])]) (β':=β) ?h]
 case h=>
  show toS (cC ag [Nv.bx,.da (.list (ns.map int)),.da (.list (ns.map int)),.no] β) _=_
  rw[ez];rfl
 obtain⟨env',β',ew,ms,rfl,hp⟩:=jt (L:=[] ++ []) (t:=cz (f2 (gv 2) (cC ag) (cJ true))) (m:=kX 3 2 ([] ++ []) (ox 0 eV (aa (f1 (gv 2) bX) ag)))
  (λk env β=>∃ls ms:List Int,env= [.bx,.fz (.list (ns.map int)),.ow (.list (ls.map int)),.ow (.list (ms.map int))]/\(ms ++ ls).Perm ns/\k=ls.length)
  (λenv β=>∃ms:List Int,env= [.bx,.fz (.list (ns.map int)),.ow (.list []),.ow (.list (ms.map int))]/\ms.Perm ns) (n:=1000) (k:=ns.length) (env:=[.bx,.fz (.list (ns.map int)),.ow (.list (ns.map int)),.ow (.list [])]) (β:=β) (by omega) ⟨ns,[],rfl,by simp,rfl⟩ (by
   rintro k env β ⟨ls,ms,rfl,hp,rfl⟩
   have e1:cC ag [Nv.bx,.da (.list (ns.map int)),.da (.list (ls.map int)),.da (.list (ms.map int))] β=.ok (.list (([]:List Int).map int)) β:=kO rfl (by simp)
   have et:cz (f2 (gv 2) (cC ag) (cJ true)) [Nv.bx,.da (.list (ns.map int)),.da (.list (ls.map int)),.da (.list (ms.map int))] β=.ok (!decide (ls= [])) β:=
    cO _ _ _ _ (az (x:=.list (ls.map int)) rfl e1 (by rw[CY];rfl))
   refine⟨_,_,et,?_⟩
   have hlen:=hp.length_eq
   rw[NF] at hlen
   cases ls with
   |nil=>exact .inl ⟨rfl,ms,rfl,by simpa using hp⟩
   |cons y ys=>
    refine .inr ⟨rfl,?_⟩
    have hm:(0:Int) < ((y :: ys).length:Nat)/\(((y :: ys).length:Nat):Int) < 1073741824:=by
     have:(y :: ys).length<=100:=by omega
     constructor
     ·simp
     ·omega
    obtain⟨j,hj⟩:∃j:Nat,β % (((y :: ys).length:Nat):Int)=j:=⟨(β % (((y :: ys).length:Nat):Int)).toNat,by have:=OY β (b:=(((y :: ys).length:Nat):Int)) (by omega);omega⟩
    have hj2:j < (y :: ys).length:=by have:=OZ β hm.1;omega
    have ef:ox 0 eV (aa (f1 (gv 2) bX) ag) [Nv.bx,.da (.list (ns.map int)),.da (.list ((y :: ys).map int)),.da (.list (ms.map int))] β=.ok (.int (j:Int)) (β / (((y :: ys).length:Nat):Int)):=by
     refine l7 (ds:=[.int (((y :: ys).length:Nat):Int)]) (b:=false) (by rfl) ?_ (by rw[tX hm.1 hm.2,hj])
     show R.ok [int ((((y :: ys).map int).length:Nat):Int)] β=_
     rw[Nb]
    have hpop:Ac ((y :: ys).map int) (.int (j:Int))=some (.int (y :: ys)[j],((y :: ys).eraseIdx j).map int):=by
     unfold Ac
     dsimp only
     rw[Nc ⟨by omega,by omega⟩]
     have es:seqIndex? (j:Int) ((y :: ys).map int).length=some j:=by
      rw[Nb]
      exact PySem.StrLaws.seqIndex_nonneg (by omega) (by omega)
     rw[es]
     dsimp only
     rw[Nm,M9 hj2,tf];rfl
    refine⟨[.bx,.fz (.list (ns.map int)),.ow (.list (((y :: ys).eraseIdx j).map int)),.ow (.list ((ms ++ [(y :: ys)[j]]).map int))],β / (((y :: ys).length:Nat):Int),((y :: ys).eraseIdx j).length,?_,?_,(y :: ys).eraseIdx j,ms ++ [(y :: ys)[j]],rfl,?_,rfl⟩
    ·show kX 3 2 ([] ++ []) (ox 0 eV (aa (f1 (gv 2) bX) ag)) [.bx,.fz (.list (ns.map int)),.ow (.list ((y :: ys).map int)),.ow (.list (ms.map int))] β=_
     rw[ye (ds:=ms.map int) (es:=(y :: ys).map int) (by rfl) (by rfl) (by decide) ef (by rfl) hpop (by rw[Nb];omega),NT]
     rfl
    ·rw[List.length_eraseIdx]
     rw[Nc hj2]
     show (y :: ys).length - 1 < (y :: ys).length
     simp
    ·rw[OG]
     exact (List.Perm.append_left ms (qM (M9 hj2))).trans hp)
 refine⟨ms,β',?_,hp⟩
 rw[aL ew]
 rfl
def o5 (rows:List (List Int))(p:Pr):Bool:= !decide (p.1=p.2) && rows.all λr=>decide (r.idxOf p.1 < r.idxOf p.2)
def uC {α:Type}{fa:VF D}{vs:List Nv}{β:Int}{l:List α}{f:α->Bool}(h:fa vs β=.ok (.list (l.map λq=>PyData.bool (f q))) β):f1 fa (bo λbs=>bs.all id) vs β=.ok (.bool (l.all f)) β:=by
 refine fo h ?_
 simp only[bo]
 rw[eQ]
 simp[Pj]
def ql:List D->FR:=aS 5 2 jX
def Ec {n:Nat}{rows:List (List Int)}(h8:n<=8)(hr:rows.length<=100)(hp:∀r,r∈rows->r.Perm (iu n)):ql [.int n,.list (rows.map tupI)]=.ok (.tuple (((OM.dq n).filter (o5 rows)).map ao)) false:=by
 show fin (jX [.fz (.int n),.fz (.list (rows.map tupI)),.no,.no,.no] 0)=_
 unfold jX
 rw[aL (env':=[.fz (.int n),.fz (.list (rows.map tupI)),.ow (.list []),.no,.no]) (β':=0) ?g1]
 case g1=>rw[lQ,kO (ds:=[]) rfl (by simp)];rfl
 obtain⟨env',β',ef,s,t,rfl,rfl⟩:=jF (t:=.nm 3) (m:=gE (.nm 4) [] (cD (gv 0))
   (gZ (([] ++ []) ++ ([] ++ [])) (xj (cz (f2 (gv 3) (gv 4) (cJ true))) (fP (f1 (aM 1 [3,4] (.nm 0) (bL (gv 1)) jm (f2 (oK (gv 0) (gv 1)) (oK (gv 0) (gv 2)) tE)) (bo λbs=>bs.all id))))
   (nJ 2 ([3] ++ ([4] ++ [])) (bY (aa (gv 3) (aa (gv 4) ag))))
   jh)) (ds:=dg 0 n) (k:=0)
  (λi env β=>∃s t:Sl,env= [.fz (.int n),.fz (.list (rows.map tupI)),.ow (.list ((upTo n (o5 rows) i 0).map ao)),s,t]/\β=0)
  (env:=[.fz (.int n),.fz (.list (rows.map tupI)),.ow (.list []),.no,.no]) (β:=0) ⟨.no,.no,by rw[Ax];rfl,rfl⟩ (by
   rintro i d env β hi ⟨s,t,rfl,rfl⟩
   obtain⟨hin,rfl⟩:=ip hi
   refine⟨[.fz (.int n),.fz (.list (rows.map tupI)),.ow (.list ((upTo n (o5 rows) (0 + i) 0).map ao)),.fz (.int (0 + (i:Int))),t],rfl,?_⟩
   rw[Ou,Og]
   obtain⟨env',β',ef,t2,rfl,rfl⟩:=jF (t:=.nm 4) (m:=gZ (([] ++ []) ++ ([] ++ [])) (xj (cz (f2 (gv 3) (gv 4) (cJ true))) (fP (f1 (aM 1 [3,4] (.nm 0) (bL (gv 1)) jm (f2 (oK (gv 0) (gv 1)) (oK (gv 0) (gv 2)) tE)) (bo λbs=>bs.all id))))
     (nJ 2 ([3] ++ ([4] ++ [])) (bY (aa (gv 3) (aa (gv 4) ag))))
     jh) (ds:=dg 0 n) (k:=0)
    (λk env β=>∃t:Sl,env= [.fz (.int n),.fz (.list (rows.map tupI)),.ow (.list ((upTo n (o5 rows) i k).map ao)),.fz (.int i),t]/\β=0)
    (env:=[.fz (.int n),.fz (.list (rows.map tupI)),.ow (.list ((upTo n (o5 rows) i 0).map ao)),.fz (.int i),t]) (β:=0) ⟨t,rfl,rfl⟩ (by
     rintro k d env β hk ⟨t,rfl,rfl⟩
     obtain⟨hkn,rfl⟩:=ip hk
     refine⟨[.fz (.int n),.fz (.list (rows.map tupI)),.ow (.list ((upTo n (o5 rows) i (0 + k)).map ao)),.fz (.int i),.fz (.int (0 + (k:Int)))],rfl,?_⟩
     rw[Ou,Og]
     have ec:aM 1 [3,4] (.nm 0) (bL (gv 1)) jm (f2 (oK (gv 0) (gv 1)) (oK (gv 0) (gv 2)) tE) (vl [.fz (.int n),.fz (.list (rows.map tupI)),.ow (.list ((upTo n (o5 rows) i k).map ao)),.fz (.int i),.fz (.int k)]) 0=.ok (.list (rows.map λr=>PyData.bool (decide (r.idxOf (i:Int) < r.idxOf (k:Int))))) 0:=by
      refine cm (l:=rows) (e:=tupI) (λr=>PyData.bool (decide (r.idxOf (i:Int) < r.idxOf (k:Int)))) rfl (by omega) λr hr=>⟨_,rfl,?_⟩
      have hp:=hp r hr
      refine az (zb (r:=r) (k:=i) rfl rfl (hp.mem_iff.mpr (dS.mpr ⟨by omega,by omega⟩))) (zb (r:=r) (k:=k) rfl rfl (hp.mem_iff.mpr (dS.mpr ⟨by omega,by omega⟩))) ?_
      show some (PyData.bool (decide (((r.idxOf (i:Int):Nat):Int) < ((r.idxOf (k:Int):Nat):Int))))=_
      congr 2
      rw[NS,NC,NC]
      omega
     have et:xj (cz (f2 (gv 3) (gv 4) (cJ true))) (fP (f1 (aM 1 [3,4] (.nm 0) (bL (gv 1)) jm (f2 (oK (gv 0) (gv 1)) (oK (gv 0) (gv 2)) tE)) (bo λbs=>bs.all id))) (vl [.fz (.int n),.fz (.list (rows.map tupI)),.ow (.list ((upTo n (o5 rows) i k).map ao)),.fz (.int i),.fz (.int k)]) 0=.ok (o5 rows ((i:Int),(k:Int))) 0:=
      BD (cG (neg:=true) (i:=i) (j:=k) rfl rfl) (cM (uC ec))
     have hl:=Dh (o5 rows) i k h8
     by_cases c:o5 rows ((i:Int),(k:Int))=true
     ·rw[c] at et
      refine⟨[.fz (.int n),.fz (.list (rows.map tupI)),.ow (.list ((upTo n (o5 rows) i (k + 1)).map ao)),.fz (.int i),.fz (.int k)],0,?_,_,rfl,rfl⟩
      rw[jB et,sZ (o5 rows) hin hkn,Nc c,NT]
      exact pW (i:=2) (L:=[3] ++ ([4] ++ [])) (env:=[.fz (.int n),.fz (.list (rows.map tupI)),.ow (.list ((upTo n (o5 rows) i k).map ao)),.fz (.int i),.fz (.int k)]) (ds:=(upTo n (o5 rows) i k).map ao) (by rfl) (fw rfl rfl) (by rfl) (by rw[Nb];omega)
     ·rw[Bool.not_eq_true] at c
      rw[c] at et
      refine⟨[.fz (.int n),.fz (.list (rows.map tupI)),.ow (.list ((upTo n (o5 rows) i (k + 1)).map ao)),.fz (.int i),.fz (.int k)],0,?_,_,rfl,rfl⟩
      rw[iK et,sZ (o5 rows) hin hkn,c]
      simp)
   rw[eM,Ou,Ci] at ef
   refine⟨[.fz (.int n),.fz (.list (rows.map tupI)),.ow (.list ((upTo n (o5 rows) (i + 1) 0).map ao)),.fz (.int i),t2],0,?_,_,_,rfl,rfl⟩
   rw[ig (env:=[.fz (.int n),.fz (.list (rows.map tupI)),.ow (.list ((upTo n (o5 rows) i 0).map ao)),.fz (.int i),t]) (cU (n:=n) (β1:=0) rfl (by omega))]
   exact ef)
 rw[eM,Ou,BB] at ef
 rw[aL (env':=[.fz (.int n),.fz (.list (rows.map tupI)),.ow (.list (((OM.dq n).filter (o5 rows)).map ao)),s,t]) (β':=0) ?g2]
 case g2=>
  rw[ig (env:=[.fz (.int n),.fz (.list (rows.map tupI)),.ow (.list []),.no,.no]) (cU (n:=n) (β1:=0) rfl (by omega))]
  exact ef
 rfl
def p8 {rows:List (List Int)}{p:Pr}:o5 rows p=true↔p.1≠p.2/\∀r,r∈rows->r.idxOf p.1 < r.idxOf p.2:=by
 unfold o5
 rw[Ny,Bool.not_eq_true',decide_eq_false_iff_not,NQ]
 simp only[NC]
def A4 {n:Nat}{rows:List (List Int)}(h1:1<=n)(h8:n<=8)(hne:rows≠ []):OM.Ord n ((OM.dq n).filter (o5 rows)):=by
 refine⟨h1,h8,λp hm=>OM.bV.mp (Nq.mp hm).1,OM.jy _ (OM.ko n),λa h=>?_,λa b c hab hbc=>?_⟩
 ·exact (p8.mp (Nq.mp h).2).1 rfl
 ·obtain⟨g1,t1⟩:=Nq.mp hab
  obtain⟨g2,t2⟩:=Nq.mp hbc
  have g1:=OM.bV.mp g1
  have g2:=OM.bV.mp g2
  obtain⟨n1,q1⟩:=p8.mp t1
  obtain⟨n2,q2⟩:=p8.mp t2
  refine Nq.mpr ⟨OM.bV.mpr ⟨g1.1,g2.2⟩,p8.mpr ⟨λe=>?_,λr hr=>Pg (q1 r hr) (q2 r hr)⟩⟩
  simp only at e q1 q2
  subst e
  cases rows with
  |nil=>exact hne rfl
  |cons r rest=>
   have hr:r∈r :: rest:=Np ..
   exact absurd (Pg (q1 r hr) (q2 r hr)) (NL _)
theorem qj {α:Type}{t:Tg}{fe:VF D}{vs:List Nv}(e:α->D)(P:α->Prop):∀{ds:List D} {β:Int},(∀d,d∈ds->∃vs1,nR t d vs=some vs1/\∀β,∃a β',fe vs1 β=.ok (e a) β'/\P a)->
  ∃(as:List α) (β':Int),hX t jm fe vs ds β=.ok (as.map e) β'/\as.length=ds.length/\∀a,a∈as->P a
 | [],β,_=>⟨[],β,rfl,rfl,λa h=>(by cases h)⟩
 |d :: ds,β,h=>by
  obtain⟨vs1,hb,hf⟩:=h d (Np ..)
  obtain⟨a,β1,ef,pa⟩:=hf β
  obtain⟨as,β2,ec,hl,hP⟩:=qj e P (ds:=ds) (β:=β1) λd' hd=>h d' (Nn _ hd)
  refine⟨a :: as,β2,?_,by rw[N1,N1,hl],λx hx=>?_⟩
  ·unfold hX
   rw[hb]
   dsimp only[jm,R.okb]
   rw[Nc rfl,ef]
   dsimp only
   rw[ec];rfl
  ·rcases Nh.mp hx with z |z
   ·rw[z];exact pa
   ·exact hP x z
def De:D->Bool
 | .tuple _=>true
 |_=>false
theorem zI {d:D}(h:De d=true):∃ds,d=.tuple ds:=by
 cases d with
 |tuple ds=>exact⟨ds,rfl⟩
 |_=>cases h
def CQ {d:D}(h:fu d=false):gj "tuple" d=some (.bool (De d)):=by
 unfold gj;rw[h];cases d <;> rfl
section
variable {fa fb:VF D}{vs:List Nv}{β:Int}
def qE {d:D}(ha:fa vs β=.ok d β)(h:fu d=false):fP (f1 fa (gj "tuple")) vs β=.ok (De d) β:=cM (fo ha (CQ h))
def uF {l:List D}{f:D->Bool}(h:fa vs β=.ok (.list (l.map λq=>PyData.bool (f q))) β):f1 fa (bo λbs=>bs.all id) vs β=.ok (.bool (l.all f)) β:=by
 refine fo h ?_
 simp only[bo]
 rw[eQ]
 simp[Pj]
def yW {ds:List D}(ha:fa vs β=.ok (.tuple ds) β):f1 fa bX vs β=.ok (.int ds.length) β:=fo ha rfl
def CK {ds:List D}{k:Int}(ha:fa vs β=.ok (.tuple ds) β):cz (f2 (f1 fa bX) (cst (.int k)) (cJ true)) vs β=.ok (!decide ((ds.length:Int)=k)) β:=cG (neg:=true) (yW ha) rfl
def zd {t u:VF Bool}(h:t vs β=.ok true β):ie t u vs β=.ok true β:=by rw[pQ,h];rfl
def dO {t u:VF Bool}{c:Bool}(h:t vs β=.ok false β)(h':u vs β=.ok c β):ie t u vs β=.ok c β:=by rw[pQ,h];exact h'
def FL (h:fa vs β=.ok (.bool false) β):eh fa fb vs β=.ok (.bool false) β:=by unfold eh;rw[h];rfl
def zj {d:D}(h:fa vs β=.ok (.bool true) β)(h':fb vs β=.ok d β):eh fa fb vs β=.ok d β:=by unfold eh;rw[h];exact h'
def LZ (h:fa vs β=.ok (.bool true) β):GA fa fb vs β=.ok (.bool true) β:=by unfold GA;rw[h];rfl
def Mr {d:D}(h:fa vs β=.ok (.bool false) β)(h':fb vs β=.ok d β):GA fa fb vs β=.ok d β:=by unfold GA;rw[h];exact h'
end
def MK (d:D):Prop:=d=.none\/(∃b,d=.bool b)\/∃i:Int,d=.int i/\ -1<=i/\i<=9
def MK.scr {d:D}(h:MK d):fu d=false:=by
 rcases h with rfl | ⟨b,rfl⟩ | ⟨i,rfl,h⟩ <;> rfl
section
variable {vs:List Nv}{β β1 β2:Int}{fa:VF D}{fr:VF (List D)}{d:D}{ds:List D}
def ac {fa:VF D}{fr:VF (List D)}(h:fa vs β=.ok d β)(h':fr vs β=.ok ds β):aa fa fr vs β=.ok (d :: ds) β:=by rw[dh,h];dsimp only[R.bnd];rw[h']
def an:ag vs β=.ok [] β:=rfl
def tp (h:fr vs β=.ok ds β)(hz:ds.length<=1000:=by simp):bY fr vs β=.ok (.tuple ds) β:=j0 h hz
def lp (h:fr vs β=.ok ds β)(hz:ds.length<=1000:=by simp):cC fr vs β=.ok (.list ds) β:=kO h hz
def ck (d:D):cst d vs β=.ok d β:=rfl
end
def uN {P:D->Prop}{x y:D}(hx:P x)(hy:P y):∀d,d∈ [x,y]->P d:=λd hd=>by
 rcases Nh.mp hd with rfl |hd
 ·exact hx
 ·rw[NG] at hd;subst hd;exact hy
def CT {d:D}(h:fu d=false):gj "list" d=some (.bool (match d with | .list _=>true |_=>false)):=by
 unfold gj;rw[h];cases d <;> rfl
def IK:D->Bool
 | .list _=>true
 |_=>false
theorem EJ {d:D}(h:IK d=true):∃ds,d=.list ds:=by
 cases d with
 |list ds=>exact⟨ds,rfl⟩
 |_=>cases h
def Gj {fa:VF D}{vs:List Nv}{β:Int}{d:D}(ha:fa vs β=.ok d β)(h:fu d=false):f1 fa (gj "list") vs β=.ok (.bool (IK d)) β:=fo ha (by rw[CT h];cases d <;> rfl)
def iw {fa:VF D}{vs:List Nv}{β:Int}{ds:List D}(ha:fa vs β=.ok (.list ds) β):f1 fa bX vs β=.ok (.int ds.length) β:=fo ha rfl
def Ge (e:D):Prop:=fu e=false/\∀es,e=.tuple es->es.length<=100/\∀x,x∈es->fu x=false
def Ga (n:Int):D->Bool
 | .tuple [x,y]=>l4 x n && l4 y n
 |_=>false
def JB {n:Int}{d:D}(h:Ga n d=true):∃p:Pr,d=ao p/\(0<=p.1/\p.1 < n)/\(0<=p.2/\p.2 < n):=by
 unfold Ga at h
 split at h
 ·rename_i x y
  rw[Ny] at h
  cases x with
  |int a=>
   cases y with
   |int b=>exact⟨(a,b),rfl,OH h.1,OH h.2⟩
   |_=>cases h.2
  |_=>cases h.1
 ·cases h
def K0:List D->FR:=aS 2 2 (kE dN)
theorem qC {es:List D}:(decide ((es.length:Int)=2)=false/\∀n,Ga n (.tuple es)=false)\/∃x y,es= [x,y]:=by
 match es with
 | []=>exact .inl ⟨rfl,λ_=>rfl⟩
 | [_]=>exact .inl ⟨rfl,λ_=>rfl⟩
 | [x,y]=>exact .inr ⟨x,y,rfl⟩
 |_ :: _ :: _ :: _=>exact .inl ⟨Nx (by simp;omega),λ_=>rfl⟩
theorem Mf {d:D}{n:Int}(h:Ge d):K0 [d,.int n]=.ok (.bool (Ga n d)) false:=by
 show fin (kE dN [.fz d,.fz (.int n)] 0)=_
 unfold kE
 have g0:gv 0 (vl [.fz d,.fz (.int n)]) 0=.ok d 0:=rfl
 have t1:=qE g0 h.1
 cases hy:De d with
 |false=>
  rw[hy] at t1
  rw[gp (d:=.bool false) (b:=false) (β':=0) ?a]
  ·cases d <;> first |rfl |cases hy
  case a=>rw[jB (zd (bz t1))];rfl
 |true=>
  obtain⟨es,rfl⟩:=zI hy
  rw[hy] at t1
  have t2:=CK (k:=2) g0
  rcases qC (es:=es) with⟨q,z⟩ | ⟨x,y,rfl⟩
  ·rw[q] at t2
   rw[z n,gp (d:=.bool false) (b:=false) (β':=0) (by rw[jB (dO (bz t1) t2)];rfl)];rfl
  ·rw[aL (env':=[.fz (.tuple [x,y]),.fz (.int n)]) (β':=0) (by rw[iK (dO (bz t1) t2)];rfl)]
   have hx:=(h.2 _ rfl).2 x (Np ..)
   have hy':=(h.2 _ rfl).2 y (Nn _ (Np ..))
   have e1:aw dN (aa (f2 (gv 0) (cst (.int 0)) aV) (aa (gv 1) ag)) (vl [.fz (.tuple [x,y]),.fz (.int n)]) 0=.ok (.bool (l4 x n)) 0:=au (ds:=[x,.int n]) rfl (p6 hx)
   have e2:aw dN (aa (f2 (gv 0) (cst (.int 1)) aV) (aa (gv 1) ag)) (vl [.fz (.tuple [x,y]),.fz (.int n)]) 0=.ok (.bool (l4 y n)) 0:=au (ds:=[y,.int n]) rfl (p6 hy')
   rw[c9,pP e1 e2];rfl
def Iu:List D->FR:=aS 1 1 n5
def Jt {d:D}(h:fu d=false):Iu [d]=.ok (.bool (pO d)) false:=by
 have:=zw [d] (by rw[l8 h];exact λz=>by cases z)
 rw[l8 h] at this
 exact this
def Sp (p:Pr):Prop:=(0<=p.1/\p.1<=8)/\(0<=p.2/\p.2<=8)
def yo {es:List D}(hl:es.length<=100)(h:∀x,x∈es->fu x=false):Ge (.tuple es):=⟨rfl,λes' e=>by cases e;exact⟨hl,h⟩⟩
def uo {fa fb:VF D}{vs:List Nv}{β:Int}{ds:List D}{i:Nat}(ha:fa vs β=.ok (.list ds) β)(hb:fb vs β=.ok (.int ((i:Nat):Int)) β):vI fa (wV fb) (λ_ β=>.ok none β) vs β=.ok (.list (ds.drop i)) β:=by
 unfold vI wV
 rw[ha];dsimp only[R.bnd]
 rw[hb];dsimp only[R.bnd]
 congr 2
 unfold cutD
 rw[HT.vV,HT.zC]
 by_cases h:i<=ds.length
 ·rw[Nat.min_eq_left h];exact List.take_of_length_le (by rw[OT];omega)
 ·rw[Nat.min_eq_right (by omega),drop_length,List.drop_of_length_le (by omega)];simp
def qv {fa fb:VF D}{vs:List Nv}{β:Int}{ds:List D}{i:Nat}(ha:fa vs β=.ok (.list ds) β)(hb:fb vs β=.ok (.int ((i:Nat):Int)) β):vI fa (λ_ β=>.ok none β) (wV fb) vs β=.ok (.list (ds.take i)) β:=by
 unfold vI wV
 rw[ha];dsimp only[R.bnd]
 rw[hb];dsimp only[R.bnd]
 congr 2
 unfold cutD
 rw[HT.vV,HT.zC]
 by_cases h:i<=ds.length
 ·rw[Nat.min_eq_left h];rfl
 ·rw[Nat.min_eq_right (by omega),List.take_of_length_le (show ds.length<=i by omega)];simp
end RM
namespace RM
open PySem PySem.Spec L2 PyProof.Rows
theorem oZ:∀{l m:List Int},l.Nodup->(∀x,x∈l->x∈m)->m.length<=l.length->l.Perm m
 | [],m,_,_,h=>by
  have:m= []:=List.length_eq_zero_iff.mp (by simpa using h)
  rw[this]
 |x :: l,m,nd,hs,h=>by
  obtain⟨h1,h2⟩:=N2.mp nd
  have hx:x∈m:=hs x (Np ..)
  have pm:m.Perm (x :: m.erase x):=List.perm_cons_erase hx
  refine (List.Perm.cons x (oZ (m:=m.erase x) h2 (λy hy=>?_) ?_)).trans pm.symm
  ·have hy':=pm.mem_iff.mp (hs y (Nn _ hy))
   rcases Nh.mp hy' with rfl |q
   ·exact absurd hy h1
   ·exact q
  ·have:=pm.length_eq
   rw[N1] at this h
   omega
def Dy {n:Nat}{r:List Int}(hl:r.length=n)(hb:∀x,x∈r->0<=x/\x < n)(nd:r.Nodup):r.Perm (iu n):=oZ nd (λx hx=>dS.mpr (hb x hx)) (by rw[kJ];omega)
theorem mf:∀r:List Int,mO (r.map int)=some r
 | []=>rfl
 |x :: r=>by
  have:=mf r
  simp only[OB,mO,this]
  try rfl
end RM
namespace RM
open PySem L2
def C4 (l:List Pr)(r:List Int):Bool:=l.all λp=>decide (r.idxOf p.1 < r.idxOf p.2)
def Row (n:Nat)(l:List Pr)(r:List Int):Prop:=r.Perm (iu n)/\C4 l r=true
def Gt (d:D):Prop:=fu d=false/\∀ds,d=.list ds->ds.length<=100/\∀e,e∈ds->Ge e
theorem any_ints (a:Int):∀s:List Int,((s.map int).any λe=>PyData.eqv e (.int a))=decide (a∈s)
 | []=>rfl
 |b :: s=>by
  rw[OB,OC,any_ints a s]
  show ((b == a) || _)=_
  rw[NS]
  simp only[Oj,beq_iff_eq,NC,Nh]
  exact⟨λh=>h.imp Eq.symm id,λh=>h.imp Eq.symm id⟩
def Ab (s:List Int):(s.map int).all SeqAt.shaped=true:=by
 rw[NQ]
 intro d hd
 obtain⟨p,_,rfl⟩:=NN.mp hd
 rfl
def CO {a b:List D}(h:a.length + b.length<=1000):mW (.tuple a) (.tuple b)=some (.tuple (a ++ b)):=Nc (by rw[NV];omega)
def Bf (l:List Pr)(r:List Int)(x:Int):List Int:=(l.filter λp=>decide (p.2=x) && !decide (p.1∈r)).map (·.1)
def k0 {l:List Pr}{r:List Int}{x a:Int}:a∈Bf l r x↔(a,x)∈l/\a∉r:=by
 unfold Bf
 rw[NN]
 constructor
 ·rintro⟨p,hp,rfl⟩
  have:=Nq.mp hp
  simp only[Ny,NC,Bool.not_eq_true',decide_eq_false_iff_not] at this
  obtain⟨pa,pb⟩:=p
  obtain⟨h1,h2,h3⟩:=this
  simp only at h2 h3
  subst h2
  exact⟨h1,h3⟩
 ·rintro⟨h1,h2⟩
  exact⟨(a,x),Nq.mpr ⟨h1,by simp[h2]⟩,rfl⟩
def Az {n:Nat}{l:List Pr}(O:OM.Ord n l)(r:List Int)(x:Int):(Bf l r x).Nodup:=by
 unfold Bf
 rw[Om,O0]
 refine Pf (λ{a b} ha hb h e=>h ?_) (Om.mp ((OM.oE O.ris).filter _))
 have h1:=(Nq.mp ha).2
 have h2:=(Nq.mp hb).2
 simp only[Ny,NC] at h1 h2
 exact Prod.ext e (h1.1.trans h2.1.symm)
theorem least {n:Nat}{l:List Pr}(O:OM.Ord n l)(r:List Int):∀(k:Nat) (x:Int),(0<=x/\x < n)->x∉r->(Bf l r x).length<=k->∃y:Int,(0<=y/\y < n)/\y∉r/\Bf l r y= []
 | 0,x,hx,hr,hk=>⟨x,hx,hr,List.length_eq_zero_iff.mp (by omega)⟩
 |k + 1,x,hx,hr,hk=>by
  by_cases he:Bf l r x= []
  ·exact⟨x,hx,hr,he⟩
  ·obtain⟨a,ha⟩:=List.exists_mem_of_ne_nil _ he
   obtain⟨h1,h2⟩:=k0.mp ha
   refine least O r k a (O.wn _ h1).1 h2 ?_
   have nd:(a :: Bf l r a).Nodup:=N2.mpr ⟨λq=>O.irr a (k0.mp q).1,Az O r a⟩
   have:=L2.ST.gN nd (m:=Bf l r x) λy hy=>by
    rcases Nh.mp hy with rfl |hy
    ·exact ha
    ·obtain⟨q1,q2⟩:=k0.mp hy
     exact k0.mpr ⟨O.tr _ _ _ q1 h1,q2⟩
   rw[N1] at this
   omega
structure DE (n:Nat)(l:List Pr)(r:List Int):Prop where
 nd:r.Nodup
 inn:∀x,x∈r->0<=x/\x < (n:Int)
 fit:∀p,p∈l->p.2∈r->p.1∈r/\r.idxOf p.1 < r.idxOf p.2
def DE.len {n:Nat}{l:List Pr}{r:List Int}(B:DE n l r):r.length<=n:=by
 have:=L2.ST.gN B.nd (m:=iu n) λx hx=>dS.mpr (B.inn x hx)
 rwa [kJ] at this
def DE.row {n:Nat}{l:List Pr}{r:List Int}(O:OM.Ord n l)(B:DE n l r)(h:n<=r.length):Row n l r:=by
 have pm:=Dy (Nat.le_antisymm B.len h) B.inn B.nd
 refine⟨pm,NQ.mpr λp hp=>Ni ?_⟩
 exact (B.fit p hp (pm.mem_iff.mpr (dS.mpr (O.wn p hp).2))).2
def iN (l:List Pr)(r:List Int)(x:Int):Bool:= !decide (x∈r) && decide (Bf l r x= [])
def DE.more {n:Nat}{l:List Pr}{r:List Int}{x:Int}(B:DE n l r)(hx:0<=x/\x < (n:Int))(hf:iN l r x=true):DE n l (r ++ [x]):=by
 unfold iN at hf
 rw[Ny,Bool.not_eq_true',decide_eq_false_iff_not,NC] at hf
 obtain⟨h1,h2⟩:=hf
 refine⟨?_,λy hy=>?_,λp hp hm=>?_⟩
 ·rw[List.nodup_append]
  refine⟨B.nd,N2.mpr ⟨by simp,List.nodup_nil⟩,λa ha b hb=>?_⟩
  rw[NG] at hb
  subst hb
  exact λq=>h1 (q▸ha)
 ·rcases Nz.mp hy with hy |hy
  ·exact B.inn y hy
  ·rw[NG] at hy;subst hy;exact hx
 ·rcases Nz.mp hm with hm |hm
  ·obtain⟨q1,q2⟩:=B.fit p hp hm
   refine⟨OQ _ q1,?_⟩
   rw[Pw,Pw,Nc q1,Nc hm]
   exact q2
  ·rw[NG] at hm
   have hp1:p.1∈r:=by
    by_cases z:p.1∈r
    ·exact z
    ·have:p.1∈Bf l r x:=k0.mpr ⟨by rw[<-hm];exact hp,z⟩
     rw[h2] at this;cases this
   refine⟨OQ _ hp1,?_⟩
   rw[Pw,Pw,Nc hp1,Nk (by rw[hm];exact h1)]
   have:=List.idxOf_lt_length_iff.mpr hp1
   omega
def DE.free {n:Nat}{l:List Pr}{r:List Int}(O:OM.Ord n l)(B:DE n l r)(h:r.length < n):(iu n).filter (iN l r)≠ []:=by
 have:∃x,x∈iu n/\x∉r:=by
  apply Classical.byContradiction
  intro z
  have:=L2.ST.gN (oA n) (m:=r) λx hx=>Classical.byContradiction λq=>z ⟨x,hx,q⟩
  rw[kJ] at this
  omega
 obtain⟨x,hx,hr⟩:=this
 obtain⟨y,hy,hyr,hp⟩:=least O r _ x (dS.mp hx) hr (Na _)
 intro q
 have:y∈(iu n).filter (iN l r):=Nq.mpr ⟨dS.mpr hy,by unfold iN;simp[hyr,hp]⟩
 rw[q] at this
 cases this
def eH (l:List Pr)(r:List Int)(i:Nat):List Int:=(iu i).filter (iN l r)
def Dt (i:Nat):iu (i + 1)=iu i ++ [(i:Int)]:=by unfold iu;rw[List.range_succ,NT];rfl
def tm (l:List Pr)(r:List Int)(i:Nat):eH l r (i + 1)=eH l r i ++ if iN l r (i:Int)=true then [(i:Int)] else []:=by
 unfold eH
 rw[Dt,List.filter_append]
 congr 1
 by_cases h:iN l r (i:Int)=true
 ·rw[Nc h];simp[h]
 ·rw[Nk h];simp[h]
def nX (l:List Pr)(r:List Int)(i:Nat):(eH l r i).length<=i:=by
 have:(eH l r i).length<=(iu i).length:=NZ _ _
 rwa [kJ] at this
structure WP (r:SO)(Q:SO->Prop):Prop where
 out:Q r
section
variable {m m' m1 m2:SF}{env env1:En}{β β1 β2 z:Int}{Q:SO->Prop}{f fa fb:VF D}{t:VF Bool}{d e:D}{L La Lb:List Nat}{i j:Nat}{c:Bool}
def wp_at (env1:En)(e:env=env1)(k:WP (m env1 β) Q):WP (m env β) Q:=by rw[e];exact k
def wp_seq (h:m env β=.nx env1 β1)(k:WP (m' env1 β1) Q):WP (aJ m m' env β) Q:=by rw[aL h];exact k
theorem C0 (h:WP (aJ m jh env β) Q):WP (m env β) Q:=by
 obtain⟨h⟩:=h
 unfold aJ at h
 cases e:m env β with
 |_=>rw[e] at h;exact⟨h⟩
def n9 (q:Q (.nx env β)):WP (jh env β) Q:=⟨q⟩
def dG (h:f (vl env) β=.ok d β1)(k:WP (m' ((aY L env).set i (.fz d)) β1) Q):WP (aJ (bO i L f) m' env β) Q:=wp_seq (by unfold bO;rw[h];rfl) k
def FD (h:f (vl env) β=.ok d β1)(k:WP (m' ((aY L env).set i (.ow d)) β1) Q):WP (aJ (lA i L f) m' env β) Q:=wp_seq (by unfold lA;rw[h];rfl) k
def FF (h:f (vl env) β=.ok (.list [.int z]) β1)(k:WP (m' ((rP (aY L env)).set i .bx) z) Q):WP (aJ (ze i L f) m' env β) Q:=wp_seq (by unfold ze;rw[h];rfl) k
def oi (h:f (vl env) β=.ok d β1)(k:WP (m' (aY L env) β1) Q):WP (aJ (mT L f) m' env β) Q:=wp_seq (by unfold mT;rw[h];rfl) k
def HH {ds:List D}(hi:env[i]? =some (.ow (.list ds)))(h:f (vl env) β=.ok d β1)(hL:(aY L env)[i]? =some (.ow (.list ds)))(hz:ds.length<=1000)(k:WP (m' ((aY L env).set i (.ow (.list (ds ++ [d])))) β1) Q):WP (aJ (nJ i L f) m' env β) Q:=wp_seq (pW hi h hL hz) k
def bS (h:t (vl env) β=.ok false β1)(k:WP (m' (aY L env) β1) Q):WP (aJ (gZ L t m1 jh) m' env β) Q:=wp_seq (by rw[iK h];rfl) k
def lj (h:t (vl env) β=.ok true β1)(k:WP (aJ m1 m' (aY L env) β1) Q):WP (aJ (gZ L t m1 m2) m' env β) Q:=by
 have:aJ (gZ L t m1 m2) m' env β=aJ m1 m' (aY L env) β1:=by unfold aJ;rw[jB h]
 rw[this];exact k
def KC (h:t (vl env) β=.ok true β1)(k:WP (m1 (aY L env) β1) Q):WP (gZ L t m1 m2 env β) Q:=by rw[jB h];exact k
def yp (h:t (vl env) β=.ok false β1)(k:WP (m2 (aY L env) β1) Q):WP (gZ L t m1 m2 env β) Q:=by rw[iK h];exact k
def iI (h:f (vl env) β=.ok d β1)(q:Q (.rt d false β1)):WP (a9 f env β) Q:=⟨by unfold a9;rw[h];exact q⟩
def om (h:f (vl env) β=.ok d β1)(q:Q (.rt d false β1)):WP (aJ (a9 f) m' env β) Q:=⟨by unfold aJ a9;rw[h];exact q⟩
def eZ {R:FR}(h:WP (m env β) λr=>fin r=R):fin (m env β)=R:=h.out
def uw {t:Tg}{fi:VF (List D)}{ds:List D}(I:Nat->En->Int->Prop)(hi:fi (vl env) β=.ok ds β1)(h0:I 0 (aY L env) β1)
  (hs:∀i d env β,ds[i]? =some d->I i env β->∃env1,hW t d env=some env1/\WP (m env1 β) λr=>∃env2 β2,r=.nx env2 β2/\I (i + 1) env2 β2)
  (k:∀env β,I ds.length env β->WP (m' env β) Q):WP (aJ (gE t L fi m) m' env β) Q:=by
 obtain⟨env',β',e,h⟩:=jF (t:=t) (m:=m) I (ds:=ds) (k:=0) h0 λi d env β hd h=>by
  rw[Ou] at h
  obtain⟨env1,e1,⟨env2,β2,e2,h2⟩⟩:=hs i d env β hd h
  exact⟨env1,e1,env2,β2,e2,by rw[Ou];exact h2⟩
 rw[Ou] at h
 exact wp_seq ((ig hi).trans e) (k _ _ h)
def CD {n:Nat}(I:Nat->En->Int->Prop)(Dn:En->Int->Prop)(b:Nat)(hb:b < n)(h0:I b env β)
  (hs:∀k env β,I k env β->∃c β1,t (vl env) β=.ok c β1/\((c=false/\Dn (aY L env) β1)\/(c=true/\WP (m (aY L env) β1) λr=>∃env2 β2 k',r=.nx env2 β2/\k' < k/\I k' env2 β2)))
  (k:∀env β,Dn env β->WP (m' env β) Q):WP (aJ (iz L t m n) m' env β) Q:=by
 obtain⟨env',β',e,h⟩:=jt (L:=L) (t:=t) (m:=m) I Dn (n:=n) hb h0 λk env β h=>by
  obtain⟨c,β1,e1,h⟩:=hs k env β h
  refine⟨c,β1,e1,?_⟩
  rcases h with h | ⟨h1,⟨h2⟩⟩
  ·exact .inl h
  ·exact .inr ⟨h1,h2⟩
 exact wp_seq e (k _ _ h)
end
def BG {ds:List D}{k:Nat}(h:k < ds.length):∃d,ds[k]? =some d/\d∈ds/\lG ds (k:Int)=some d:=⟨ds[k],M9 h,Ot h,gm (M9 h)⟩
def FO {fa fb:VF D}{vs:List Nv}{β β1 β2:Int}{a b:List D}(h1:fa vs β=.ok (.tuple a) β1)(h2:fb vs β1=.ok (.tuple b) β2)(hz:a.length + b.length<=1000):f2 fa fb mW vs β=.ok (.tuple (a ++ b)) β2:=az h1 h2 (CO hz)
def qw {fa fb:VF D}{vs:List Nv}{β β1 β2:Int}{a b:List D}(h1:fa vs β=.ok (.list a) β1)(h2:fb vs β1=.ok (.list b) β2)(hz:a.length + b.length<=1000):f2 fa fb ic vs β=.ok (.list (a ++ b)) β2:=az h1 h2 (p4 (by omega))
def JZ {fa:VF D}{vs:List Nv}{β:Int}{i:Nat}(h:fa vs β=.ok (.int (i:Nat)) β):f2 fa (cst (.int 1)) bZ vs β=.ok (.int ((i + 1:Nat):Int)) β:=az h rfl (by show some (int ((i:Int) + 1))=_;rw[show ((i + 1:Nat):Int)=(i:Int) + 1 by omega])
section
variable {m m' m1 m2:SF}{env env1:En}{β β1 β2 z:Int}{Q:SO->Prop}{f fa fb:VF D}{t:VF Bool}{d e:D}{L La Lb:List Nat}{i j:Nat}{c:Bool}
theorem yX (h:WP (m env β) λr=>(∀a b,r≠.nx a b)/\Q r):WP (aJ m m' env β) Q:=by
 obtain⟨h1,h2⟩:=h.out
 refine⟨?_⟩
 unfold aJ
 cases e:m env β with
 |nx a b=>exact absurd e (h1 a b)
 |_=>rw[e] at h2;exact h2
end
def MJ (ms:List Int)(m i:Nat)(ps:List Pr):Prop:=ps.Nodup/\ps.length<=4 * i/\∀p,p∈ps->∃i' j:Nat,i' < i/\j < m/\ms[i']? =some p.1/\ms[m + j]? =some p.2
def Fp {ms:List Int}{m i:Nat}{ps:List Pr}(h3:3<=m)(h4:m<=4)(hi:i<=m)(hp:ms.Perm (iu (2 * m)))(h:MJ ms m i ps):OM.Ord (2 * m) (OM.i6 8 (OM.Mem ps))/\ps.all IZ=true/\ps.length < 64:=by
 obtain⟨nd,hl,hc⟩:=h
 have ndm:ms.Nodup:=hp.nodup_iff.mpr (oA _)
 have wn:OM.Wn (2 * m) ps:=λp hm=>by
  obtain⟨i',j,_,_,e1,e2⟩:=hc p hm
  exact⟨dS.mp (hp.mem_iff.mp (Nw e1)),dS.mp (hp.mem_iff.mp (Nw e2))⟩
 rw[Jo (by omega) wn]
 refine⟨⟨by omega,by omega,OM.Eb _ _,OM.jq _ _,λa h=>?_,λa b c h k=>?_⟩,IU (by omega) wn,by omega⟩
 ·obtain⟨i',j,hi',_,e1,e2⟩:=hc _ (OM.fk.mp h).2
  have:=l6 ndm e1 e2
  omega
 ·obtain⟨i',j,hi',_,e1,e2⟩:=hc _ (OM.fk.mp h).2
  obtain⟨i2,j2,hi2,_,e3,e4⟩:=hc _ (OM.fk.mp k).2
  have:=l6 ndm e2 e3
  omega
noncomputable def HZ:List D->Int->FB:=vQ 7 1 (fG ql eV sV)
abbrev oe (n:Nat)(rows:D)(ms:List Int)(ps:List Pr)(s6:Sl):En:=[.bx,.fz (.int 6),.fz (.int n),.fz rows,.fz (tupI ms),.fz (.list (ps.map ao)),s6]
def Eg (β:Int):∃(n:Nat) (l:List Pr) (β':Int),HZ [.int ((6:Nat):Int)] β=.ok (ah n l) false β'/\OM.Ord n l/\n<=6:=by
 obtain⟨j,hj,ej⟩:=nW (m:=6) (by omega) (by omega) β
 show ∃(n:Nat) (l:List Pr) (β':Int),Eo (fG ql eV sV [.bx,.fz (.int ((6:Nat):Int)),.no,.no,.no,.no,.no] β)=.ok (ah n l) false β'/\OM.Ord n l/\n<=6
 unfold fG
 generalize hβ1:β / ((6:Nat):Int)=β1 at ej
 have e1:f2 (cst (.int 1)) (ox 0 eV (aa (gv 1) ag)) bZ (vl [.bx,.fz (.int ((6:Nat):Int)),.no,.no,.no,.no,.no]) β=.ok (.int ((1 + j:Nat):Int)) β1:=by
  refine az (x:=.int 1) rfl (l7 (by rfl) rfl ej) ?_
  show some (int (1 + (j:Int)))=_
  rw[show ((1 + j:Nat):Int)=1 + (j:Int) by omega]
 rw[aL (env':=[.bx,.fz (.int 6),.fz (.int ((1 + j:Nat):Int)),.no,.no,.no,.no]) (β':=β1) ?g1]
 case g1=>rw[cR,e1];rfl
 have n6:1 + j<=6:=by omega
 generalize hn:1 + j=n at n6
 have n1:1<=n:=by omega
 obtain⟨q,hq,eq⟩:=nW (m:=3) (by omega) (by omega) β1
 generalize hβ2:β1 / ((3:Nat):Int)=β2 at eq
 have e2:f2 (cst (.int 1)) (ox 0 eV (aa (cst (.int 3)) ag)) bZ (vl [.bx,.fz (.int 6),.fz (.int n),.no,.no,.no,.no]) β1=.ok (.int ((1 + q:Nat):Int)) β2:=by
  refine az (x:=.int 1) rfl (l7 (ds:=[.int 3]) (by rfl) rfl eq) ?_
  show some (int (1 + (q:Int)))=_
  rw[show ((1 + q:Nat):Int)=1 + (q:Int) by omega]
 have shuf:∀(k:Nat),k<=6->∀b,∃(ms:List Int) (b':Int),sV [.list ((iu k).map int)] b=.ok (tupI ms) false b'/\ms.Perm (iu k):=λk hk b=>Gw (iu k) (by rw[kJ];omega) b
 obtain⟨rows,β3,ec,hl,hP⟩:=qj (t:=.nm 0) (fe:=ox 1 sV (aa (f1 (gv 2) hJ) ag)) (vs:=fj 1 [0,2] (vl [.bx,.fz (.int 6),.fz (.int n),.no,.no,.no,.no])) tupI (λr:List Int=>r.Perm (iu n)) (ds:=dg 0 (1 + q)) (β:=β2) (by
  intro d hd
  refine⟨[.da d,.bx,.da (.int n)],rfl,λb=>?_⟩
  obtain⟨ms,b',em,pm⟩:=shuf n n6 b
  refine⟨ms,b',l7 (ds:=[.list ((iu n).map int)]) (β1:=b) (by rfl) ?_ em,pm⟩
  rw[dh,fo (x:=.int n) (d:=.list ((iu n).map int)) (β1:=b) rfl (o7 (by omega))];rfl)
 rw[eM] at hl
 have ef:aM 1 [0,2] (.nm 0) (cD (f2 (cst (.int 1)) (ox 0 eV (aa (cst (.int 3)) ag)) bZ)) jm (ox 1 sV (aa (f1 (gv 2) hJ) ag)) (vl [.bx,.fz (.int 6),.fz (.int n),.no,.no,.no,.no]) β1=.ok (.list (rows.map tupI)) β3:=by
  unfold aM
  rw[cU (n:=1 + q) e2 (by omega)]
  dsimp only[R.bnd]
  rw[Nc (sz _ (by rw[eM];omega)),ec];rfl
 rw[aL (env':=[.bx,.fz (.int 6),.fz (.int n),.fz (.list (rows.map tupI)),.no,.no,.no]) (β':=β3) ?g2]
 case g2=>rw[cR,ef];rfl
 have hne:rows≠ []:=λz=>by rw[z] at hl;simp at hl;omega
 have told:∀β4,∃(n':Nat) (l:List Pr) (β':Int),Eo (a9 (bY (aa (gv 2) (aa (aw ql (aa (gv 2) (aa (gv 3) ag))) ag))) [.bx,.fz (.int 6),.fz (.int n),.fz (.list (rows.map tupI)),.no,.no,.no] β4)=.ok (ah n' l) false β'/\OM.Ord n' l/\n'<=6:=λβ4=>by
  refine⟨n,(OM.dq n).filter (o5 rows),β4,?_,A4 n1 (by omega) hne,n6⟩
  have a1:aw ql (aa (gv 2) (aa (gv 3) ag)) (vl [.bx,.fz (.int 6),.fz (.int n),.fz (.list (rows.map tupI)),.no,.no,.no]) β4=.ok (.tuple (((OM.dq n).filter (o5 rows)).map ao)) β4:=au rfl (Ec (by omega) (by omega) hP)
  rw[c9,j0 (ds:=[.int n,.tuple (((OM.dq n).filter (o5 rows)).map ao)]) (β1:=β4) ?k3 (by simp)]
  case k3=>
   rw[dh]
   show (R.ok (int n) β4).bnd _=_
   dsimp only[R.bnd]
   rw[dh,a1];rfl
  rfl
 have t1:cz (f2 (gv 2) (cst (.int 6)) (cJ false)) (vl [.bx,.fz (.int 6),.fz (.int n),.fz (.list (rows.map tupI)),.no,.no,.no]) β3=.ok (decide ((n:Int)=6)) β3:=cG (neg:=false) (i:=n) (j:=6) rfl rfl
 by_cases qn:(n:Int)=6
 case neg=>
  rw[Nx qn] at t1
  have t:xj (cz (f2 (gv 2) (cst (.int 6)) (cJ false))) (cz (f2 (ox 0 eV (aa (cst (.int 3)) ag)) (cst (.int 2)) (cJ false))) (vl [.bx,.fz (.int 6),.fz (.int n),.fz (.list (rows.map tupI)),.no,.no,.no]) β3=.ok false β3:=by rw[uT,t1];rfl
  rw[aL (env':=[.bx,.fz (.int 6),.fz (.int n),.fz (.list (rows.map tupI)),.no,.no,.no]) (β':=β3) (by rw[iK t];rfl)]
  exact told β3
 rw[Ni qn] at t1
 obtain⟨g,hg,eg⟩:=nW (m:=3) (by omega) (by omega) β3
 generalize hβ4:β3 / ((3:Nat):Int)=β4 at eg
 have t:xj (cz (f2 (gv 2) (cst (.int 6)) (cJ false))) (cz (f2 (ox 0 eV (aa (cst (.int 3)) ag)) (cst (.int 2)) (cJ false))) (vl [.bx,.fz (.int 6),.fz (.int n),.fz (.list (rows.map tupI)),.no,.no,.no]) β3=.ok (decide ((g:Int)=2)) β4:=by
  have t2:cz (f2 (ox 0 eV (aa (cst (.int 3)) ag)) (cst (.int 2)) (cJ false)) (vl [.bx,.fz (.int 6),.fz (.int n),.fz (.list (rows.map tupI)),.no,.no,.no]) β3=.ok (decide ((g:Int)=2)) β4:=cG (neg:=false) (i:=g) (j:=2) (l7 (ds:=[.int 3]) (by rfl) rfl eg) rfl
  rw[uT,t1]
  exact t2
 by_cases qg:(g:Int)=2
 case neg=>
  rw[Nx qg] at t
  rw[aL (env':=[.bx,.fz (.int 6),.fz (.int n),.fz (.list (rows.map tupI)),.no,.no,.no]) (β':=β4) (by rw[iK t];rfl)]
  exact told β4
 rw[Ni qg] at t
 obtain⟨ms,β5,em,hp⟩:=shuf 6 (by omega) β4
 have hml:ms.length=6:=by rw[hp.length_eq,kJ]
 have ndm:ms.Nodup:=hp.nodup_iff.mpr (oA _)
 generalize hR:PyData.list (rows.map tupI)=R3 at t ⊢
 obtain⟨env',β',ef6,ps,s6,rfl,rfl,hC⟩:=jF (t:=.nm 6) (m:=bO 5 ([] ++ ([] ++ [])) (f2 (gv 5) (aM 1 [6,4] (.nm 0) (cD (cst (.int 3))) (cz (f2 (gv 0) (gv 1) (cJ true))) (bY (aa (f2 (gv 2) (gv 1) aV) (aa (f2 (gv 2) (f2 (cst (.int 3)) (gv 0) bZ) aV) ag)))) ic)) (ds:=dg 0 3) (k:=0)
  (λi env β=>∃(ps:List Pr) (s6:Sl),env=oe n R3 ms ps s6/\β=β5/\MJ ms 3 i ps)
  (env:=oe n R3 ms [] .no) (β:=β5) ⟨[],.no,rfl,rfl,List.nodup_nil,by simp,λp hp=>by cases hp⟩ (by
   rintro i d env β hi ⟨ps,s6,rfl,rfl,nd,hl,hc⟩
   obtain⟨hin,rfl⟩:=ip hi
   rw[Ou] at hl hc
   rw[Ou,Og]
   refine⟨oe n R3 ms ps (.fz (.int i)),rfl,?_⟩
   have him:i < ms.length:=by omega
   generalize hO:((List.range 3).filter λ(j:Nat)=> !decide ((j:Int)=(i:Int)))=js
   have hjs:∀j,j∈js->j < 3:=λj hj=>by rw[<-hO] at hj;exact NR.mp (Nq.mp hj).1
   have hjn:js.Nodup:=by rw[<-hO];exact List.nodup_range.filter _
   have hjl:js.length<=3:=by rw[<-hO];have:=NZ (λ(j:Nat)=> !decide ((j:Int)=(i:Int))) (List.range 3);rw[Oa] at this;exact this
   have at_:∀k:Nat,k < ms.length->aV (tupI ms) (.int (k:Int))=some (.int (ms.getD k 0)):=λk hk=>by
    show lG (ms.map int) (k:Int)=_
    rw[mC,oX hk,Nr,M9 hk];rfl
   have ed:aM 1 [6,4] (.nm 0) (cD (cst (.int 3))) (cz (f2 (gv 0) (gv 1) (cJ true))) (bY (aa (f2 (gv 2) (gv 1) aV) (aa (f2 (gv 2) (f2 (cst (.int 3)) (gv 0) bZ) aV) ag))) (vl (oe n R3 ms ps (.fz (.int i)))) β=.ok (.list ((js.map λ(j:Nat)=>((ms.getD i 0,ms.getD (3 + j) 0):Pr)).map ao)) β:=by
    rw[<-hO,Pn]
    refine cj (l:=List.range 3) (e:=λ(k:Nat)=>int (0 + (k:Int))) (λ(j:Nat)=> !decide ((j:Int)=(i:Int))) (λj=>ao (ms.getD i 0,ms.getD (3 + j) 0)) (cU (n:=3) rfl (by omega)) (by rw[Oa];omega) λj hj=>⟨_,rfl,?_,λ_=>?_⟩
    ·rw[Og];exact cG (neg:=true) (i:=j) (j:=i) rfl rfl
    ·have hj:=NR.mp hj
     refine fw (az (x:=tupI ms) (y:=.int i) rfl rfl (at_ i him)) (az (x:=tupI ms) (y:=.int ((3 + j:Nat):Int)) rfl (az (x:=.int 3) (y:=.int (0 + (j:Int))) rfl rfl ?_) (at_ (3 + j) (by omega)))
     show some (int (3 + (0 + (j:Int))))=_
     congr 2;omega
   refine⟨oe n R3 ms (ps ++ js.map λ(j:Nat)=>((ms.getD i 0,ms.getD (3 + j) 0):Pr)) (.fz (.int i)),β,?_,_,_,rfl,rfl,?_,?_,?_⟩
   ·rw[cR,az (x:=.list (ps.map ao)) (β1:=β) rfl ed (p4 (by rw[Nb,Nb,Nb];omega)),<-NT];rfl
   ·have hd:∀j,j < 3->ms[3 + j]? =some (ms.getD (3 + j) 0):=λj hj=>by rw[Nr,M9 (by omega)];rfl
    have hdi:ms[i]? =some (ms.getD i 0):=by rw[Nr,M9 him];rfl
    refine List.nodup_append.mpr ⟨nd,?_,λp hp q hq e=>?_⟩
    ·rw[Om,O0]
     refine Pf (λ{a b} ha hb h e=>?_) (Om.mp hjn)
     have e2:=(Prod.mk.inj e).2
     have:=l6 ndm (hd a (hjs a ha)) (by rw[e2];exact hd b (hjs b hb))
     omega
    ·subst e
     obtain⟨j,hj,rfl⟩:=NN.mp hq
     obtain⟨i',j',h1,h2,h3,h4⟩:=hc _ hp
     have:=l6 ndm h3 hdi
     omega
   ·rw[NF,Nb];omega
   ·intro p hp
    rcases Nz.mp hp with hp |hp
    ·obtain⟨i',j',h1,h2,h3,h4⟩:=hc _ hp
     exact⟨i',j',by omega,h2,h3,h4⟩
    ·obtain⟨j,hj,rfl⟩:=NN.mp hp
     refine⟨i,j,by omega,hjs j hj,?_,?_⟩
     ·show ms[i]? =some (ms.getD i 0)
      rw[Nr,M9 him];rfl
     ·have:=hjs j hj
      show ms[3 + j]? =some (ms.getD (3 + j) 0)
      rw[Nr,M9 (by omega)];rfl)
 rw[eM,Ou] at hC
 obtain⟨O,hsm,hl64⟩:=Fp (by omega) (by omega) (Na 3) hp hC
 have g9:rn (.list (ps.map ao))=some (.list ((OM.i6 8 (OM.Mem ps)).map ao)):=by
  unfold rn
  dsimp only
  rw[jr]
  dsimp only
  rw[Nc ⟨hsm,hC.1,hl64⟩]
 rw[gp (d:=ah 6 (OM.i6 8 (OM.Mem ps))) (b:=false) (β':=β') ?z]
 ·exact⟨6,_,_,rfl,O,by omega⟩
 case z=>
  rw[jB t]
  rw[aL (env':=[.bx,.fz (.int 6),.fz (.int n),.fz R3,.fz (tupI ms),.no,.no]) (β':=β') ?y1]
  case y1=>
   show bO 4 _ _ [.bx,.fz (.int 6),.fz (.int n),.fz R3,.no,.no,.no] β4=_
   rw[cR,l7 (ds:=[.list ((iu 6).map int)]) (β1:=β4) (by rfl) ?hu1 em]
   ·rfl
   case hu1=>rw[dh,fo (x:=.int ((6:Nat):Int)) (d:=.list ((iu 6).map int)) (β1:=β4) rfl (o7 (by omega))];rfl
  rw[aL (env':=oe n R3 ms [] .no) (β':=β') ?y2]
  case y2=>rw[cR,kO (ds:=[]) (β1:=β') rfl (by simp)];rfl
  rw[aL (env':=oe n R3 ms ps s6) (β':=β') ?y3]
  case y3=>
   rw[ig (env:=oe n R3 ms [] .no) (ds:=dg 0 3) (β1:=β') (cU (n:=3) rfl (by omega))]
   exact ef6
  rw[c9,j0 (ds:=[.int 6,.tuple ((OM.i6 8 (OM.Mem ps)).map ao)]) (β1:=β') ?y4 (by simp)]
  ·rfl
  case y4=>
   rw[dh,GH,lS,dh,fo (fo (x:=.list (ps.map ao)) rfl g9) (by rfl)];rfl
end RM
namespace RM
open PySem L2 PyProof.Rows
def mk (f:Nat->Bool):Nat->Nat
 | 0=>0
 |n + 1=>mk f n ||| if f n=true then 2 ^ n else 0
theorem iE (f:Nat->Bool):∀(n i:Nat),(mk f n).testBit i=(decide (i < n) && f i)
 | 0,i=>by simp[mk]
 |n + 1,i=>by
  unfold mk
  rw[Nat.testBit_or,iE f n i]
  by_cases h:f n=true
  ·rw[Nc h,Nat.testBit_two_pow]
   by_cases e:n=i
   ·subst e;simp[h]
   ·have e2:decide (i < n)=decide (i < n + 1):=by
     rw[Oh];omega
    simp[e,e2]
  ·rw[Nk h]
   by_cases e:i=n
   ·subst e;simp[h]
   ·have e2:decide (i < n)=decide (i < n + 1):=by
     rw[Oh];omega
    simp[e2]
def mk_eq {f g:Nat->Bool}{n:Nat}:mk f n=mk g n↔∀i,i < n->f i=g i:=by
 constructor
 ·intro h i hi
  have:=congrArg (λx=>x.testBit i) h
  simp only[iE,Ni hi,Bool.true_and] at this
  exact this
 ·intro h
  apply O4
  intro i
  rw[iE,iE]
  by_cases hi:i < n
  ·rw[h i hi]
  ·rw[Nx hi];simp
def iC (f:Nat->Bool)(t:Nat):Nat->Bool:=λi=>f i || decide (i=t)
def Kc {f:Nat->Bool}{n t:Nat}(h:t < n):mk f n ||| 2 ^ t=mk (iC f t) n:=by
 apply O4
 intro i
 rw[Nat.testBit_or,iE,iE,Nat.testBit_two_pow]
 unfold iC
 by_cases e:t=i
 ·subst e;simp[h]
 ·have e':¬i=t:=λq=>e q.symm
  simp[e,e']
def HL {f g:Nat->Bool}{n:Nat}:(mk f n &&& mk g n=mk g n)↔∀i,i < n->g i=true->f i=true:=by
 have e:mk f n &&& mk g n=mk (λi=>f i && g i) n:=by
  apply O4
  intro i
  rw[Nat.testBit_and,iE,iE,iE]
  by_cases h:i < n
  ·simp[h]
  ·simp[h]
 rw[e,mk_eq]
 constructor
 ·intro h i hi hg
  have:=h i hi
  rw[hg,Bool.and_true] at this
  exact this
 ·intro h i hi
  cases hg:g i with
  |false=>simp
  |true=>rw[h i hi hg];rfl
def tw (a b:Nat):Builtin.bitOr (a:Int) (b:Int)=((a ||| b:Nat):Int):=by
 have h1:¬(0<=Builtin.bitNot (a:Int)):=by show ¬(0<= -(a:Int) - 1);omega
 have h2:¬(0<=Builtin.bitNot (b:Int)):=by show ¬(0<= -(b:Int) - 1);omega
 show Builtin.bitNot (Builtin.bitAnd (Builtin.bitNot a) (Builtin.bitNot b))=_
 rw[bitAnd_nn h1 h2]
 have e1:Builtin.bitNot (Builtin.bitNot (a:Int))=a:=by show -(-(a:Int) - 1) - 1=a;omega
 have e2:Builtin.bitNot (Builtin.bitNot (b:Int))=b:=by show -(-(b:Int) - 1) - 1=b;omega
 rw[e1,e2]
 show -(-((((a:Int).toNat ||| (b:Int).toNat:Nat):Int)) - 1) - 1=_
 rw[NP,NP];omega
def xE (a b:Nat):Builtin.bitAnd (a:Int) (b:Int)=((a &&& b:Nat):Int):=by
 rw[bitAnd_pp (by omega) (by omega),NP,NP]
def mI (f:Nat->Bool)(n:Nat):D:=.int ((mk f n:Nat):Int)
def Hb:∀t:Nat,t < 8->Ha (.int 1) (.int (t:Int))=some (.int ((2 ^ t:Nat):Int)):=by
 intro t ht
 have:t=0\/t=1\/t=2\/t=3\/t=4\/t=5\/t=6\/t=7:=by omega
 rcases this with rfl |rfl |rfl |rfl |rfl |rfl |rfl |rfl <;> rfl
def wL:List D->FR:=aS 2 2 jc
def CZ {f:Nat->Bool}{n t:Nat}(h8:n<=8)(h:t < n):wL [mI f n,.int (t:Int)]=.ok (mI (iC f t) n) false:=by
 show fin (jc [.fz (mI f n),.fz (.int t)] 0)=_
 unfold jc
 rw[c9,az (x:=mI f n) (y:=.int ((2 ^ t:Nat):Int)) (d:=mI (iC f t) n) (β1:=0) (β2:=0) rfl (az (x:=.int 1) (y:=.int t) rfl rfl (Hb t (by omega))) ?a]
 ·rfl
 case a=>
  show some (int (Builtin.bitOr _ _))=_
  rw[tw,Kc h];rfl
def cy (n:Nat)(M:Nat->Nat->Bool):D:=.list ((List.range n).map λb=>mI (M b) n)
def bE (l:List Pr)(b a:Nat):Bool:=decide ((((a:Nat):Int),((b:Nat):Int))∈l)
def CS {n b:Nat}{M:Nat->Nat->Bool}(h:b < n):lG ((List.range n).map λb=>mI (M b) n) (b:Int)=some (mI (M b) n):=gm (by rw[Nm,OU h];rfl)
def Lq:List D->FR:=aS 4 1 (gY wL)
def orM (M:Nat->Nat->Bool)(p:Pr)(b a:Nat):Bool:=M b a || (decide ((b:Int)=p.2) && decide ((a:Int)=p.1))
def GV {n:Nat}{M:Nat->Nat->Bool}{p:Pr}(h1:0<=p.1/\p.1 < n)(h2:0<=p.2/\p.2 < n):((List.range n).map λb=>mI (M b) n).set p.2.toNat (mI (iC (M p.2.toNat) p.1.toNat) n)=(List.range n).map λb=>mI (orM M p b) n:=by
 refine List.ext_getElem (by simp) λi h3 h4=>?_
 rw[List.getElem_set]
 simp only[List.getElem_map,List.getElem_range]
 unfold mI
 by_cases e:p.2.toNat=i
 ·rw[Nc e]
  congr 2
  rw[mk_eq]
  intro j hj
  unfold iC orM
  rw[e]
  have e1:((i:Nat):Int)=p.2:=by omega
  rw[Ni e1,Bool.true_and]
  congr 1
  rw[Oh];omega
 ·rw[Nk e]
  congr 2
  rw[mk_eq]
  intro j hj
  unfold orM
  rw[Nx (by omega:¬((i:Nat):Int)=p.2)];simp
theorem yU {n:Nat}{l:List Pr}(h8:n<=8):∀(ps:List Pr) (M:Nat->Nat->Bool) (s2 s3:Sl),OM.Wn n ps->∃M' s2' s3',lD (.two 2 3) (vC 1 (([] ++ []) ++ ([2] ++ [])) [] (aw wL (aa (f2 (gv 1) (gv 3) aV) (aa (gv 2) ag))) (gv 3)) (ps.map ao) [.fz (ah n l),.ow (cy n M),s2,s3] 0=.nx [.fz (ah n l),.ow (cy n M'),s2',s3'] 0/\∀b a,b < n->a < n->M' b a=(M b a || bE ps b a)
 | [],M,s2,s3,_=>⟨M,s2,s3,rfl,λb a _ _=>by unfold bE;simp⟩
 |p :: ps,M,s2,s3,wn=>by
  have hp:=wn p (Np ..)
  obtain⟨M',s2',s3',e,hM⟩:=yU (l:=l) h8 ps (orM M p) (.fz (.int p.1)) (.fz (.int p.2)) λq hq=>wn q (Nn _ hq)
  refine⟨M',s2',s3',?_,λb a hb ha=>?_⟩
  ·rw[OB]
   unfold lD
   rw[show hW (.two 2 3) (ao p) [.fz (ah n l),.ow (cy n M),s2,s3]=some [.fz (ah n l),.ow (cy n M),.fz (.int p.1),.fz (.int p.2)] from rfl]
   dsimp only
   have e1:(p.2.toNat:Int)=p.2:=by omega
   have e2:(p.1.toNat:Int)=p.1:=by omega
   have ew:aw wL (aa (f2 (gv 1) (gv 3) aV) (aa (gv 2) ag)) (vl [.fz (ah n l),.ow (cy n M),.fz (.int p.1),.fz (.int p.2)]) 0=.ok (mI (iC (M p.2.toNat) p.1.toNat) n) 0:=by
    refine au (b:=false) (ds:=[mI (M p.2.toNat) n,.int (p.1.toNat:Int)]) (ac (az (x:=cy n M) (y:=.int p.2) rfl rfl ?_) (ac ?_ an)) (CZ h8 (by omega))
    ·have:=CS (n:=n) (M:=M) (b:=p.2.toNat) (by omega)
     rw[e1] at this
     exact this
    ·show R.ok (int p.1) 0=_
     rw[e2]
   rw[Bs (ds:=(List.range n).map λb=>mI (M b) n) (d:=mI (iC (M p.2.toNat) p.1.toNat) n) (k:=p.2) (n:=p.2.toNat) (β1:=0) (β2:=0) ew (by rfl) rfl (by rfl) (by
    unfold rN
    rw[Nc hp.2.1,Nc (by simp;omega)]),GV hp.1 hp.2]
   dsimp only
   exact e
  ·rw[hM b a hb ha]
   unfold orM bE
   obtain⟨p1,p2⟩:=p
   rw[Bool.or_assoc]
   congr 1
   rw[NS]
   simp only[Oj,Ny,NC,Nh,Prod.mk.injEq]
   constructor
   ·rintro (⟨h1,h2⟩ |h)
    ·exact .inl ⟨h2,h1⟩
    ·exact .inr h
   ·rintro (⟨h1,h2⟩ |h)
    ·exact .inl ⟨h2,h1⟩
    ·exact .inr h
def A1 {n:Nat}{M N:Nat->Nat->Bool}(h:∀b a,b < n->a < n->M b a=N b a):cy n M=cy n N:=by
 unfold cy
 congr 1
 refine Oz λb hb=>?_
 unfold mI
 congr 2
 rw[mk_eq]
 exact λa ha=>h b a (NR.mp hb) ha
def Mt {n:Nat}{l:List Pr}(O:OM.Ord n l):Lq [ah n l]=.ok (cy n (bE l)) true:=by
 have h8:=O.hi
 show fin (gY wL [.fz (ah n l),.no,.no,.no] 0)=_
 unfold gY
 rw[aL (env':=[.fz (ah n l),.ow (cy n λ_ _=>false),.no,.no]) (β':=0) ?a]
 case a=>
  have e:f2 (cC (aa (cst (.int 0)) ag)) (f2 (gv 0) (cst (.int 0)) aV) qP (vl [.fz (ah n l),.no,.no,.no]) 0=.ok (cy n λ_ _=>false) 0:=by
   refine az (lp (ac (ck _) an)) (MN (n:=n) (l:=l) rfl) ?_
   simp only[qP]
   rw[Nc ⟨by omega,by omega,by rw[NV];simp;omega⟩]
   unfold cy
   congr 2
   rw[NP]
   have hz:∀m,mk (λ_=>false) m=0:=λm=>by
    induction m with
    |zero=>rfl
    |succ m ih=>unfold mk;rw[ih];simp
   unfold mI
   simp only[hz]
   have:∀m:Nat,(List.replicate m [int 0]).flatten=List.replicate m (int 0):=λm=>by
    induction m with
    |zero=>rfl
    |succ m ih=>rw[N7,N7,Ow,ih];rfl
   rw[this]
   refine List.ext_getElem (by simp) λi h1 h2=>by simp
  rw[lQ,e];rfl
 obtain⟨M',s2,s3,e,hM⟩:=yU (l:=l) h8 l (λ_ _=>false) .no .no O.wn
 have hm:cy n M'=cy n (bE l):=A1 λb a hb ha=>by rw[hM b a hb ha];rfl
 rw[hm] at e
 rw[aL (env':=[.fz (ah n l),.ow (cy n (bE l)),s2,s3]) (β':=0) (by
  rw[ig (env:=[.fz (ah n l),.ow (cy n λ_ _=>false),.no,.no]) (ds:=l.map ao) (β1:=0) (by unfold bL;rw[Lk (n:=n) (l:=l) rfl];rfl)]
  exact e)]
 rfl
end RM
namespace RM
open PySem L2
def dQ (r:List Int)(i:Nat):Bool:=decide ((i:Int)∈r)
def Lm:List D->FR:=aS 5 2 (gQ wL)
def BV {n:Nat}{l:List Pr}(O:OM.Ord n l){r:List Int}{t:Nat}(ht:t < n):(!decide (mk (iC (dQ r) t) n=mk (dQ r) n) && decide (mk (dQ r) n &&& mk (bE l t) n=mk (bE l t) n))=iN l r t:=by
 unfold iN
 congr 1
 ·congr 1
  rw[Oh,mk_eq]
  constructor
  ·intro h
   have:=h t ht
   unfold iC dQ at this
   simp at this
   exact this
  ·intro h i hi
   unfold iC dQ
   by_cases e:i=t
   ·subst e;simp[h]
   ·simp[e]
 ·rw[Oh,HL]
  constructor
  ·intro h
   rw[List.eq_nil_iff_forall_not_mem]
   intro a ha
   obtain⟨h1,h2⟩:=k0.mp ha
   have hw:=(O.wn _ h1).1
   simp only at hw
   have e:((a.toNat:Nat):Int)=a:=by omega
   have:=h a.toNat (by omega) (by unfold bE;rw[e];exact Ni h1)
   unfold dQ at this
   rw[e] at this
   exact h2 (OH this)
  ·intro h i hi hg
   unfold dQ
   refine Ni (Classical.byContradiction λq=>?_)
   have:(i:Int)∈Bf l r t:=k0.mpr ⟨OH hg,q⟩
   rw[h] at this;cases this
def DR {n:Nat}{l:List Pr}(O:OM.Ord n l)(r:List Int):∃s3 s4,lD (.two 3 4) (gZ ((([1] ++ ([3] ++ [])) ++ []) ++ (([] ++ []) ++ [])) (xj (cz (f2 (aw wL (aa (gv 1) (aa (gv 3) ag))) (gv 1) (cJ true))) (cz (f2 (f2 (gv 1) (gv 4) CL) (gv 4) (cJ false))))
  (nJ 2 [3] (gv 3)) jh) (eT ((List.range n).map λb=>mI (bE l b) n)) [.fz (cy n (bE l)),.fz (mI (dQ r) n),.ow (.list []),.no,.no] 0=.nx [.fz (cy n (bE l)),.fz (mI (dQ r) n),.ow (.list ((eH l r n).map int)),s3,s4] 0:=by
 have h8:=O.hi
 obtain⟨env',β',ef,s3,s4,rfl,rfl⟩:=jF (t:=.two 3 4) (m:=gZ ((([1] ++ ([3] ++ [])) ++ []) ++ (([] ++ []) ++ [])) (xj (cz (f2 (aw wL (aa (gv 1) (aa (gv 3) ag))) (gv 1) (cJ true))) (cz (f2 (f2 (gv 1) (gv 4) CL) (gv 4) (cJ false))))
  (nJ 2 [3] (gv 3)) jh) (ds:=eT ((List.range n).map λb=>mI (bE l b) n)) (k:=0)
  (λk env b=>∃s3 s4,env= [.fz (cy n (bE l)),.fz (mI (dQ r) n),.ow (.list ((eH l r k).map int)),s3,s4]/\b=0)
  (env:=[.fz (cy n (bE l)),.fz (mI (dQ r) n),.ow (.list []),.no,.no]) (β:=0) ⟨.no,.no,rfl,rfl⟩ (by
   rintro k d env b hk ⟨s3,s4,rfl,rfl⟩
   unfold eT at hk
   rw[List.getElem?_mapIdx,Nm] at hk
   have hkn:k < n:=by
    by_cases h:k < n
    ·exact h
    ·rw[Oq (by simp;omega)] at hk;cases hk
   rw[OU hkn] at hk
   cases hk
   refine⟨[.fz (cy n (bE l)),.fz (mI (dQ r) n),.ow (.list ((eH l r (0 + k)).map int)),.fz (.int k),.fz (mI (bE l k) n)],rfl,?_⟩
   rw[Ou]
   have et:xj (cz (f2 (aw wL (aa (gv 1) (aa (gv 3) ag))) (gv 1) (cJ true))) (cz (f2 (f2 (gv 1) (gv 4) CL) (gv 4) (cJ false))) (vl [.fz (cy n (bE l)),.fz (mI (dQ r) n),.ow (.list ((eH l r k).map int)),.fz (.int k),.fz (mI (bE l k) n)]) 0=.ok (iN l r k) 0:=by
    rw[<-BV O hkn]
    refine BD (cO _ _ _ _ (az (x:=mI (iC (dQ r) k) n) (y:=mI (dQ r) n) (au (ds:=[mI (dQ r) n,.int k]) rfl (CZ h8 hkn)) rfl ?_)) (cO _ _ _ _ (az (x:=.int ((mk (dQ r) n &&& mk (bE l k) n:Nat):Int)) (y:=mI (bE l k) n) (az (x:=mI (dQ r) n) (y:=mI (bE l k) n) rfl rfl ?_) rfl ?_))
    ·unfold mI;rw[nQ,Nc rfl];congr 3;rw[Oh];omega
    ·show some (int (Builtin.bitAnd _ _))=_
     rw[xE]
    ·unfold mI;rw[nQ,Nk Nj];congr 2;rw[Oh];omega
   cases c:iN l r (k:Int) with
   |true=>
    rw[c] at et
    refine⟨[.fz (cy n (bE l)),.fz (mI (dQ r) n),.ow (.list ((eH l r (k + 1)).map int)),.fz (.int k),.fz (mI (bE l k) n)],0,?_,_,_,rfl,rfl⟩
    rw[jB et]
    have hz:=nX l r k
    rw[show aY ((([1] ++ ([3] ++ [])) ++ []) ++ (([] ++ []) ++ [])) [.fz (cy n (bE l)),.fz (mI (dQ r) n),.ow (.list ((eH l r k).map int)),.fz (.int k),.fz (mI (bE l k) n)]= [.fz (cy n (bE l)),.fz (mI (dQ r) n),.ow (.list ((eH l r k).map int)),.fz (.int k),.fz (mI (bE l k) n)] from rfl]
    rw[pW (i:=2) (ds:=(eH l r k).map int) (d:=.int k) (β':=0) (by rfl) rfl (by rfl) (by rw[Nb];omega),tm,Nc c,NT]
    rfl
   |false=>
    rw[c] at et
    refine⟨[.fz (cy n (bE l)),.fz (mI (dQ r) n),.ow (.list ((eH l r (k + 1)).map int)),.fz (.int k),.fz (mI (bE l k) n)],0,?_,_,_,rfl,rfl⟩
    rw[iK et,tm,c,show eH l r k ++ (if false=true then [(k:Int)] else [])=eH l r k by simp]
    rfl)
 have hle:(eT ((List.range n).map λb=>mI (bE l b) n)).length=n:=by unfold eT;simp
 rw[Ou,hle] at ef
 exact⟨s3,s4,ef⟩
def LK {n:Nat}{l:List Pr}(O:OM.Ord n l)(r:List Int):Lm [cy n (bE l),mI (dQ r) n]=.ok (.list ((eH l r n).map int)) true:=by
 show fin (gQ wL [.fz (cy n (bE l)),.fz (mI (dQ r) n),.no,.no,.no] 0)=_
 unfold gQ
 rw[aL (env':=[.fz (cy n (bE l)),.fz (mI (dQ r) n),.ow (.list []),.no,.no]) (β':=0) (by rw[lQ,lp (ds:=[]) an];rfl)]
 obtain⟨s3,s4,e⟩:=DR O r
 rw[aL (env':=[.fz (cy n (bE l)),.fz (mI (dQ r) n),.ow (.list ((eH l r n).map int)),s3,s4]) (β':=0) (by
  rw[ig (env:=[.fz (cy n (bE l)),.fz (mI (dQ r) n),.ow (.list []),.no,.no]) (ds:=eT ((List.range n).map λb=>mI (bE l b) n)) (β1:=0) rfl]
  exact e)]
 rfl
noncomputable def IV:List D->FR:=aS 6 2 (jT Lm wL)
structure Gs (n:Nat)(l:List Pr)(late r:List Int):Prop where
 beg:DE n l r
 late:∀q x,(q ++ [x]) <+:r->x∈late->∀y:Int,(0<=y/\y < n)->iN l q y=true->y∈late
def wG (neg:Bool)(a:Int)(s:List Int):lH neg (.int a) (.list (s.map int))=some (.bool (if neg then !decide (a∈s) else decide (a∈s))):=by
 unfold lH
 simp only[pN,Ab,any_ints]
 rfl
def Gs.more {n:Nat}{l:List Pr}{late r:List Int}{x:Int}(R:Gs n l late r)(hx:0<=x/\x < (n:Int))(hf:iN l r x=true)(hl:x∈late->∀y:Int,(0<=y/\y < n)->iN l r y=true->y∈late):Gs n l late (r ++ [x]):=by
 refine⟨R.beg.more hx hf,λq z hp hz y hy hfy=>?_⟩
 rcases List.prefix_concat_iff.mp hp with e |hp
 ·have:=List.append_inj' e rfl
  obtain⟨rfl,e2⟩:=this
  cases e2
  exact hl hz y hy hfy
 ·exact R.late q z hp hz y hy hfy
def Hy (n:Nat):mI (dQ []) n=.int 0:=by
 unfold mI
 congr 1
 have:mk (dQ []) n=0:=by
  induction n with
  |zero=>rfl
  |succ m ih=>unfold mk;rw[ih];simp[dQ]
 rw[this];rfl
def Ih {n:Nat}{r:List Int}{x:Int}(h:0<=x/\x < n):mI (iC (dQ r) x.toNat) n=mI (dQ (r ++ [x])) n:=by
 unfold mI
 congr 2
 rw[mk_eq]
 intro i hi
 unfold iC dQ
 rw[NS]
 simp only[Oj,NC,Nz,NG]
 constructor
 ·rintro (h |h)
  ·exact .inl h
  ·exact .inr (by omega)
 ·rintro (h |h)
  ·exact .inl h
  ·exact .inr (by omega)
def JO {n:Nat}{l:List Pr}{late:List Int}(O:OM.Ord n l)(hz:late.length<=100):∃r,IV [cy n (bE l),.list (late.map int)]=.ok (tupI r) false/\Row n l r/\Gs n l late r:=by
 have h8:=O.hi
 show ∃r,fin (jT Lm wL [.fz (cy n (bE l)),.fz (.list (late.map int)),.no,.no,.no,.no] 0)=.ok (tupI r) false/\Row n l r/\Gs n l late r
 unfold jT
 rw[aL (env':=[.fz (cy n (bE l)),.fz (.list (late.map int)),.ow (.list (([]:List Int).map int)),.no,.no,.no]) (β':=0) (by rw[lQ,lp (ds:=[]) an];rfl)]
 rw[aL (env':=[.fz (cy n (bE l)),.fz (.list (late.map int)),.ow (.list (([]:List Int).map int)),.fz (mI (dQ []) n),.no,.no]) (β':=0) (by rw[cR,Hy];rfl)]
 obtain⟨env',β',ew,r,s4,s5,rfl,rfl,hr,R⟩:=jt (L:=[] ++ []) (t:=cz (f2 (f1 (gv 2) bX) (f1 (gv 0) bX) tE))
  (m:=aJ (bO 4 ([0] ++ ([3] ++ [])) (aw Lm (aa (gv 0) (aa (gv 3) ag))))
   (aJ (bO 5 ([] ++ []) (aM 1 [1] (.nm 0) (bL (gv 4)) (cz (f2 (gv 0) (gv 1) (lH true))) (gv 0)))
   (aJ (nJ 2 (([] ++ []) ++ []) (f2 (f2 (gv 5) (gv 4) ic) (cst (.int 0)) aV))
   (bO 3 ([3] ++ (([] ++ []) ++ [])) (aw wL (aa (gv 3) (aa (f2 (gv 2) (f1 (cst (.int 1)) pz) aV) ag)))))))
  (λk env b=>∃r s4 s5,env= [.fz (cy n (bE l)),.fz (.list (late.map int)),.ow (.list (r.map int)),.fz (mI (dQ r) n),s4,s5]/\b=0/\Gs n l late r/\k=n - r.length)
  (λenv b=>∃r s4 s5,env= [.fz (cy n (bE l)),.fz (.list (late.map int)),.ow (.list (r.map int)),.fz (mI (dQ r) n),s4,s5]/\b=0/\Row n l r/\Gs n l late r)
  (n:=1000) (k:=n) (env:=[.fz (cy n (bE l)),.fz (.list (late.map int)),.ow (.list (([]:List Int).map int)),.fz (mI (dQ []) n),.no,.no]) (β:=0) (by omega)
  ⟨[],.no,.no,rfl,rfl,⟨⟨List.nodup_nil,(λx hx=>by cases hx),(λp _ h=>by cases h)⟩,λq x hp=>by simp at hp⟩,by simp⟩ (by
   rintro k env b ⟨r,s4,s5,rfl,rfl,R,rfl⟩
   have hrl:=R.beg.len
   have et:cz (f2 (f1 (gv 2) bX) (f1 (gv 0) bX) tE) (vl [.fz (cy n (bE l)),.fz (.list (late.map int)),.ow (.list (r.map int)),.fz (mI (dQ r) n),s4,s5]) 0=.ok (decide ((r.length:Int) < n)) 0:=by
    refine cO _ _ _ _ (az (x:=.int r.length) (y:=.int n) (β1:=0) ?_ ?_ rfl)
    ·rw[iw (ds:=r.map int) rfl,Nb]
    ·rw[iw (ds:=(List.range n).map λb=>mI (bE l b) n) rfl,Nb,Oa]
   refine⟨_,_,et,?_⟩
   by_cases hlt:r.length < n
   ·refine .inr ⟨Ni (by omega),?_⟩
    show ∃env2 β2 k',aJ _ _ [.fz (cy n (bE l)),.fz (.list (late.map int)),.ow (.list (r.map int)),.fz (mI (dQ r) n),s4,s5] 0=.nx env2 β2/\k' < n - r.length/\_
    rw[aL (env':=[.fz (cy n (bE l)),.fz (.list (late.map int)),.ow (.list (r.map int)),.fz (mI (dQ r) n),.fz (.list ((eH l r n).map int)),s5]) (β':=0) (by rw[cR,au (ds:=[cy n (bE l),mI (dQ r) n]) (β1:=0) rfl (LK O r)];rfl)]
    have ec:aM 1 [1] (.nm 0) (bL (gv 4)) (cz (f2 (gv 0) (gv 1) (lH true))) (gv 0) (vl [.fz (cy n (bE l)),.fz (.list (late.map int)),.ow (.list (r.map int)),.fz (mI (dQ r) n),.fz (.list ((eH l r n).map int)),s5]) 0=.ok (.list (((eH l r n).filter λx=> !decide (x∈late)).map int)) 0:=by
     refine cj (l:=eH l r n) (e:=int) (λx=> !decide (x∈late)) int rfl (by have:=nX l r n;omega) λx hx=>⟨_,rfl,?_,λ_=>rfl⟩
     exact cO _ _ _ _ (az (x:=.int x) (y:=.list (late.map int)) rfl rfl (wG true x late))
    generalize hEE:((eH l r n).filter λx=> !decide (x∈late))=EE at ec
    rw[aL (env':=[.fz (cy n (bE l)),.fz (.list (late.map int)),.ow (.list (r.map int)),.fz (mI (dQ r) n),.fz (.list ((eH l r n).map int)),.fz (.list (EE.map int))]) (β':=0) (by rw[cR,ec];rfl)]
    have hne:eH l r n≠ []:=R.beg.free O hlt
    have hEl:EE.length<=n:=by rw[<-hEE];exact N8 (NZ _ _) (nX l r n)
    have hfl:=nX l r n
    obtain⟨x,L,hx⟩:∃x L,EE ++ eH l r n=x :: L:=List.exists_cons_of_ne_nil (by simp[hne])
    have hxm:x∈eH l r n:=by
     have:x∈EE ++ eH l r n:=by rw[hx];exact Np ..
     rcases Nz.mp this with h |h
     ·rw[<-hEE] at h;exact (Nq.mp h).1
     ·exact h
    obtain⟨hm1,hm2⟩:=Nq.mp hxm
    have hxr:=dS.mp hm1
    have hlate:x∈late->∀y:Int,(0<=y/\y < n)->iN l r y=true->y∈late:=λhxl y hy hfy=>by
     apply Classical.byContradiction
     intro hn
     have hyE:y∈EE:=by rw[<-hEE];exact Nq.mpr ⟨Nq.mpr ⟨dS.mpr hy,hfy⟩,by simp[hn]⟩
     cases hE:EE with
     |nil=>rw[hE] at hyE;cases hyE
     |cons z Z=>
      rw[hE,List.cons_append] at hx
      have e1:=(List.cons.inj hx).1
      have:z∈EE:=by rw[hE];exact Np ..
      rw[<-hEE] at this
      have:=(Nq.mp this).2
      rw[e1] at this
      simp[hxl] at this
    have R':=R.more hxr hm2 hlate
    rw[aL (env':=[.fz (cy n (bE l)),.fz (.list (late.map int)),.ow (.list ((r ++ [x]).map int)),.fz (mI (dQ r) n),.fz (.list ((eH l r n).map int)),.fz (.list (EE.map int))]) (β':=0) ?bb]
    case bb=>
     have ei:f2 (f2 (gv 5) (gv 4) ic) (cst (.int 0)) aV (vl [.fz (cy n (bE l)),.fz (.list (late.map int)),.ow (.list (r.map int)),.fz (mI (dQ r) n),.fz (.list ((eH l r n).map int)),.fz (.list (EE.map int))]) 0=.ok (.int x) 0:=by
      refine az (x:=.list ((EE ++ eH l r n).map int)) (y:=.int 0) (az (x:=.list (EE.map int)) (y:=.list ((eH l r n).map int)) rfl rfl ?_) rfl ?_
      ·rw[p4 (by rw[Nb,Nb];omega),NT]
      ·rw[hx];exact gm (xs:=.int x :: L.map int) (j:=0) rfl
     rw[pW (i:=2) (ds:=r.map int) (d:=.int x) (β':=0) (by rfl) ei (by rfl) (by rw[Nb];omega),NT]
     rfl
    have e1:(x.toNat:Int)=x:=by omega
    have el:f2 (gv 2) (f1 (cst (.int 1)) pz) aV (vl [.fz (cy n (bE l)),.fz (.list (late.map int)),.ow (.list ((r ++ [x]).map int)),.fz (mI (dQ r) n),.fz (.list ((eH l r n).map int)),.fz (.list (EE.map int))]) 0=.ok (.int (x.toNat:Int)) 0:=by
     refine az (x:=.list ((r ++ [x]).map int)) (y:=.int (-1)) rfl rfl ?_
     show lG ((r ++ [x]).map int) (-1)=_
     rw[e1]
     unfold lG rN
     rw[Nk (by omega),Nc (by simp;omega)]
     show ((r ++ [x]).map int)[((-1:Int) + ((((r ++ [x]).map int).length:Nat):Int)).toNat]? =_
     rw[show ((-1:Int) + ((((r ++ [x]).map int).length:Nat):Int)).toNat=r.length by simp;omega,NT,NO (by simp)]
     simp
    refine⟨[.fz (cy n (bE l)),.fz (.list (late.map int)),.ow (.list ((r ++ [x]).map int)),.fz (mI (dQ (r ++ [x])) n),.fz (.list ((eH l r n).map int)),.fz (.list (EE.map int))],0,n - (r ++ [x]).length,?_,by rw[NF,NY];omega,_,_,_,rfl,rfl,R',rfl⟩
    rw[cR,au (ds:=[mI (dQ r) n,.int (x.toNat:Int)]) (β1:=0) (ac rfl (ac el an)) (CZ h8 (by omega)),Ih hxr];rfl
   ·refine .inl ⟨Nx (by omega),r,s4,s5,rfl,rfl,R.beg.row O (by omega),R⟩)
 rw[aL (env':=[.fz (cy n (bE l)),.fz (.list (late.map int)),.ow (.list (r.map int)),.fz (mI (dQ r) n),s4,s5]) (β':=0) ew]
 exact⟨r,rfl,hr,R⟩
def lE (l:List Pr)(x y:Int):Bool:=decide (x=y) || decide ((x,y)∈l)
def gy {l:List Pr}{x y:Int}:lE l x y=true↔x=y\/(x,y)∈l:=by unfold lE;simp
def tY {n:Nat}{l:List Pr}(O:OM.Ord n l){x y z:Int}(h:lE l x y=true)(k:lE l y z=true):lE l x z=true:=by
 rw[gy] at *
 rcases h with rfl |h
 ·exact k
 ·rcases k with rfl |k
  ·exact .inr h
  ·exact .inr (O.tr _ _ _ h k)
def putL (n:Nat)(l:List Pr)(t:Pr):List Pr:=(OM.dq n).filter λp=>decide (p∈l) || (lE l p.1 t.2 && lE l t.1 p.2)
def lL {n:Nat}{l:List Pr}{t p:Pr}(h:(0<=p.1/\p.1 < n)/\(0<=p.2/\p.2 < n)):p∈putL n l t↔p∈l\/(lE l p.1 t.2=true/\lE l t.1 p.2=true):=by
 unfold putL
 rw[Nq,OM.bV,Oj,Ny,NC]
 exact⟨λh=>h.2,λk=>⟨h,k⟩⟩
def oR {n:Nat}{l:List Pr}{t p:Pr}(h:p∈putL n l t):p∈l\/(lE l p.1 t.2=true/\lE l t.1 p.2=true):=by
 unfold putL at h
 have:=(Nq.mp h).2
 rw[Oj,Ny,NC] at this
 exact this
def EK {n:Nat}{l:List Pr}{t:Pr}(O:OM.Ord n l)(h:lE l t.1 t.2=false):OM.Ord n (putL n l t):=by
 have hn:¬lE l t.1 t.2=true:=by rw[h];exact Nj
 refine⟨O.lo,O.hi,λp hp=>OM.bV.mp (Nq.mp hp).1,OM.jy _ (OM.ko n),λa ha=>?_,λa b c hab hbc=>?_⟩
 ·rcases oR ha with q | ⟨q1,q2⟩
  ·exact O.irr a q
  ·exact hn (tY O q2 q1)
 ·have g1:=OM.bV.mp (Nq.mp hab).1
  have g2:=OM.bV.mp (Nq.mp hbc).1
  refine (lL (p:=(a,c)) ⟨g1.1,g2.2⟩).mpr ?_
  rcases oR hab with q | ⟨q1,q2⟩
  ·rcases oR hbc with r | ⟨r1,r2⟩
   ·exact .inl (O.tr _ _ _ q r)
   ·exact .inr ⟨tY O (gy.mpr (.inr q)) r1,r2⟩
  ·rcases oR hbc with r | ⟨r1,r2⟩
   ·exact .inr ⟨q1,tY O q2 (gy.mpr (.inr r))⟩
   ·exact .inr ⟨q1,r2⟩
def zE {n:Nat}{l:List Pr}{t p:Pr}(O:OM.Ord n l)(h:p∈l):p∈putL n l t:=(lL (O.wn p h)).mpr (.inl h)
def qh {n:Nat}{l:List Pr}{t:Pr}(h:(0<=t.1/\t.1 < n)/\(0<=t.2/\t.2 < n)):(t.2,t.1)∈putL n l t:=(lL ⟨h.2,h.1⟩).mpr (.inr ⟨gy.mpr (.inl rfl),gy.mpr (.inl rfl)⟩)
def DQ:List D->FR:=aS 3 3 (k9 wL)
def Ip {n:Nat}{l:List Pr}{a b:Int}(h8:n<=8)(ha:0<=a/\a < n)(hb:0<=b/\b < n):DQ [cy n (bE l),.int a,.int b]=.ok (.bool (decide ((a,b)∈l))) false:=by
 have ea:((a.toNat:Nat):Int)=a:=by omega
 have eb:((b.toNat:Nat):Int)=b:=by omega
 show fin (k9 wL [.fz (cy n (bE l)),.fz (.int a),.fz (.int b)] 0)=_
 unfold k9
 have em:f2 (gv 0) (gv 2) aV (vl [.fz (cy n (bE l)),.fz (.int a),.fz (.int b)]) 0=.ok (mI (bE l b.toNat) n) 0:=by
  refine az (x:=cy n (bE l)) (y:=.int b) rfl rfl ?_
  have:=CS (n:=n) (M:=bE l) (b:=b.toNat) (by omega)
  rw[eb] at this
  exact this
 rw[c9,az (x:=mI (iC (bE l b.toNat) a.toNat) n) (y:=mI (bE l b.toNat) n) (d:=.bool (decide ((a,b)∈l))) (β1:=0) (β2:=0) (au (b:=false) (ds:=[mI (bE l b.toNat) n,.int (a.toNat:Int)]) (ac em (ac (by rw[ea];rfl) an)) (CZ h8 (by omega))) em ?z]
 ·rfl
 case z=>
  unfold mI
  rw[nQ,Nk Nj]
  congr 2
  rw[Oh]
  constructor
  ·intro h
   have h:mk (iC (bE l b.toNat) a.toNat) n=mk (bE l b.toNat) n:=by omega
   have:=mk_eq.mp h a.toNat (by omega)
   unfold iC bE at this
   rw[ea,eb] at this
   simpa using this
  ·intro h
   have:mk (iC (bE l b.toNat) a.toNat) n=mk (bE l b.toNat) n:=mk_eq.mpr λi hi=>by
    unfold iC bE
    by_cases e:i=a.toNat
    ·rw[e,ea,eb];simp[h]
    ·simp[e]
   rw[this]
def Cm:List D->FR:=aS 2 2 (jU DQ)
def Hd {n:Nat}{l:List Pr}{t:Pr}(h8:n<=8)(h:(0<=t.1/\t.1 < n)/\(0<=t.2/\t.2 < n)):Cm [cy n (bE l),ao t]=.ok (.bool (decide (t∈l))) false:=by
 show fin (jU DQ [.fz (cy n (bE l)),.fz (ao t)] 0)=_
 unfold jU
 rw[c9,au (ds:=[cy n (bE l),.int t.1,.int t.2]) (β1:=0) rfl (Ip h8 h.1 h.2)];rfl
def Hv {f g:Nat->Bool}{n:Nat}:mk f n ||| mk g n=mk (λi=>f i || g i) n:=by
 apply O4
 intro i
 rw[Nat.testBit_or,iE,iE,iE]
 by_cases h:i < n <;> simp[h]
noncomputable def ID:List D->FR:=aS 4 2 (kY DQ wL)
def L7 {n:Nat}{l:List Pr}{t:Pr}(h8:n<=8)(h:(0<=t.1/\t.1 < n)/\(0<=t.2/\t.2 < n)):ID [cy n (bE l),ao t]=.ok (cy n (bE (putL n l t))) true:=by
 have e2:((t.2.toNat:Nat):Int)=t.2:=by omega
 show fin (kY DQ wL [.fz (cy n (bE l)),.fz (ao t),.no,.no] 0)=_
 unfold kY
 have el:f1 (gv 0) bX (vl [.fz (cy n (bE l)),.fz (ao t),.no,.no]) 0=.ok (.int n) 0:=by
  rw[iw (ds:=(List.range n).map λb=>mI (bE l b) n) rfl,Nb,Oa]
 have ec:aM 1 [1,0] (.nm 0) (cD (f1 (gv 0) bX)) (ie (cz (f2 (gv 0) (f2 (gv 1) (cst (.int 0)) aV) (cJ false))) (fP (aw DQ (aa (gv 2) (aa (f2 (gv 1) (cst (.int 0)) aV) (aa (gv 0) ag)))))) (gv 0) (vl [.fz (cy n (bE l)),.fz (ao t),.no,.no]) 0=.ok (.list (((iu n).filter λx=>lE l t.1 x).map int)) 0:=by
  refine cj (l:=iu n) (e:=int) (λx=>lE l t.1 x) int ?_ (by rw[kJ];omega) λx hx=>⟨[.da (.int x),.da (ao t),.da (cy n (bE l))],rfl,?_,λ_=>rfl⟩
  ·rw[<-sQ];exact cU (n:=n) el (by omega)
  ·have hx:=dS.mp hx
   have:=Ef (cG (neg:=false) (fa:=gv 0) (fb:=f2 (gv 1) (cst (.int 0)) aV) (vs:=[.da (.int x),.da (ao t),.da (cy n (bE l))]) (β:=0) (i:=x) (j:=t.1) rfl rfl) (cM (au (F:=DQ) (fr:=aa (gv 2) (aa (f2 (gv 1) (cst (.int 0)) aV) (aa (gv 0) ag))) (vs:=[.da (.int x),.da (ao t),.da (cy n (bE l))]) (β:=0) (ds:=[cy n (bE l),.int t.1,.int x]) rfl (Ip h8 h.1 hx)))
   rw[this]
   congr 1
   unfold lE
   rw[Nk Nj]
   congr 1
   rw[Oh];exact⟨Eq.symm,Eq.symm⟩
 rw[aL (env':=[.fz (cy n (bE l)),.fz (ao t),.fz (.list (((iu n).filter λx=>lE l t.1 x).map int)),.no]) (β':=0) (by rw[cR,ec];rfl)]
 have em:f2 (gv 0) (f2 (gv 1) (cst (.int 1)) aV) aV (vl [.fz (cy n (bE l)),.fz (ao t),.fz (.list (((iu n).filter λx=>lE l t.1 x).map int)),.no]) 0=.ok (mI (bE l t.2.toNat) n) 0:=by
  refine az (x:=cy n (bE l)) (y:=.int t.2) rfl (az rfl rfl rfl) ?_
  have:=CS (n:=n) (M:=bE l) (b:=t.2.toNat) (by omega)
  rw[e2] at this
  exact this
 rw[aL (env':=[.fz (cy n (bE l)),.fz (ao t),.fz (.list (((iu n).filter λx=>lE l t.1 x).map int)),.fz (mI (iC (bE l t.2.toNat) t.2.toNat) n)]) (β':=0) (by
  rw[cR,au (b:=false) (ds:=[mI (bE l t.2.toNat) n,.int (t.2.toNat:Int)]) (β1:=0) (ac em (ac (by rw[e2];rfl) an)) (CZ h8 (by omega))];rfl)]
 have ed:aM 2 [2,3] (.two 0 1) (Fl (gv 0)) jm (KY (cz (f2 (gv 0) (gv 2) (lH false))) (f2 (gv 1) (gv 3) K5) (gv 1)) (vl [.fz (cy n (bE l)),.fz (ao t),.fz (.list (((iu n).filter λx=>lE l t.1 x).map int)),.fz (mI (iC (bE l t.2.toNat) t.2.toNat) n)]) 0=.ok (cy n (bE (putL n l t))) 0:=by
  unfold cy
  refine cm (l:=List.range n) (e:=λb=>.tuple [.int b,mI (bE l b) n]) (λb=>mI (bE (putL n l t) b) n) ?_ (by rw[Oa];omega) λb hb=>⟨[.da (.int b),.da (mI (bE l b) n),.da (.list (((iu n).filter λx=>lE l t.1 x).map int)),.da (mI (iC (bE l t.2.toNat) t.2.toNat) n)],rfl,?_⟩
  ·show R.ok (eT ((List.range n).map λb=>mI (bE l b) n)) 0=_
   congr 1
   unfold eT
   refine List.ext_getElem (by simp) λi h1 h2=>by simp
  ·have hbn:=NR.mp hb
   have hmem:decide ((b:Int)∈(iu n).filter λx=>lE l t.1 x)=lE l t.1 b:=by
    rw[NS,NC,Nq]
    exact⟨λh=>h.2,λh=>⟨dS.mpr ⟨by omega,by omega⟩,h⟩⟩
   have et:cz (f2 (gv 0) (gv 2) (lH false)) [.da (.int b),.da (mI (bE l b) n),.da (.list (((iu n).filter λx=>lE l t.1 x).map int)),.da (mI (iC (bE l t.2.toNat) t.2.toNat) n)] 0=.ok (lE l t.1 b) 0:=by
    rw[<-hmem]
    exact cO _ _ _ _ (az (x:=.int b) (y:=.list (((iu n).filter λx=>lE l t.1 x).map int)) rfl rfl (wG false b _))
   rw[HS,et]
   show (if lE l t.1 b=true then _ else _)=_
   have key:∀a,a < n->bE (putL n l t) b a=(bE l b a || (lE l a t.2 && lE l t.1 b)):=λa ha=>by
    unfold bE
    rw[NS,NC,lL ⟨⟨by simp only;omega,by simp only;omega⟩,⟨by simp only;omega,by simp only;omega⟩⟩,Oj,Ny,NC]
   by_cases c:lE l t.1 b=true
   ·rw[Nc c]
    refine az (x:=mI (bE l b) n) (y:=mI (iC (bE l t.2.toNat) t.2.toNat) n) rfl rfl ?_
    show some (int (Builtin.bitOr _ _))=_
    rw[tw,Hv]
    unfold mI
    congr 3
    rw[mk_eq]
    intro a ha
    rw[key a ha,c,Bool.and_true]
    unfold iC lE bE
    rw[e2]
    congr 1
    rw[Bool.or_comm]
    congr 1
    rw[Oh];omega
   ·rw[Nk c]
    show R.ok (mI (bE l b) n) 0=_
    unfold mI
    congr 3
    rw[mk_eq]
    intro a ha
    rw[key a ha]
    have c:lE l t.1 b=false:=by simpa using c
    rw[c,Bool.and_false,Bool.or_false]
 rw[vF,ed];rfl
def nA (l:List Pr)(p q:Pr):Bool:=decide (p.1=q.2) || decide ((p.1,q.2)∈l)
def Bh:List D->FR:=aS 3 3 k7
theorem DJ (n:Nat)(l:List Pr)(p q:Pr):Bh [ah n l,ao p,ao q]=.ok (.bool (nA l p q)) false:=by
 show fin (k7 [.fz (ah n l),.fz (ao p),.fz (ao q)] 0)=_
 unfold k7
 have i0:f2 (gv 1) (cst (.int 0)) aV (vl [.fz (ah n l),.fz (ao p),.fz (ao q)]) 0=.ok (.int p.1) 0:=az (x:=ao p) (y:=.int 0) rfl rfl rfl
 have i1:f2 (gv 2) (cst (.int 1)) aV (vl [.fz (ah n l),.fz (ao p),.fz (ao q)]) 0=.ok (.int q.2) 0:=az (x:=ao q) (y:=.int 1) rfl rfl rfl
 have e1:f2 (f2 (gv 1) (cst (.int 0)) aV) (f2 (gv 2) (cst (.int 1)) aV) (cJ false) (vl [.fz (ah n l),.fz (ao p),.fz (ao q)]) 0=.ok (.bool (decide (p.1=q.2))) 0:=az i0 i1 (nQ false p.1 q.2)
 have e2:f2 (bY (aa (f2 (gv 1) (cst (.int 0)) aV) (aa (f2 (gv 2) (cst (.int 1)) aV) ag))) (f2 (gv 0) (cst (.int 1)) aV) (lH false) (vl [.fz (ah n l),.fz (ao p),.fz (ao q)]) 0=.ok (.bool (decide ((p.1,q.2)∈l))) 0:=az (x:=ao (p.1,q.2)) (fw i0 i1) (Lk (n:=n) (l:=l) rfl) (mK false (p.1,q.2) l)
 rw[c9]
 unfold nA
 cases c:decide (p.1=q.2) with
 |true=>rw[c] at e1;rw[LZ e1];rfl
 |false=>rw[c] at e1;rw[Mr e1 e2];rfl
def B0 (l:List Pr)(ps:List Pr):Bool:=(List.range ps.length).all λi=>nA l (ps.getD (if i=0 then ps.length - 1 else i - 1) (0,0)) (ps.getD i (0,0))
def DN {i:Nat}{L:List Nat}{f:VF D}{env:En}{β β':Int}{ds es:List D}(hi:env[i]? =some (.ow (.list ds)))(hf:f (vl env) β=.ok (.list es) β')(hL:(aY L env)[i]? =some (.ow (.list ds)))(hz:ds.length + es.length<=10000) :
  AU i L f env β=.nx ((aY L env).set i (.ow (.list (ds ++ es)))) β':=by
 unfold AU
 rw[Nc (by rw[hi];rfl),hf]
 exact uI hL (Nc (by rw[NV];omega))
def putAll (n:Nat)(l:List Pr)(put:List Pr):List Pr:=put.foldl (putL n) l
theorem qG {n:Nat}{U:Int->Prop}:∀{put l:List Pr},(∀u v,(u,v)∈l->U u->U v)->(∀t,t∈put->U t.2->U t.1)->∀u v,(u,v)∈putAll n l put->U u->U v
 | [],l,h0,_=>h0
 |t :: put,l,h0,h1=>by
  have q:∀u v,lE l u v=true->U u->U v:=λu v h hu=>by
   rcases gy.mp h with rfl |h
   ·exact hu
   ·exact h0 _ _ h hu
  refine qG (put:=put) (l:=putL n l t) (λu v h hu=>?_) (λx hx=>h1 x (Nn _ hx))
  rcases oR h with h | ⟨a,b⟩
  ·exact h0 _ _ h hu
  ·exact q _ _ b (h1 t (Np ..) (q _ _ a hu))
def K4 (l:List Pr)(p:List Pr):Prop:=∀i a b,p[i]? =some a->p[i + 1]? =some b->nA l a b=true
structure RI (l put:List Pr)(t:Pr)(ph:List (List Pr))(left:List Pr)(at':Nat):Prop where
 pth:∀p,p∈ph->∃q,p=t :: q/\(∀x,x∈q->x∈put/\¬x∈left)/\p.Nodup/\K4 l p
 lft:∀x,x∈left->x∈put
 rch:∀x,x∈put->x∈left\/∃p,p∈ph/\p.getLast? =some x
 fst:∃p,p∈ph/\p.getLast? =some t
 old:∀i p s,i < at'->ph[i]? =some p->p.getLast? =some s->nA l s t=false/\∀x,x∈left->nA l s x=false
 cnt:ph.length + left.length=put.length + 1
 le:at'<=ph.length
def RI.lt {n:Nat}{l put:List Pr}{t:Pr}{ph:List (List Pr)}{left:List Pr}{k:Nat}(R:RI l put t ph left k)(O:OM.Ord n l)(hb:t∈putAll n l put):k < ph.length:=by
 apply Classical.byContradiction
 intro hn
 have hk:k=ph.length:=by have:=R.le;omega
 have idx:∀p,p∈ph->∃i:Nat,i < k/\ph[i]? =some p:=λp hp=>by
  obtain⟨i,hi⟩:=N5.mp hp
  exact⟨i,by rw[hk];exact (Ng.mp hi).1,hi⟩
 have key:=qG (n:=n) (U:=λx=>∃s:Pr,(∃p,p∈ph/\p.getLast? =some s)/\lE l s.1 x=true) (put:=put) (l:=l) (by
  rintro u v h ⟨s,hs,hl⟩
  exact⟨s,hs,tY O hl (gy.mpr (.inr h))⟩) (by
  rintro x hx ⟨s,⟨p,hp,hs⟩,hl⟩
  rcases R.rch x hx with h |h
  ·obtain⟨i,hi,hpi⟩:=idx p hp
   have h2:nA l s x=false:=(R.old i p s hi hpi hs).2 x h
   have hl:nA l s x=true:=hl
   rw[h2] at hl;cases hl
  ·exact⟨x,h,gy.mpr (.inl rfl)⟩) t.1 t.2 hb ⟨t,R.fst,gy.mpr (.inl rfl)⟩
 obtain⟨s,⟨p,hp,hs⟩,hl⟩:=key
 obtain⟨i,hi,hpi⟩:=idx p hp
 have h2:nA l s t=false:=(R.old i p s hi hpi hs).1
 have hl:nA l s t=true:=hl
 rw[h2] at hl;cases hl
theorem zf {α:Type}(f:α->Bool):∀L:List α,(L.filter f).length + (L.filter λx=> !f x).length=L.length
 | []=>rfl
 |x :: L=>by
  have:=zf f L
  cases h:f x <;> simp[List.filter_cons,h] <;> omega
def DY {l p:List Pr}{s x:Pr}(h:K4 l p)(hs:p.getLast? =some s)(hx:nA l s x=true):K4 l (p ++ [x]):=by
 intro i a b ha hb
 have hl:p≠ []:=λe=>by rw[e] at hs;cases hs
 have hpos:=List.length_pos_iff.mpr hl
 by_cases c:i + 1 < p.length
 ·rw[NI (by omega)] at ha
  rw[NI c] at hb
  exact h i a b ha hb
 ·by_cases d:i + 1=p.length
  ·rw[NI (by omega)] at ha
   rw[NO (by omega),d,Nat.sub_self] at hb
   cases hb
   rw[O9,show p.length - 1=i by omega,ha] at hs
   cases hs
   exact hx
  ·rw[Oq (by rw[NF,NY];omega)] at hb
   cases hb
def RI.step {l put:List Pr}{t s:Pr}{ph:List (List Pr)}{left p fr:List Pr}{k:Nat}(R:RI l put t ph left k)(htp:¬t∈put)(hp:ph[k]? =some p)(hs:p.getLast? =some s)(hst:nA l s t=false)(hfr:left.filter (λx=>nA l s x)=fr):RI l put t (ph ++ fr.map λx=>p ++ [x]) (left.filter λx=> !decide (x∈fr)) (k + 1):=by
 have hpm:p∈ph:=N5.mpr ⟨k,hp⟩
 have hk:k < ph.length:=(Ng.mp hp).1
 have mfr:∀x,x∈fr↔x∈left/\nA l s x=true:=λx=>by rw[<-hfr];exact Nq
 have mlf:∀x,x∈(left.filter λx=> !decide (x∈fr))↔x∈left/\¬x∈fr:=λx=>by rw[Nq];simp
 refine⟨λr hr=>?_,λx hx=>R.lft x ((mlf x).mp hx).1,λx hx=>?_,?_,λi r s' hi hr hs'=>?_,?_,?_⟩
 ·rcases Nz.mp hr with hr |hr
  ·obtain⟨q,e,h1,h2,h3⟩:=R.pth r hr
   exact⟨q,e,λx hx=>⟨(h1 x hx).1,λhm=>(h1 x hx).2 ((mlf x).mp hm).1⟩,h2,h3⟩
  ·obtain⟨x,hx,rfl⟩:=NN.mp hr
   obtain⟨q,e,h1,h2,h3⟩:=R.pth p hpm
   have hxf:=(mfr x).mp hx
   refine⟨q ++ [x],by rw[e];rfl,λy hy=>?_,?_,DY h3 hs hxf.2⟩
   ·rcases Nz.mp hy with hy |hy
    ·exact⟨(h1 y hy).1,λhm=>(h1 y hy).2 ((mlf y).mp hm).1⟩
    ·rw[NG] at hy;subst hy
     exact⟨R.lft _ hxf.1,λhm=>((mlf _).mp hm).2 hx⟩
   ·refine List.nodup_append.mpr ⟨h2,by simp,λa ha b hb eab=>?_⟩
    rw[NG] at hb;subst hb;subst eab
    rw[e] at ha
    rcases Nh.mp ha with rfl |ha
    ·exact htp (R.lft _ hxf.1)
    ·exact (h1 _ ha).2 hxf.1
 ·rcases R.rch x hx with h | ⟨r,h1,h2⟩
  ·by_cases c:x∈fr
   ·exact .inr ⟨p ++ [x],Nz.mpr (.inr (NN.mpr ⟨x,c,rfl⟩)),by simp⟩
   ·exact .inl ((mlf x).mpr ⟨h,c⟩)
  ·exact .inr ⟨r,Nz.mpr (.inl h1),h2⟩
 ·obtain⟨r,h1,h2⟩:=R.fst
  exact⟨r,Nz.mpr (.inl h1),h2⟩
 ·rw[NI (by omega)] at hr
  by_cases c:i=k
  ·subst c
   rw[hp] at hr;cases hr
   rw[hs] at hs';cases hs'
   refine⟨hst,λx hx=>?_⟩
   obtain⟨a,b⟩:=(mlf x).mp hx
   cases z:nA l s x with
   |false=>rfl
   |true=>exact absurd ((mfr x).mpr ⟨a,z⟩) b
  ·obtain⟨a,b⟩:=R.old i r s' (by omega) hr hs'
   exact⟨a,λx hx=>b x ((mlf x).mp hx).1⟩
 ·have h1:=zf (λx=>nA l s x) left
  have h2:(left.filter λx=> !decide (x∈fr))=left.filter λx=> !nA l s x:=Pu λx hx=>by
   congr 1
   rw[NS,NC,mfr x]
   exact⟨λh=>h.2,λh=>⟨hx,h⟩⟩
  rw[h2,NF,Nb,<-hfr]
  have:=R.cnt
  omega
 ·rw[NF];omega
theorem yE:∀{q put:List Pr},q.Nodup->(∀x,x∈q->x∈put)->q.length<=put.length
 | [],_,_,_=>N3 _
 |x :: q,put,nd,h=>by
  have nd:=N2.mp nd
  have hx:=h x (Np ..)
  have:=yE (q:=q) (put:=put.erase x) nd.2 λy hy=>(List.mem_erase_of_ne (λe=>nd.1 (by rw[<-e];exact hy))).mpr (h y (Nn _ hy))
  rw[Pe hx] at this
  have:=List.length_pos_of_mem hx
  rw[N1];omega
abbrev pD (p:List Pr):D:=.list (p.map ao)
def C1 {fs:List Pr}{s:Pr}(h:fs.getLast? =some s):lG (fs.map ao) (-1)=some (ao s):=by
 have hl:fs≠ []:=λe=>by rw[e] at h;cases h
 have hpos:=List.length_pos_iff.mpr hl
 unfold lG rN
 rw[Nk (by omega),Nc (by simp;omega)]
 show (fs.map ao)[((-1:Int) + (((fs.map ao).length:Nat):Int)).toNat]? =_
 rw[show ((-1:Int) + (((fs.map ao).length:Nat):Int)).toNat=fs.length - 1 by simp;omega,Nm,<-O9,h];rfl
def zO {ph:List (List Pr)}{p:List Pr}{k:Nat}(h:ph[k]? =some p):lG (ph.map pD) (k:Int)=some (pD p):=by
 have hk:k < ph.length:=(Ng.mp h).1
 rw[mC,oX hk]
 have:ph[k]=p:=by rw[M9 hk] at h;exact Option.some.inj h
 rw[this];rfl
noncomputable def I0:List D->FR:=aS 7 3 (jZ Bh)
def Il {l p:List Pr}{s:Pr}(h:K4 l p)(hs:p.getLast? =some s){t:Pr}{q:List Pr}(e:p=t :: q)(hst:nA l s t=true):B0 l p=true:=by
 unfold B0
 rw[NQ]
 intro i hi
 have hi:=NR.mp hi
 by_cases c:i=0
 ·subst c
  rw[Nc rfl,Nr,<-O9,hs,e]
  exact hst
 ·rw[Nk c]
  refine h (i - 1) _ _ ?_ ?_
  ·rw[Nr,M9 (by omega)];rfl
  ·rw[show i - 1 + 1=i by omega,Nr,M9 hi];rfl
def Lw {n:Nat}{l put:List Pr}{t:Pr}(O:OM.Ord n l)(hz:put.length<=100)(htp:¬t∈put)(hb:t∈putAll n l put):∃r,I0 [ah n l,.tuple (put.map ao),ao t]=.ok (.list (r.map ao)) false/\(∀x,x∈r->x=t\/x∈put)/\r.Nodup/\r≠ []/\B0 l r=true:=by
 show ∃r,fin (jZ Bh [.fz (ah n l),.fz (.tuple (put.map ao)),.fz (ao t),.no,.no,.no,.no] 0)=_/\_
 unfold jZ
 rw[aL (env':=[.fz (ah n l),.fz (.tuple (put.map ao)),.fz (ao t),.ow (.list ([[t]].map pD)),.no,.no,.no]) (β':=0) (by
  rw[lQ,lp (ds:=[pD [t]]) (ac (lp (ds:=[ao t]) (ac rfl an)) an)];rfl)]
 rw[aL (env':=[.fz (ah n l),.fz (.tuple (put.map ao)),.fz (ao t),.ow (.list ([[t]].map pD)),.fz (.tuple (put.map ao)),.no,.no]) (β':=0) (by rfl)]
 rw[aL (env':=[.fz (ah n l),.fz (.tuple (put.map ao)),.fz (ao t),.ow (.list ([[t]].map pD)),.fz (.tuple (put.map ao)),.fz (.int ((0:Nat):Int)),.no]) (β':=0) (by rfl)]
 obtain⟨env',β',ew,ph,left,k,p,s,s6,x4,rfl,rfl,R,hp,hs,hst⟩:=jt (L:=[0] ++ ((([] ++ []) ++ []) ++ ([2] ++ []))) (t:=kB (fP (aw Bh (aa (gv 0) (aa (f2 (f2 (gv 3) (gv 5) aV) (f1 (cst (.int 1)) pz) aV) (aa (gv 2) ag))))))
  (m:=aJ (bO 6 ([] ++ [0]) (aM 1 [0,3,5] (.nm 0) (bL (gv 4)) (fP (aw Bh (aa (gv 1) (aa (f2 (f2 (gv 2) (gv 3) aV) (f1 (cst (.int 1)) pz) aV) (aa (gv 0) ag))))) (gv 0)))
   (aJ (bO 4 ([] ++ []) (aM 1 [6] (.nm 0) (bL (gv 4)) (cz (f2 (gv 0) (gv 1) (lH true))) (gv 0)))
   (aJ (AU 3 ([] ++ []) (aM 1 [3,5] (.nm 0) (bL (gv 6)) jm (f2 (f2 (gv 1) (gv 2) aV) (cC (aa (gv 0) ag)) ic)))
   (bO 5 ([] ++ []) (f2 (gv 5) (cst (.int 1)) bZ)))))
  (λm env b=>∃ph left k s6,∃q4:List D->D,(q4=PyData.list\/q4=PyData.tuple)/\env= [.fz (ah n l),.fz (.tuple (put.map ao)),.fz (ao t),.ow (.list (ph.map pD)),.fz (q4 (left.map ao)),.fz (.int ((k:Nat):Int)),s6]/\b=0/\RI l put t ph left k/\m=put.length + 1 - k)
  (λenv b=>∃ph left k p s s6 x4,env= [.fz (ah n l),.fz (.tuple (put.map ao)),.fz (ao t),.ow (.list (ph.map pD)),.fz x4,.fz (.int ((k:Nat):Int)),s6]/\b=0/\RI l put t ph left k/\ph[k]? =some p/\p.getLast? =some s/\nA l s t=true)
  (n:=1000) (k:=put.length + 1) (env:=[.fz (ah n l),.fz (.tuple (put.map ao)),.fz (ao t),.ow (.list ([[t]].map pD)),.fz (.tuple (put.map ao)),.fz (.int ((0:Nat):Int)),.no]) (β:=0) (by omega)
  ⟨[[t]],put,0,.no,PyData.tuple,.inr rfl,rfl,rfl,⟨λp hp=>by
    rw[NG] at hp;subst hp
    exact⟨[],rfl,(λx hx=>by cases hx),by simp,(λi a b _ hb=>by simp at hb)⟩,λx hx=>hx,λx hx=>.inl hx,⟨[t],by simp,rfl⟩,λi p s hi=>by omega,by simp;omega,by omega⟩,by omega⟩ (by
   rintro m env b ⟨ph,left,k,s6,q4,h4,rfl,rfl,R,rfl⟩
   have hk:=R.lt O hb
   obtain⟨p,hp⟩:∃p,ph[k]? =some p:=⟨_,M9 hk⟩
   have hpm:p∈ph:=N5.mpr ⟨k,hp⟩
   obtain⟨q,eq,hq,hnd,hch⟩:=R.pth p hpm
   obtain⟨s,hs⟩:∃s,p.getLast? =some s:=⟨_,List.getLast?_eq_some_getLast (by rw[eq];exact List.cons_ne_nil _ _)⟩
   have hcnt:=R.cnt
   have hpl:p.length<=put.length + 1:=by
    have h1:q.length<=put.length:=by
     rw[eq] at hnd
     exact yE (N2.mp hnd).2 λx hx=>(hq x hx).1
    rw[eq,N1];omega
   have el:∀s6:Sl,f2 (f2 (gv 3) (gv 5) aV) (f1 (cst (.int 1)) pz) aV (vl [.fz (ah n l),.fz (.tuple (put.map ao)),.fz (ao t),.ow (.list (ph.map pD)),.fz (q4 (left.map ao)),.fz (.int ((k:Nat):Int)),s6]) 0=.ok (ao s) 0:=λs6=>az (x:=pD p) (y:=.int (-1)) (az (x:=.list (ph.map pD)) (y:=.int k) rfl rfl (zO hp)) rfl (C1 hs)
   have et:kB (fP (aw Bh (aa (gv 0) (aa (f2 (f2 (gv 3) (gv 5) aV) (f1 (cst (.int 1)) pz) aV) (aa (gv 2) ag))))) (vl [.fz (ah n l),.fz (.tuple (put.map ao)),.fz (ao t),.ow (.list (ph.map pD)),.fz (q4 (left.map ao)),.fz (.int ((k:Nat):Int)),s6]) 0=.ok (!nA l s t) 0:=bz (cM (au (F:=Bh) (ds:=[ah n l,ao s,ao t]) (b:=false) (ac rfl (ac (el s6) (ac rfl an))) (DJ n l s t)))
   refine⟨_,_,et,?_⟩
   cases hst:nA l s t with
   |true=>exact .inl ⟨rfl,ph,left,k,p,s,s6,_,rfl,rfl,R,hp,hs,hst⟩
   |false=>
    refine .inr ⟨rfl,?_⟩
    show ∃env2 β2 k',aJ _ _ [.fz (ah n l),.fz (.tuple (put.map ao)),.fz (ao t),.ow (.list (ph.map pD)),.fz (q4 (left.map ao)),.fz (.int ((k:Nat):Int)),s6] 0=.nx env2 β2/\k' < put.length + 1 - k/\_
    generalize hfr:left.filter (λx=>nA l s x)=fr
    have hfl:fr.length<=left.length:=by rw[<-hfr];exact NZ _ _
    have e6:aM 1 [0,3,5] (.nm 0) (bL (gv 4)) (fP (aw Bh (aa (gv 1) (aa (f2 (f2 (gv 2) (gv 3) aV) (f1 (cst (.int 1)) pz) aV) (aa (gv 0) ag))))) (gv 0) (vl [.fz (ah n l),.fz (.tuple (put.map ao)),.fz (ao t),.ow (.list (ph.map pD)),.fz (q4 (left.map ao)),.fz (.int ((k:Nat):Int)),s6]) 0=.ok (.list (fr.map ao)) 0:=by
     rw[<-hfr]
     refine cj (l:=left) (e:=ao) (λx=>nA l s x) ao (by rcases h4 with h4 |h4 <;> rw[h4] <;> rfl) (by omega) λx hx=>⟨[.da (ao x),.da (ah n l),.da (.list (ph.map pD)),.da (.int ((k:Nat):Int))],rfl,?_,λ_=>rfl⟩
     have e2:f2 (f2 (gv 2) (gv 3) aV) (f1 (cst (.int 1)) pz) aV [.da (ao x),.da (ah n l),.da (.list (ph.map pD)),.da (.int ((k:Nat):Int))] 0=.ok (ao s) 0:=az (x:=pD p) (y:=.int (-1)) (az (x:=.list (ph.map pD)) (y:=.int k) rfl rfl (zO hp)) rfl (C1 hs)
     exact cM (au (F:=Bh) (ds:=[ah n l,ao s,ao x]) (b:=false) (ac rfl (ac e2 (ac rfl an))) (DJ n l s x))
    rw[aL (env':=[.fz (ah n l),.fz (.tuple (put.map ao)),.fz (ao t),.ow (.list (ph.map pD)),.fz (q4 (left.map ao)),.fz (.int ((k:Nat):Int)),.fz (.list (fr.map ao))]) (β':=0) (by rw[cR,e6];rfl)]
    have e4:aM 1 [6] (.nm 0) (bL (gv 4)) (cz (f2 (gv 0) (gv 1) (lH true))) (gv 0) (vl [.fz (ah n l),.fz (.tuple (put.map ao)),.fz (ao t),.ow (.list (ph.map pD)),.fz (q4 (left.map ao)),.fz (.int ((k:Nat):Int)),.fz (.list (fr.map ao))]) 0=.ok (.list ((left.filter λx=> !decide (x∈fr)).map ao)) 0:=by
     refine cj (l:=left) (e:=ao) (λx=> !decide (x∈fr)) ao (by rcases h4 with h4 |h4 <;> rw[h4] <;> rfl) (by omega) λx hx=>⟨_,rfl,?_,λ_=>rfl⟩
     exact cO _ _ _ _ (az (x:=ao x) (y:=.list (fr.map ao)) rfl rfl (y0 true x fr))
    have R':=R.step htp hp hs hst hfr
    generalize hlf:(left.filter λx=> !decide (x∈fr))=left' at e4 R'
    rw[aL (env':=[.fz (ah n l),.fz (.tuple (put.map ao)),.fz (ao t),.ow (.list (ph.map pD)),.fz (.list (left'.map ao)),.fz (.int ((k:Nat):Int)),.fz (.list (fr.map ao))]) (β':=0) (by rw[cR,e4];rfl)]
    have e3:aM 1 [3,5] (.nm 0) (bL (gv 6)) jm (f2 (f2 (gv 1) (gv 2) aV) (cC (aa (gv 0) ag)) ic) (vl [.fz (ah n l),.fz (.tuple (put.map ao)),.fz (ao t),.ow (.list (ph.map pD)),.fz (.list (left'.map ao)),.fz (.int ((k:Nat):Int)),.fz (.list (fr.map ao))]) 0=.ok (.list ((fr.map λx=>p ++ [x]).map pD)) 0:=by
     rw[Pn]
     refine cm (l:=fr) (e:=ao) (λx=>pD (p ++ [x])) rfl (by omega) λx hx=>⟨[.da (ao x),.da (.list (ph.map pD)),.da (.int ((k:Nat):Int))],rfl,?_⟩
     refine az (x:=pD p) (y:=.list [ao x]) (az (x:=.list (ph.map pD)) (y:=.int k) rfl rfl (zO hp)) (lp (ds:=[ao x]) (ac rfl an)) ?_
     rw[p4 (by rw[Nb,NY];omega)]
     show some (PyData.list (p.map ao ++ [x].map ao))=_
     rw[<-NT]
    rw[aL (env':=[.fz (ah n l),.fz (.tuple (put.map ao)),.fz (ao t),.ow (.list ((ph ++ fr.map λx=>p ++ [x]).map pD)),.fz (.list (left'.map ao)),.fz (.int ((k:Nat):Int)),.fz (.list (fr.map ao))]) (β':=0) ?g3]
    case g3=>
     rw[DN (i:=3) (ds:=ph.map pD) (by rfl) e3 (by rfl) (by rw[Nb,Nb,Nb];omega),<-NT];rfl
    refine⟨[.fz (ah n l),.fz (.tuple (put.map ao)),.fz (ao t),.ow (.list ((ph ++ fr.map λx=>p ++ [x]).map pD)),.fz (.list (left'.map ao)),.fz (.int ((k + 1:Nat):Int)),.fz (.list (fr.map ao))],0,put.length + 1 - (k + 1),?_,by omega,_,_,_,_,PyData.list,.inl rfl,rfl,rfl,R',rfl⟩
    rw[show ((k + 1:Nat):Int)=(k:Int) + 1 by omega];rfl)
 obtain⟨q,eq,hq,hnd,hch⟩:=R.pth p (N5.mpr ⟨k,hp⟩)
 refine⟨p,?_,λx hx=>?_,hnd,by rw[eq];exact List.cons_ne_nil _ _,Il hch hs eq hst⟩
 ·rw[aL ew,c9,az (x:=.list (ph.map pD)) (y:=.int k) (d:=pD p) (β1:=0) (β2:=0) rfl rfl (zO hp)];rfl
 ·rw[eq] at hx
  rcases Nh.mp hx with h |h
  ·exact .inl h
  ·exact .inr (hq x h).1
def Bj (l:List Pr)(p:Pr):Bool:=((l.filter λq=>decide (q.2=p.1)).all λq=>decide ((q.1,p.2)∈l)) && ((l.filter λq=>decide (q.1=p.2)).all λq=>decide ((p.1,q.2)∈l))
def um:List D->FR:=aS 4 3 la
theorem ED {n:Nat}{l:List Pr}(hl:l.length<=1000)(a b:Int):um [ah n l,.int a,.int b]=.ok (.bool (Bj l (a,b))) false:=by
 show fin (la [.fz (ah n l),.fz (.int a),.fz (.int b),.no] 0)=_
 unfold la
 rw[aL (env':=[.fz (ah n l),.fz (.int a),.fz (.int b),.fz (.tuple (l.map ao))]) (β':=0) (by rfl)]
 have e1:aM 2 [1,2,3] (.two 0 1) (bL (gv 3)) (cz (f2 (gv 1) (gv 2) (cJ false))) (f2 (bY (aa (gv 0) (aa (gv 3) ag))) (gv 4) (lH false)) [.da (ah n l),.da (.int a),.da (.int b),.da (.tuple (l.map ao))] 0=.ok (.list ((l.filter λq=>decide (q.2=a)).map λq=>PyData.bool (decide ((q.1,b)∈l)))) 0:=
  cj (l:=l) (e:=ao) (λq=>decide (q.2=a)) (λq=>PyData.bool (decide ((q.1,b)∈l))) rfl hl λq hq=>⟨_,rfl,cG (neg:=false) (i:=q.2) (j:=a) rfl rfl,λ_=>az (fw (a:=q.1) (b:=b) rfl rfl) rfl (mK false (q.1,b) l)⟩
 have e2:aM 2 [2,1,3] (.two 0 1) (bL (gv 3)) (cz (f2 (gv 0) (gv 2) (cJ false))) (f2 (bY (aa (gv 3) (aa (gv 1) ag))) (gv 4) (lH false)) [.da (ah n l),.da (.int a),.da (.int b),.da (.tuple (l.map ao))] 0=.ok (.list ((l.filter λq=>decide (q.1=b)).map λq=>PyData.bool (decide ((a,q.2)∈l)))) 0:=
  cj (l:=l) (e:=ao) (λq=>decide (q.1=b)) (λq=>PyData.bool (decide ((a,q.2)∈l))) rfl hl λq hq=>⟨_,rfl,cG (neg:=false) (i:=q.1) (j:=b) rfl rfl,λ_=>az (fw (a:=a) (b:=q.2) rfl rfl) rfl (mK false (a,q.2) l)⟩
 have t1:kB (fP (f1 (aM 2 [1,2,3] (.two 0 1) (bL (gv 3)) (cz (f2 (gv 1) (gv 2) (cJ false))) (f2 (bY (aa (gv 0) (aa (gv 3) ag))) (gv 4) (lH false))) (bo λbs=>bs.all id))) (vl [.fz (ah n l),.fz (.int a),.fz (.int b),.fz (.tuple (l.map ao))]) 0=.ok (!((l.filter λq=>decide (q.2=a)).all λq=>decide ((q.1,b)∈l))) 0:=bz (cM (Cp e1))
 unfold Bj
 dsimp only
 cases c:((l.filter λq=>decide (q.2=a)).all λq=>decide ((q.1,b)∈l)) with
 |false=>
  rw[c] at t1
  rw[gp (d:=.bool false) (b:=false) (β':=0) ?g]
  case g=>rw[jB t1];rfl
  rfl
 |true=>
  rw[c] at t1
  rw[aL (env':=[.fz (ah n l),.fz (.int a),.fz (.int b),.fz (.tuple (l.map ao))]) (β':=0) ?g]
  case g=>rw[iK t1];rfl
  rw[c9]
  show fin (toS (f1 (aM 2 [2,1,3] (.two 0 1) (bL (gv 3)) (cz (f2 (gv 0) (gv 2) (cJ false))) (f2 (bY (aa (gv 3) (aa (gv 1) ag))) (gv 4) (lH false))) (bo λbs=>bs.all id) [.da (ah n l),.da (.int a),.da (.int b),.da (.tuple (l.map ao))] 0) _)=_
  rw[Cp e2];rfl
noncomputable def u6:List D->FR:=aS 1 1 (mS qD um)
def BR {n:Nat}{l:List Pr}(O:OM.Ord n l):u6 [ah n l]=.ok (.list (((pE n l).filter (Bj l)).map ao)) true:=by
 have hl:=uE O
 have e:aM 2 [0] (.two 0 1) (bL (aw qD (aa (gv 0) ag))) (fP (aw um (aa (gv 2) (aa (gv 0) (aa (gv 1) ag))))) (bY (aa (gv 0) (aa (gv 1) ag))) [.da (ah n l)] 0=.ok (.list (((pE n l).filter (Bj l)).map ao)) 0:=by
  have hi:bL (aw qD (aa (gv 0) ag)) [.da (ah n l)] 0=.ok ((pE n l).map ao) 0:=by
   unfold bL
   rw[au (ds:=[ah n l]) rfl (Fw O)];rfl
  exact cj (l:=pE n l) (e:=ao) (Bj l) ao hi (by have:=E4 (l:=l) O.hi;omega) λp hp=>⟨_,rfl,cM (au (ds:=[ah n l,.int p.1,.int p.2]) rfl (ED (by omega) p.1 p.2)),λ_=>fw rfl rfl⟩
 show fin (toS (aM 2 [0] (.two 0 1) (bL (aw qD (aa (gv 0) ag))) (fP (aw um (aa (gv 2) (aa (gv 0) (aa (gv 1) ag))))) (bY (aa (gv 0) (aa (gv 1) ag))) [.da (ah n l)] 0) _)=_
 rw[e];rfl
def ku (n:Nat)(l put:List Pr)(t:Pr):putAll n l (put ++ [t])=putL n (putAll n l put) t:=by unfold putAll;rw[List.foldl_append];rfl
theorem yK {n:Nat}:∀{put l:List Pr} {p:Pr},((0<=p.1/\p.1 < n)/\(0<=p.2/\p.2 < n))->p∈l->p∈putAll n l put
 | [],l,p,_,h=>h
 |t :: put,l,p,hr,h=>yK (put:=put) (l:=putL n l t) hr ((lL hr).mpr (.inl h))
def DO {n:Nat}{l:List Pr}{r:List Int}{t:Pr}(hR:Row n l r)(h:r.idxOf t.2 < r.idxOf t.1):Row n (putL n l t) r:=by
 refine⟨hR.1,?_⟩
 have hf:=hR.2
 unfold C4 at hf ⊢
 rw[NQ] at hf ⊢
 intro p hp
 have q:∀x y:Int,lE l x y=true->r.idxOf x<=r.idxOf y:=λx y hxy=>by
  rcases gy.mp hxy with e |hm
  ·rw[e];exact Na _
  ·exact O1 (OH (hf _ hm))
 rcases oR hp with hm | ⟨a,b⟩
 ·exact hf p hm
 ·have:=q _ _ a
  have:=q _ _ b
  exact Ni (by omega)
def rM {n:Nat}{l:List Pr}{r:List Int}{p:Pr}(hR:Row n l r)(h:p∈l):r.idxOf p.1 < r.idxOf p.2:=by
 have hf:=hR.2
 unfold C4 at hf
 exact OH (NQ.mp hf p h)
structure Pt (n:Nat)(l:List Pr)(put:List Pr):Prop where
 ord:OM.Ord n (putAll n l put)
 tr:∀p,p∈put->p∈pE n l
 tnd:∀p,p∈put->(p.2,p.1)∈putAll n l put
def xS {n:Nat}{l:List Pr}(O:OM.Ord n l):Pt n l []:=⟨O,(λp h=>by cases h),λp h=>by cases h⟩
def Pt.more {n:Nat}{l put:List Pr}{t:Pr}(h:Pt n l put)(ht:t∈pE n l)(hb:¬t∈putAll n l put):Pt n l (put ++ [t]):=by
 obtain⟨hr,ha⟩:=dR.mp ht
 have hn:lE (putAll n l put) t.1 t.2=false:=by
  cases z:lE (putAll n l put) t.1 t.2 with
  |false=>rfl
  |true=>
   rcases gy.mp z with e |e
   ·unfold zR at ha;rw[e] at ha;simp at ha
   ·exact absurd e hb
 refine⟨by rw[ku];exact EK h.ord hn,λp hp=>?_,λp hp=>?_⟩
 ·rcases Nz.mp hp with z |z
  ·exact h.tr p z
  ·rw[NG] at z;subst z;exact ht
 ·rw[ku]
  rcases Nz.mp hp with z |z
  ·exact zE h.ord (h.tnd p z)
  ·rw[NG] at z;subst z;exact qh hr
def ua (n:Nat)(l put:List Pr):D:=.tuple [cy n (bE (putAll n l put)),.tuple (put.map ao)]
def eY (n:Nat)(l:List Pr)(pts:List (List Pr)):D:=.list (pts.map (ua n l))
def AV:List D->FR:=aS 2 2 (jV DQ)
def KI {n:Nat}{l:List Pr}{t:Pr}(h8:n<=8)(h:(0<=t.1/\t.1 < n)/\(0<=t.2/\t.2 < n)):AV [cy n (bE l),ao t]=.ok (.bool (decide ((t.2,t.1)∈l))) false:=by
 show fin (jV DQ [.fz (cy n (bE l)),.fz (ao t)] 0)=_
 unfold jV
 exact eZ (iI (au (ds:=[cy n (bE l),.int t.2,.int t.1]) (ac rfl (ac (az (x:=ao t) (y:=.int 1) rfl rfl rfl) (ac (az (x:=ao t) (y:=.int 0) rfl rfl rfl) an))) (Ip h8 h.2 h.1)) rfl)
def AL (n:Nat)(l:List Pr)(pts:List (List Pr))(t:Pr):Bool:=pts.any λput=>decide ((t.2,t.1)∈putAll n l put)
noncomputable def An:List D->FR:=aS 2 2 (jO Cm)
def JY {n:Nat}{l:List Pr}{pts:List (List Pr)}{t:Pr}(h8:n<=8)(hz:pts.length<=100)(h:(0<=t.1/\t.1 < n)/\(0<=t.2/\t.2 < n)):∃k:Nat,An [eY n l pts,ao t]=.ok (.int k) false:=by
 refine⟨(pts.filter λput=> !decide (t∈putAll n l put)).length,?_⟩
 show fin (jO Cm [.fz (eY n l pts),.fz (ao t)] 0)=_
 unfold jO
 have ec:aM 2 [1] (.two 0 1) (bL (gv 0)) (kB (fP (aw Cm (aa (gv 0) (aa (gv 2) ag))))) (gv 0) (vl [.fz (eY n l pts),.fz (ao t)]) 0=.ok (.list ((pts.filter λput=> !decide (t∈putAll n l put)).map λput=>cy n (bE (putAll n l put)))) 0:=
  cj (l:=pts) (e:=ua n l) (λput=> !decide (t∈putAll n l put)) (λput=>cy n (bE (putAll n l put))) rfl (by omega) λput _=>⟨[.da (cy n (bE (putAll n l put))),.da (.tuple (put.map ao)),.da (ao t)],rfl,bz (cM (au (ds:=[cy n (bE (putAll n l put)),ao t]) rfl (Hd h8 h))),λ_=>rfl⟩
 refine eZ (iI (fo ec ?_) rfl)
 show some (int _)=_
 rw[Nb]
def IQ {ir:Nat}{fa fb:VF D}{vs:List Nv}{β:Int}{ts:List Pr}{dr:D}(h:fa vs β=.ok (.list (ts.map ao)) β)(hr:vs[ir]? =some (.da dr))(hne:ts≠ [])(hk:∀t,t∈ts->∃k:Nat,fb [.da (ao t),.da dr] β=.ok (.int k) β):∃t,t∈ts/\zo ir fa fb vs β=.ok (ao t) β:=by
 have hl:0 < ts.length:=List.length_pos_iff.mpr hne
 unfold zo
 rw[h]
 dsimp only[R.bnd]
 rw[show dat vs[ir]? =some dr by rw[hr];rfl]
 dsimp only
 have hall:(ts.map ao).all (λd=>(lO fb dr β d).isSome)=true:=by
  rw[NQ]
  intro d hd
  obtain⟨t,ht,rfl⟩:=NN.mp hd
  obtain⟨k,e⟩:=hk t ht
  unfold lO
  rw[e];rfl
 rw[Nc ⟨by rw[Nb];exact hl,hall⟩]
 have hb:=(qp (ks:=(ts.map ao).map λd=>(lO fb dr β d).getD 0) (by rw[Nb,Nb];exact hl)).1
 generalize xf ((ts.map ao).map λd=>(lO fb dr β d).getD 0)=b at hb
 rw[Nb,Nb] at hb
 refine⟨ts[b],Ot hb,?_⟩
 rw[Nm,M9 hb];rfl
section
variable {m m':SF}{env:En}{β β1:Int}{Q:SO->Prop}{L:List Nat}
def Ek {t:Tg}{fi:VF (List D)}{ds:List D}(Pd:D->Prop)(I:Nat->En->Int->Prop)(hi:fi (vl env) β=.ok ds β1)(h0:I 0 (aY L env) β1)
  (hs:∀i d env β,ds[i]? =some d->I i env β->∃env1,hW t d env=some env1/\WP (m env1 β) λs=>(∃d β2,s=.rt d false β2/\Pd d)\/∃env2 β2,s=.nx env2 β2/\I (i + 1) env2 β2)
  (kr:∀d β,Pd d->Q (.rt d false β)) (k:∀env β,I ds.length env β->WP (m' env β) Q):WP (aJ (gE t L fi m) m' env β) Q:=by
 have key:∀(k i:Nat),i + k=ds.length->∀env β,I i env β->(∃d β2,lD t m (ds.drop i) env β=.rt d false β2/\Pd d)\/∃env2 β2,lD t m (ds.drop i) env β=.nx env2 β2/\I ds.length env2 β2:=by
  intro k
  induction k with
  |zero=>
   intro i hik env β h
   have:i=ds.length:=by omega
   subst this
   rw[drop_length]
   exact .inr ⟨env,β,rfl,h⟩
  |succ k ih=>
   intro i hik env β h
   have hlt:i < ds.length:=by omega
   obtain⟨env1,e1,⟨h1⟩⟩:=hs i ds[i] env β (M9 hlt) h
   rw[O8 hlt]
   rcases h1 with⟨d,β2,e2,hp⟩ | ⟨env2,β2,e2,h2⟩
   ·exact .inl ⟨d,β2,by unfold lD;rw[e1];dsimp only;rw[e2],hp⟩
   ·have e3:lD t m (ds[i] :: ds.drop (i + 1)) env β=lD t m (ds.drop (i + 1)) env2 β2:=by conv=>lhs;unfold lD;rw[e1];dsimp only;rw[e2]
    rw[e3]
    exact ih (i + 1) (by omega) env2 β2 h2
 have e0:=key ds.length 0 (by omega) _ _ h0
 rw[List.drop_zero] at e0
 rcases e0 with⟨d,β2,e,hp⟩ | ⟨env2,β2,e,h2⟩
 ·exact⟨by rw[gp ((ig hi).trans e)];exact kr d β2 hp⟩
 ·exact wp_seq ((ig hi).trans e) (k _ _ h2)
end
def cx (pts:List (List Pr))(i:Nat)(t:Pr):List (List Pr):=pts.take i ++ [pts.getD i [] ++ [t]] ++ pts.drop (i + 1)
def nF {pts:List (List Pr)}{i:Nat}{t:Pr}(hi:i < pts.length):(cx pts i t).length=pts.length:=by
 unfold cx;rw[NF,NF,NU,OT,NY];omega
def k6 {pts:List (List Pr)}{i:Nat}{t:Pr}{put:List Pr}(hi:pts[i]? =some put)(j:Nat):(cx pts i t)[j]? =if j=i then some (put ++ [t]) else pts[j]?:=by
 have hlt:=(Ng.mp hi).1
 have hg:pts.getD i []=put:=by rw[Nr,hi];rfl
 unfold cx
 rw[hg]
 by_cases h:j < i
 ·rw[Nk (by omega),OG,NI (by rw[NU];omega),List.getElem?_take,Nc h]
 ·rw[OG,NO (by rw[NU];omega),NU,Nat.min_eq_left (by omega)]
  by_cases e:j=i
  ·rw[Nc e,show j - i=0 by omega];rfl
  ·rw[Nk e,NO (by rw[NY];omega),NY,List.getElem?_drop]
   congr 1
   omega
def Ft (n:Nat)(l:List Pr)(pts:List (List Pr))(rs:List (List Int)):Prop:=rs.length=pts.length/\∀(i:Nat) (r:List Int) (put:List Pr),rs[i]? =some r->pts[i]? =some put->Row n (putAll n l put) r
def Tn (r:List Int)(t:Pr):Prop:=r.idxOf t.2 < r.idxOf t.1
def Lr (n:Nat)(l:List Pr)(pts:List (List Pr))(left:List Pr):Prop:=∀rs,Ft n l pts rs->∃t,t∈left/\∀r,r∈rs->¬Tn r t
def Km (n:Nat)(l:List Pr)(pts:List (List Pr))(left:List Pr)(d:D):Prop:=∃rs,d=.tuple [.str "rows",.list (rs.map tupI)]/\Ft n l pts rs/\∀t,t∈left->∃r,r∈rs/\Tn r t
def Ea (n:Nat)(l:List Pr):Nat->D->List (List Pr)->Prop
 | 0,_,_=>False
 |k + 1,d,pts=>(∃(i:Nat) (r q:List Pr),d=.tuple [.str "ring",.int i,.list (r.map ao)]/\pts[i]? =some q/\(∀x,x∈r->x∈q)/\r≠ []/\B0 l r=true/\r.length<=100/\∀x,x∈r->x∈pE n l)\/
  ∃(t:Pr) (zs:List D),d=.tuple [.str "turn",ao t,.tuple zs]/\t∈pE n l/\zs.length=pts.length/\∀i z,zs[i]? =some z->Ea n l k z (cx pts i t)
noncomputable def GY (F:List D->FR):List D->FR:=aS 7 5 (jj F Cm I0 ID)
noncomputable def DC (F:List D->FR):List D->FR:=aS 8 3 (fJ (GY F) AV IV An)
def BF {n:Nat}{l:List Pr}{pts:List (List Pr)}{i:Nat}{put:List Pr}(hi:pts[i]? =some put):aV (eY n l pts) (.int (i:Int))=some (ua n l put):=gm (by rw[Nm,hi];rfl)
def Cs {n:Nat}{l:List Pr}{pts:List (List Pr)}{i:Nat}{t:Pr}{put:List Pr}(hi:pts[i]? =some put):eY n l (cx pts i t)=.list ((pts.map (ua n l)).take i ++ [PyData.tuple [cy n (bE (putL n (putAll n l put) t)),.tuple (put.map ao ++ [ao t])]] ++ (pts.map (ua n l)).drop (i + 1)):=by
 have hg:pts.getD i []=put:=by rw[Nr,hi];rfl
 unfold eY cx
 rw[hg,NT,NT,List.map_take,List.map_drop]
 show PyData.list (_ ++ [ua n l (put ++ [t])] ++ _)=_
 unfold ua
 rw[ku,NT];rfl
def Bw {n:Nat}{l:List Pr}{F:List D->FR}{pts:List (List Pr)}{left:D}{i:Nat}{put:List Pr}{t:Pr}{Q:SO->Prop}(h8:n<=8)(hi:pts[i]? =some put)(hr:(0<=t.1/\t.1 < n)/\(0<=t.2/\t.2 < n))
  (k:WP (aJ (gZ ([5] ++ ([4] ++ [])) (λvs β=>fP (aw Cm (aa (gv 5) (aa (gv 4) ag))) vs β)
    (a9 (bY (aa (cst (.str "ring")) (aa (gv 3) (aa (aw I0 (aa (gv 0) (aa (gv 6) (aa (gv 4) ag)))) ag)))))
    jh)
   (a9 (aw F (aa (gv 0) (aa (gv 1) (aa (f2 (f2 (vI (gv 2) (λ_ β=>.ok none β) (wV (gv 3))) (cC (aa (bY (aa (aw ID (aa (gv 5) (aa (gv 4) ag))) (aa (f2 (gv 6) (bY (aa (gv 4) ag)) mW) ag))) ag)) ic) (vI (gv 2) (wV (f2 (gv 3) (cst (.int 1)) bZ)) (λ_ β=>.ok none β)) ic) ag))))) [.fz (ah n l),.fz left,.fz (eY n l pts),.fz (.int (i:Int)),.fz (ao t),.fz (cy n (bE (putAll n l put))),.fz (.tuple (put.map ao))] 0) Q) :
  WP (jj F Cm I0 ID [.fz (ah n l),.fz left,.fz (eY n l pts),.fz (.int (i:Int)),.fz (ao t),.no,.no] 0) Q:=by
 unfold jj
 refine dG (d:=cy n (bE (putAll n l put))) (β1:=0) (az (x:=ua n l put) (y:=.int 0) (az (x:=eY n l pts) (y:=.int i) rfl rfl (BF hi)) rfl rfl) ?_
 refine dG (d:=.tuple (put.map ao)) (β1:=0) (az (x:=ua n l put) (y:=.int 1) (az (x:=eY n l pts) (y:=.int i) rfl rfl (BF hi)) rfl rfl) ?_
 exact wp_at [.fz (ah n l),.fz left,.fz (eY n l pts),.fz (.int (i:Int)),.fz (ao t),.fz (cy n (bE (putAll n l put))),.fz (.tuple (put.map ao))] rfl k
def KA {n:Nat}{l:List Pr}{F:List D->FR}{pts:List (List Pr)}{left:D}{i:Nat}{put:List Pr}{t:Pr}(O:OM.Ord n l)(hi:pts[i]? =some put)(hp:Pt n l put)(hz:put.length<=100)(ht:t∈pE n l)(hb:t∈putAll n l put) :
  ∃r,GY F [ah n l,left,eY n l pts,.int (i:Int),ao t]=.ok (.tuple [.str "ring",.int i,.list (r.map ao)]) false/\(∀x,x∈r->x=t\/x∈put)/\r.Nodup/\r≠ []/\B0 l r=true:=by
 obtain⟨hr,ha⟩:=dR.mp ht
 have htp:¬t∈put:=λh=>hp.ord.irr _ (hp.ord.tr _ _ _ hb (hp.tnd t h))
 obtain⟨r,er,h1,h2,h3,h4⟩:=Lw O hz htp hb
 refine⟨r,?_,h1,h2,h3,h4⟩
 show fin (jj F Cm I0 ID [.fz (ah n l),.fz left,.fz (eY n l pts),.fz (.int (i:Int)),.fz (ao t),.no,.no] 0)=_
 refine eZ (Bw O.hi hi hr ?_)
 have eb:fP (aw Cm (aa (gv 5) (aa (gv 4) ag))) (vl [.fz (ah n l),.fz left,.fz (eY n l pts),.fz (.int (i:Int)),.fz (ao t),.fz (cy n (bE (putAll n l put))),.fz (.tuple (put.map ao))]) 0=.ok true 0:=by
  rw[<-Ni hb]
  exact cM (au (ds:=[cy n (bE (putAll n l put)),ao t]) rfl (Hd O.hi hr))
 refine lj eb (om (j0 (ds:=[.str "ring",.int i,.list (r.map ao)]) (ac rfl (ac rfl (ac (au (ds:=[ah n l,.tuple (put.map ao),ao t]) rfl er) an))) (by simp)) rfl)
def JI {n:Nat}{l:List Pr}{F:List D->FR}{pts:List (List Pr)}{left d:D}{i:Nat}{put:List Pr}{t:Pr}{b:Bool}(h8:n<=8)(hi:pts[i]? =some put)(hl:pts.length<=100)(hz:put.length<=100)(ht:t∈pE n l)(hb:¬t∈putAll n l put)(hF:F [ah n l,left,eY n l (cx pts i t)]=.ok d b) :
  GY F [ah n l,left,eY n l pts,.int (i:Int),ao t]=.ok d false:=by
 obtain⟨hr,ha⟩:=dR.mp ht
 show fin (jj F Cm I0 ID [.fz (ah n l),.fz left,.fz (eY n l pts),.fz (.int (i:Int)),.fz (ao t),.no,.no] 0)=_
 refine eZ (Bw h8 hi hr ?_)
 have eb:fP (aw Cm (aa (gv 5) (aa (gv 4) ag))) (vl [.fz (ah n l),.fz left,.fz (eY n l pts),.fz (.int (i:Int)),.fz (ao t),.fz (cy n (bE (putAll n l put))),.fz (.tuple (put.map ao))]) 0=.ok false 0:=by
  rw[<-Nx hb]
  exact cM (au (ds:=[cy n (bE (putAll n l put)),ao t]) rfl (Hd h8 hr))
 refine bS eb (wp_at [.fz (ah n l),.fz left,.fz (eY n l pts),.fz (.int (i:Int)),.fz (ao t),.fz (cy n (bE (putAll n l put))),.fz (.tuple (put.map ao))] rfl ?_)
 refine iI (au (ds:=[ah n l,left,eY n l (cx pts i t)]) (ac rfl (ac rfl (ac ?_ an))) hF) rfl
 rw[Cs hi]
 have a1:aw ID (aa (gv 5) (aa (gv 4) ag)) (vl [.fz (ah n l),.fz left,.fz (eY n l pts),.fz (.int (i:Int)),.fz (ao t),.fz (cy n (bE (putAll n l put))),.fz (.tuple (put.map ao))]) 0=.ok (cy n (bE (putL n (putAll n l put) t))) 0:=au (ds:=[cy n (bE (putAll n l put)),ao t]) rfl (L7 h8 hr)
 have a2:f2 (gv 6) (bY (aa (gv 4) ag)) mW (vl [.fz (ah n l),.fz left,.fz (eY n l pts),.fz (.int (i:Int)),.fz (ao t),.fz (cy n (bE (putAll n l put))),.fz (.tuple (put.map ao))]) 0=.ok (.tuple (put.map ao ++ [ao t])) 0:=FO (a:=put.map ao) (b:=[ao t]) rfl (tp (ac rfl an)) (by rw[Nb];simp;omega)
 refine qw (qw (qv (ds:=pts.map (ua n l)) rfl rfl) (lp (ac (tp (ac a1 (ac a2 an))) an)) ?_) (uo (ds:=pts.map (ua n l)) rfl (JZ rfl)) ?_
 ·rw[NU,Nb];simp;omega
 ·rw[NF,NU,OT,Nb];simp;omega
open Classical in
noncomputable def rv (n:Nat)(l put:List Pr):List Int:=if h:OM.Ord n (putAll n l put) then Classical.choose (JO (late:=[]) h (by simp)) else []
def vN {n:Nat}{l put:List Pr}(h:OM.Ord n (putAll n l put)):IV [cy n (bE (putAll n l put)),.list []]=.ok (tupI (rv n l put)) false/\Row n (putAll n l put) (rv n l put):=by
 have:=Classical.choose_spec (JO (late:=[]) h (by simp))
 unfold rv
 rw[dif_pos h]
 exact⟨this.1,this.2.1⟩
def D0 (n:Nat)(l:List Pr)(pts:List (List Pr))(left:List Pr):List Pr:=left.filter λt=> !AL n l pts t
abbrev cE (n:Nat)(l:List Pr)(pts:List (List Pr))(left:List Pr)(s3 s4 s5 s6 s7:Sl):En:=[.fz (ah n l),.fz (.list (left.map ao)),.fz (eY n l pts),s3,s4,s5,s6,s7]
def EC {α:Type}{fa:VF D}{vs:List Nv}{β:Int}{l:List α}{f:α->Bool}(h:fa vs β=.ok (.list (l.map λq=>PyData.bool (f q))) β):f1 fa (bo λbs=>bs.any id) vs β=.ok (.bool (l.any f)) β:=fo h (by simp only[bo];rw[eQ];simp[List.any_map])
def FU {n:Nat}{l:List Pr}{pts:List (List Pr)}{left:List Pr}(h8:n<=8)(hl:pts.length<=100)(hz:left.length<=100)(ht:∀t,t∈left->t∈pE n l)(s3 s4 s5 s6 s7:Sl) :
  aM 1 [2] (.nm 0) (bL (gv 1)) (kB (fP (f1 (aM 2 [0] (.two 0 1) (bL (gv 1)) jm (aw AV (aa (gv 0) (aa (gv 2) ag)))) (bo λbs=>bs.any id)))) (gv 0) (vl (cE n l pts left s3 s4 s5 s6 s7)) 0=.ok (.list ((D0 n l pts left).map ao)) 0:=by
 refine cj (l:=left) (e:=ao) (λt=> !AL n l pts t) ao rfl (by omega) λt hm=>⟨[.da (ao t),.da (eY n l pts)],rfl,bz (cM ?_),λ_=>rfl⟩
 refine EC (l:=pts) (f:=λput=>decide ((t.2,t.1)∈putAll n l put)) ?_
 exact cm (l:=pts) (e:=ua n l) (λput=>PyData.bool (decide ((t.2,t.1)∈putAll n l put))) rfl (by omega) λput _=>⟨[.da (cy n (bE (putAll n l put))),.da (.tuple (put.map ao)),.da (ao t)],rfl,au (ds:=[cy n (bE (putAll n l put)),ao t]) rfl (KI h8 (dR.mp (ht t hm)).1)⟩
def Jy {n:Nat}{l:List Pr}{pts:List (List Pr)}{t:Pr}(h:AL n l pts t=true):∃(j:Nat) (put:List Pr),pts[j]? =some put/\(t.2,t.1)∈putAll n l put:=by
 unfold AL at h
 obtain⟨put,hm,hd⟩:=List.any_eq_true.mp h
 obtain⟨j,hj⟩:=N5.mp hm
 exact⟨j,put,hj,OH hd⟩
def Kk {n:Nat}{l:List Pr}{pts:List (List Pr)}{rs:List (List Int)}(h:Ft n l pts rs){j:Nat}{put:List Pr}(hj:pts[j]? =some put):∃r,rs[j]? =some r/\r∈rs/\Row n (putAll n l put) r:=by
 have hlt:=(Ng.mp hj).1
 have hl:=h.1
 have e:rs[j]? =some (rs[j]'(by omega)):=M9 (by omega)
 exact⟨_,e,Ot (by omega),h.2 j _ _ e hj⟩
def FP {n:Nat}{l:List Pr}{pts:List (List Pr)}{rs:List (List Int)}{t:Pr}(h:Ft n l pts rs)(ht:AL n l pts t=true):∃r,r∈rs/\Tn r t:=by
 obtain⟨j,put,hj,hm⟩:=Jy ht
 obtain⟨r,_,hr,hR⟩:=Kk h hj
 exact⟨r,hr,rM hR hm⟩
def EF {n:Nat}{l:List Pr}{pts:List (List Pr)}{rs:List (List Int)}{i:Nat}{t:Pr}{put:List Pr}(hi:pts[i]? =some put)(hP:∀q,q∈pts->Pt n l q)(h:Ft n l (cx pts i t) rs):Ft n l pts rs:=by
 have hlt:=(Ng.mp hi).1
 refine⟨by rw[h.1,nF hlt],λj r q hr hq=>?_⟩
 by_cases e:j=i
 ·subst e
  rw[hi] at hq;cases hq
  have:=h.2 j r (put ++ [t]) hr (by rw[k6 hi,Nc rfl])
  rw[ku] at this
  refine⟨this.1,?_⟩
  have hf:=this.2
  unfold C4 at hf ⊢
  rw[NQ] at hf ⊢
  exact λp hp=>hf p (zE (hP _ (Nw hi)).ord hp)
 ·exact h.2 j r q hr (by rw[k6 hi,Nk e];exact hq)
def Ed {n:Nat}{l:List Pr}{pts:List (List Pr)}{rs:List (List Int)}{i:Nat}{t:Pr}{put:List Pr}{r:List Int}(hi:pts[i]? =some put)(hr:rs[i]? =some r)(ht:Tn r t)(h:Ft n l pts rs):Ft n l (cx pts i t) rs:=by
 have hlt:=(Ng.mp hi).1
 refine⟨by rw[h.1,nF hlt],λj r' q hr' hq=>?_⟩
 rw[k6 hi] at hq
 by_cases e:j=i
 ·subst e
  rw[Nc rfl] at hq;cases hq
  rw[hr] at hr';cases hr'
  rw[ku]
  exact DO (h.2 j r put hr hi) ht
 ·rw[Nk e] at hq
  exact h.2 j r' q hr' hq
def Br (n:Nat)(l:List Pr)(pts:List (List Pr))(ud:List Pr)(t:Pr)(j:Nat):Prop:=∀rs r,Ft n l pts rs->rs[j]? =some r->Tn r t->∃u,u∈ud/\∀r,r∈rs->¬Tn r u
def xF:SeqAt.shaped (.str "rows")=true/\∀s∈([Str.ofString "rows",Str.ofString "ring",Str.ofString "turn"]:List Str),SeqAt.shaped (.str s)=true/\PyData.eqv (.str s) (.str "rows")=decide (s="rows"):=by decide +kernel
def nO {fa:VF D}{vs:List Nv}{β:Int}{s:Str}(hs:s∈([Str.ofString "rows",Str.ofString "ring",Str.ofString "turn"]:List Str)){neg:Bool}(h:fa vs β=.ok (.str s) β):cz (f2 fa (cst (.str "rows")) (cJ neg)) vs β=.ok (if neg then !decide (s="rows") else decide (s="rows")) β:=cO _ _ _ _ (az h rfl (by unfold cJ;rw[(xF.2 s hs).1,xF.1,(xF.2 s hs).2];cases neg <;> rfl))
theorem len0 {fa:VF D}{vs:List Nv}{β:Int}{ds:List D}(h:fa vs β=.ok (.list ds) β):cz (f2 (f1 fa bX) (cst (.int 0)) (cJ false)) vs β=.ok ds.isEmpty β:=by
 have:=cG (neg:=false) (fa:=f1 fa bX) (fb:=cst (.int 0)) (vs:=vs) (β:=β) (i:=ds.length) (j:=0) (iw h) rfl
 rw[this]
 cases ds with
 |nil=>rfl
 |cons d ds=>congr 1
def Gf {n:Nat}{l:List Pr}{F:List D->FR}{pts:List (List Pr)}{left:List Pr}(O:OM.Ord n l)(hl:pts.length<=64)(hP:∀put,put∈pts->Pt n l put)(ht:∀t,t∈left->t∈pE n l)(hz:left.length<=64)(hu:D0 n l pts left= []):∃d,DC F [ah n l,.list (left.map ao),eY n l pts]=.ok d false/\Km n l pts left d:=by
 have hR:Ft n l pts (pts.map (rv n l)):=⟨by rw[Nb],λi r put hr hp=>by
  rw[Nm,hp] at hr
  cases hr
  exact (vN (hP put (Nw hp)).ord).2⟩
 refine⟨.tuple [.str "rows",.list ((pts.map (rv n l)).map tupI)],?_,pts.map (rv n l),rfl,hR,λt hm=>?_⟩
 ·show fin (fJ (GY F) AV IV An (cE n l pts left .no .no .no .no .no) 0)=_
  unfold fJ
  have eu:=FU (pts:=pts) O.hi (by omega) (by omega) ht .no .no .no .no .no
  rw[hu] at eu
  refine eZ (dG eu (wp_at (cE n l pts left (.fz (.list [])) .no .no .no .no) rfl ?_))
  refine lj (len0 (ds:=[]) rfl) (om (j0 (ds:=[.str "rows",.list ((pts.map (rv n l)).map tupI)]) (ac rfl (ac ?_ an)) (by simp)) rfl)
  rw[Pn]
  exact cm (l:=pts) (e:=ua n l) (λput=>tupI (rv n l put)) rfl (by omega) λput hp=>⟨[.da (cy n (bE (putAll n l put))),.da (.tuple (put.map ao))],rfl,au (ds:=[cy n (bE (putAll n l put)),.list []]) (ac rfl (ac (lp (ds:=[]) an) an)) (vN (hP put hp).ord).1⟩
 ·have:AL n l pts t=true:=by
   cases c:AL n l pts t with
   |true=>rfl
   |false=>
    have:t∈D0 n l pts left:=Nq.mpr ⟨hm,by rw[c];rfl⟩
    rw[hu] at this;cases this
  exact FP hR this
theorem LD {n:Nat}{l:List Pr}(O:OM.Ord n l):∀(k:Nat) (pts:List (List Pr)) (left:List Pr),pts.length<=64->(∀put,put∈pts->Pt n l put)->(∀t,t∈left->t∈pE n l)->left.length<=64->(D0 n l pts left).length<=k->(∀put,put∈pts->put.length + k<=70)->
  ∃d,gO DC (k + 1) [ah n l,.list (left.map ao),eY n l pts]=.ok d false/\(Km n l pts left d\/((∃t zs,d=.tuple [.str "turn",ao t,.tuple zs]/\zs.length=pts.length)/\Ea n l (k + 1) d pts/\Lr n l pts left)):=by
 intro k
 induction k with
 |zero=>
  intro pts left hl hP ht hz hu hk
  obtain⟨d,e,h⟩:=Gf (F:=gO DC 0) O hl hP ht hz (List.length_eq_zero_iff.mp (by omega))
  exact⟨d,e,.inl h⟩
 |succ k ih=>
  intro pts left hl hP ht hz hu hk
  by_cases hu0:D0 n l pts left= []
  ·obtain⟨d,e,h⟩:=Gf (F:=gO DC (k + 1)) O hl hP ht hz hu0
   exact⟨d,e,.inl h⟩
  have eu:=FU (pts:=pts) O.hi (by omega) (by omega) ht .no .no .no .no .no
  have hud:∀t,t∈D0 n l pts left->t∈left/\AL n l pts t=false:=λt h=>by
   have:=Nq.mp h
   exact⟨this.1,by simpa using this.2⟩
  generalize hU:D0 n l pts left=ud at eu hu hu0 hud
  have hut:∀t,t∈ud->t∈pE n l:=λt h=>ht t (hud t h).1
  have huz:ud.length<=64:=by rw[<-hU];exact N8 (NZ _ _) hz
  obtain⟨t,htu,em⟩:=IQ (ir:=2) (fa:=gv 3) (fb:=aw An (aa (gv 1) (aa (gv 0) ag))) (vs:=vl (cE n l pts left (.fz (.list (ud.map ao))) .no .no .no .no)) (β:=0) (ts:=ud) (dr:=eY n l pts) rfl rfl hu0 λt h=>by
   obtain⟨j,e⟩:=JY (l:=l) (pts:=pts) O.hi (by omega) (dR.mp (hut t h)).1
   exact⟨j,au (ds:=[eY n l pts,ao t]) rfl e⟩
  have htt:=hut t htu
  have br:∀i,i < pts.length->∃d,GY (gO DC (k + 1)) [ah n l,.list (ud.map ao),eY n l pts,.int (i:Int),ao t]=.ok d false/\(Km n l pts left d\/((∃s y z,d=.tuple [.str s,y,z]/\(s="ring"\/s="turn"))/\Ea n l (k + 1) d (cx pts i t)/\Br n l pts ud t i)):=λi hi=>by
   obtain⟨put,hp⟩:∃put,pts[i]? =some put:=⟨_,M9 hi⟩
   have hpm:=Nw hp
   have hpk:=hk put hpm
   by_cases hb:t∈putAll n l put
   ·obtain⟨r,e,h1,h2,h3,h4⟩:=KA (F:=gO DC (k + 1)) (left:=.list (ud.map ao)) O hp (hP put hpm) (by omega) htt hb
    have hmr:∀x,x∈r->x∈put ++ [t]:=λx hx=>by
     rcases h1 x hx with h |h
     ·simp[h]
     ·simp[h]
    refine⟨_,e,.inr ⟨⟨_,_,_,rfl,.inl rfl⟩,.inl ⟨i,r,put ++ [t],rfl,by rw[k6 hp,Nc rfl],hmr,h3,h4,?_,λx hx=>?_⟩,λrs r' hf hr hT=>?_⟩⟩
    ·have:=yE h2 hmr
     rw[NF,NY] at this
     omega
    ·rcases h1 x hx with h |h
     ·rw[h];exact htt
     ·exact (hP put hpm).tr x h
    ·have:=rM (hf.2 i r' put hr hp) hb
     unfold Tn at hT
     omega
   ·have hlt:(D0 n l (cx pts i t) ud).length<=k:=by
     have hlt:(ud.filter λu=> !AL n l (cx pts i t) u).length < ud.length:=by
      rw[List.length_filter_lt_length_iff_exists]
      refine⟨t,htu,?_⟩
      have:AL n l (cx pts i t) t=true:=by
       unfold AL
       refine List.any_eq_true.mpr ⟨put ++ [t],N5.mpr ⟨i,by rw[k6 hp,Nc rfl]⟩,Ni ?_⟩
       rw[ku]
       exact qh (dR.mp htt).1
      rw[this];simp
     have e9:D0 n l (cx pts i t) ud=ud.filter λu=> !AL n l (cx pts i t) u:=rfl
     rw[e9];omega
    have hmem:∀q,q∈cx pts i t->q=put ++ [t]\/q∈pts:=λq hq=>by
     obtain⟨j,hj⟩:=N5.mp hq
     rw[k6 hp] at hj
     split at hj
     ·cases hj;exact .inl rfl
     ·exact .inr (Nw hj)
    obtain⟨d,e,h⟩:=ih (cx pts i t) ud (by rw[nF hi];exact hl) (λq hq=>by
     rcases hmem q hq with rfl |h
     ·exact (hP put hpm).more htt hb
     ·exact hP q h) hut huz hlt (λq hq=>by
     rcases hmem q hq with rfl |h
     ·rw[NF,NY];omega
     ·have:=hk q h;omega)
    refine⟨d,JI O.hi hp (by omega) (by omega) htt hb e,?_⟩
    rcases h with⟨rs,rfl,hf,hT⟩ | ⟨⟨t',zs,rfl,_⟩,hPap,hN⟩
    ·have hf':=EF hp hP hf
     refine .inl ⟨rs,rfl,hf',λu hu'=>?_⟩
     cases c:AL n l pts u with
     |true=>exact FP hf' c
     |false=>exact hT u (by rw[<-hU];exact Nq.mpr ⟨hu',by rw[c];rfl⟩)
    ·exact .inr ⟨⟨_,_,_,rfl,.inr rfl⟩,hPap,λrs r hf hr hT=>hN rs (Ed hp hr hT hf)⟩
  have W:WP (fJ (GY (gO DC (k + 1))) AV IV An (cE n l pts left .no .no .no .no .no) 0) λs=>∃d β,s=.rt d false β/\(Km n l pts left d\/((∃t zs,d=.tuple [.str "turn",ao t,.tuple zs]/\zs.length=pts.length)/\Ea n l (k + 1 + 1) d pts/\Lr n l pts left)):=by
   unfold fJ
   refine dG eu (wp_at (cE n l pts left (.fz (.list (ud.map ao))) .no .no .no .no) rfl ?_)
   have e0:=len0 (fa:=gv 3) (vs:=vl (cE n l pts left (.fz (.list (ud.map ao))) .no .no .no .no)) (β:=0) (ds:=ud.map ao) rfl
   rw[show (ud.map ao).isEmpty=false by cases ud with |nil=>exact absurd rfl hu0 |cons a b=>rfl] at e0
   refine bS e0 (wp_at (cE n l pts left (.fz (.list (ud.map ao))) .no .no .no .no) rfl ?_)
   refine dG em (wp_at (cE n l pts left (.fz (.list (ud.map ao))) (.fz (ao t)) .no .no .no) rfl ?_)
   refine FD (lp (ds:=[]) an) (wp_at (cE n l pts left (.fz (.list (ud.map ao))) (.fz (ao t)) (.ow (.list [])) .no .no) rfl ?_)
   refine Ek (ds:=dg 0 pts.length) (β1:=0) (Km n l pts left) (λi env β=>β=0/\∃zs s6 s7,env=cE n l pts left (.fz (.list (ud.map ao))) (.fz (ao t)) (.ow (.list zs)) s6 s7/\zs.length=i/\i<=pts.length/\∀j z,zs[j]? =some z->Ea n l (k + 1) z (cx pts j t)/\Br n l pts ud t j) ?_ ⟨rfl,[],.no,.no,rfl,rfl,N3 _,λj z h=>by simp at h⟩ ?_ (λd β h=>⟨d,β,rfl,.inl h⟩) ?_
   ·refine cU ?_ (by omega)
    rw[iw (ds:=pts.map (ua n l)) rfl,Nb]
   ·rintro i d env β hd ⟨rfl,zs,s6,s7,rfl,hzl,_,hzs⟩
    obtain⟨hi,rfl⟩:=ip hd
    rw[Og]
    refine⟨cE n l pts left (.fz (.list (ud.map ao))) (.fz (ao t)) (.ow (.list zs)) (.fz (.int (i:Int))) s7,rfl,?_⟩
    obtain⟨d,ed,hd⟩:=br i hi
    refine dG (d:=d) (β1:=0) (au (ds:=[ah n l,.list (ud.map ao),eY n l pts,.int (i:Int),ao t]) rfl ed) (wp_at (cE n l pts left (.fz (.list (ud.map ao))) (.fz (ao t)) (.ow (.list zs)) (.fz (.int (i:Int))) (.fz d)) rfl ?_)
    rcases hd with h | ⟨⟨s,y,z,rfl,hs⟩,hPap,hB⟩
    ·have h':=h
     obtain⟨rs,rfl,_⟩:=h'
     refine lj (nO (neg:=false) (s:="rows") (by simp) (az (x:=.tuple [.str "rows",.list (rs.map tupI)]) (y:=.int 0) rfl rfl rfl)) (yX ?_)
     exact⟨(λa b z=>by cases z),.inl ⟨_,_,rfl,h⟩⟩
    ·have hsm:s∈([Str.ofString "rows",Str.ofString "ring",Str.ofString "turn"]:List Str):=by rcases hs with h |h <;> simp[h]
     have e2:=nO (neg:=false) hsm (fa:=f2 (gv 7) (cst (.int 0)) aV) (vs:=vl (cE n l pts left (.fz (.list (ud.map ao))) (.fz (ao t)) (.ow (.list zs)) (.fz (.int (i:Int))) (.fz (.tuple [.str s,y,z])))) (β:=0) (az (x:=.tuple [.str s,y,z]) (y:=.int 0) rfl rfl rfl)
     have hne:decide (s="rows")=false:=by rcases hs with rfl |rfl <;> decide +kernel
     rw[hne] at e2
     refine bS e2 (wp_at (cE n l pts left (.fz (.list (ud.map ao))) (.fz (ao t)) (.ow (.list zs)) (.fz (.int (i:Int))) (.fz (.tuple [.str s,y,z]))) rfl (C0 ?_))
     refine HH (ds:=zs) rfl rfl rfl (by omega) (n9 (.inr ⟨_,_,rfl,rfl,zs ++ [.tuple [.str s,y,z]],_,_,rfl,by rw[NF,NY];omega,by omega,λj z' hj=>?_⟩))
     by_cases c:j < zs.length
     ·rw[NI c] at hj
      exact hzs j z' hj
     ·rw[NO (by omega)] at hj
      have hj0:j - zs.length=0:=by
       have:=(Ng.mp hj).1
       rw[NY] at this;omega
      rw[hj0] at hj
      cases hj
      have:j=i:=by omega
      subst this
      exact⟨hPap,hB⟩
   ·rintro env β ⟨rfl,zs,s6,s7,rfl,hzl,_,hzs⟩
    rw[eM] at hzl
    refine iI (j0 (ds:=[.str "turn",ao t,.tuple zs]) (ac rfl (ac rfl (ac (fo (x:=.list zs) rfl rfl) an))) (by simp)) ⟨_,_,rfl,.inr ⟨⟨t,zs,rfl,hzl⟩,.inr ⟨t,zs,rfl,htt,hzl,λj z hj=>(hzs j z hj).1⟩,λrs hf=>?_⟩⟩
    by_cases c:∃r,r∈rs/\Tn r t
    ·obtain⟨r,hr,hT⟩:=c
     obtain⟨j,hj⟩:=N5.mp hr
     have hjl:j < zs.length:=by
      have:=(Ng.mp hj).1
      have:=hf.1
      omega
     obtain⟨u,hu1,hu2⟩:=(hzs j _ (M9 hjl)).2 rs r hf hj hT
     exact⟨u,(hud u hu1).1,hu2⟩
    ·exact⟨t,(hud t htu).1,λr hr hT=>c ⟨r,hr,hT⟩⟩
  obtain⟨d,β,e,h⟩:=W.out
  refine⟨d,?_,h⟩
  show fin (fJ (GY (gO DC (k + 1))) AV IV An (cE n l pts left .no .no .no .no .no) 0)=_
  rw[e];rfl
abbrev xi (n:Nat)(l:List Pr):List Pr:=(pE n l).filter (Bj l)
noncomputable def IW:List D->FR:=aS 3 2 (pX Lq (gO DC 40) u6)
def Dm (n:Nat)(l:List Pr)(c:Nat):Prop:=∃rs:List (List Int),rs.length=c/\(∀r,r∈rs->Row n l r)/\∀t,t∈xi n l->∃r,r∈rs/\Tn r t
def xx {n:Nat}{l:List Pr}{c:Nat}{rs:List (List Int)}:Ft n l (List.replicate c []) rs↔rs.length=c/\∀r,r∈rs->Row n l r:=by
 constructor
 ·rintro⟨h1,h2⟩
  rw[NX] at h1
  refine⟨h1,λr hr=>?_⟩
  obtain⟨i,hi⟩:=N5.mp hr
  exact h2 i r [] hi (by rw[Oe,Nc (by have:=(Ng.mp hi).1;omega)])
 ·rintro⟨h1,h2⟩
  refine⟨by rw[NX];exact h1,λi r put hr hp=>?_⟩
  rw[Oe] at hp
  split at hp
  ·cases hp;exact h2 r (Nw hr)
  ·cases hp
def Fe {n:Nat}{l:List Pr}{c:Nat}:Lr n l (List.replicate c []) (xi n l)↔¬Dm n l c:=by
 constructor
 ·rintro h ⟨rs,h1,h2,h3⟩
  obtain⟨t,ht,hn⟩:=h rs (xx.mpr ⟨h1,h2⟩)
  obtain⟨r,hr,hT⟩:=h3 t ht
  exact hn r hr hT
 ·intro h rs hf
  refine Classical.byContradiction λhc=>h ?_
  obtain⟨h1,h2⟩:=xx.mp hf
  refine⟨rs,h1,h2,λt ht=>Classical.byContradiction λhn=>hc ⟨t,ht,λr hr hT=>hn ⟨r,hr,hT⟩⟩⟩
def Dm.mono {n:Nat}{l:List Pr}{c c':Nat}(O:OM.Ord n l)(h:Dm n l c)(hc:c<=c'):Dm n l c':=by
 obtain⟨rs,h1,h2,h3⟩:=h
 have hv:=(vN (n:=n) (l:=l) (put:=[]) O).2
 refine⟨rs ++ List.replicate (c' - c) (rv n l []),by rw[NF,NX];omega,λr hr=>?_,λt ht=>?_⟩
 ·rcases Nz.mp hr with h |h
  ·exact h2 r h
  ·rw[Od h];exact hv
 ·obtain⟨r,hr,hT⟩:=h3 t ht
  exact⟨r,Nz.mpr (.inl hr),hT⟩
def HF {n:Nat}{l:List Pr}(O:OM.Ord n l):Dm n l (xi n l).length:=by
 refine⟨(xi n l).map λt=>rv n l [t],by rw[Nb],λr hr=>?_,λt ht=>⟨rv n l [t],NN.mpr ⟨t,ht,rfl⟩,?_⟩⟩
 ·obtain⟨t,ht,rfl⟩:=NN.mp hr
  have htt:=(Nq.mp ht).1
  have hP:=(xS O).more htt (λh=>by
   have:=(dR.mp htt).2
   unfold zR at this
   have h:t∈l:=h
   simp[h] at this)
  have:=(vN hP.ord).2
  refine⟨this.1,?_⟩
  have hf:=this.2
  unfold C4 at hf ⊢
  rw[NQ] at hf ⊢
  exact λp hp=>hf p (yK (O.wn p hp) hp)
 ·have htt:=(Nq.mp ht).1
  have hP:=(xS O).more htt (λh=>by
   have:=(dR.mp htt).2
   unfold zR at this
   have h:t∈l:=h
   simp[h] at this)
  exact rM (vN hP.ord).2 (hP.tnd t (by simp))
def IT {n:Nat}{l:List Pr}(h6:n<=6):(xi n l).length<=36:=by
 refine N8 (NZ _ _) ?_
 unfold pE
 refine N8 (NZ _ _) ?_
 have:(OM.dq n).length=n * n:=gq n
 rw[this]
 exact OK h6 h6
def xc {d:D}{c:Nat}(h:c<=64):qP (.list [d]) (.int (c:Int))=some (.list (List.replicate c d)):=by
 have e:(List.replicate c [d]).flatten=List.replicate c d:=by
  clear h
  induction c with
  |zero=>rfl
  |succ c ih=>rw[N7,Ow,ih,N7];rfl
 have key:∀k:Int,0<=k->k<=64->qP (.list [d]) (.int k)=some (.list (List.replicate k.toNat [d]).flatten):=λk h0 h1=>Nc ⟨by omega,by omega,sz _ (by simp;omega)⟩
 rw[key c (by omega) (by omega),NP,e]
def Hk {n:Nat}{l:List Pr}{c:Nat}(O:OM.Ord n l)(hs:(xi n l).length<=39)(hc:c<=64):∃d,IW [ah n l,.int (c:Int)]=.ok d false/\((∃rs:List (List Int),d=.tuple [.str "rows",.list (rs.map tupI)]/\rs.length=c/\(∀r,r∈rs->Row n l r)/\∀t,t∈xi n l->∃r,r∈rs/\Tn r t)\/((∃t zs,d=.tuple [.str "turn",ao t,.tuple zs]/\zs.length=c)/\Ea n l 40 d (List.replicate c [])/\¬Dm n l c)):=by
 obtain⟨d,e,h⟩:=LD O 39 (List.replicate c []) (xi n l) (by rw[NX];exact hc) (λput hp=>by rw[Od hp];exact xS O) (λt ht=>(Nq.mp ht).1) (by omega) (N8 (NZ _ _) hs) (λput hp=>by rw[Od hp];simp)
 refine⟨d,?_,?_⟩
 ·show fin (pX Lq (gO DC 40) u6 [.fz (ah n l),.fz (.int (c:Int)),.no] 0)=_
  unfold pX
  refine eZ (dG (d:=ua n l []) (β1:=0) (j0 (ds:=[cy n (bE l),.tuple []]) (ac (au (ds:=[ah n l]) rfl (Mt O)) (ac (tp (ds:=[]) an) an)) (by simp)) (wp_at [.fz (ah n l),.fz (.int (c:Int)),.fz (ua n l [])] rfl ?_))
  refine iI (au (ds:=[ah n l,.list ((xi n l).map ao),eY n l (List.replicate c [])]) (ac rfl (ac (au (ds:=[ah n l]) rfl (BR O)) (ac (az (x:=.list [ua n l []]) (y:=.int c) (lp (ds:=[ua n l []]) (ac rfl an)) rfl ?_) an))) e) rfl
  show qP (.list [ua n l []]) (.int c)=some (eY n l (List.replicate c []))
  rw[xc hc]
  unfold eY
  rw[Pl]
 ·rcases h with⟨rs,rfl,hf,hT⟩ | ⟨⟨t,zs,rfl,hz⟩,hP,hN⟩
  ·obtain⟨h1,h2⟩:=xx.mp hf
   exact .inl ⟨rs,rfl,h1,h2,hT⟩
  ·exact .inr ⟨⟨t,zs,rfl,by rw[hz,NX]⟩,hP,Fe.mp hN⟩
noncomputable def J5:List D->FR:=aS 3 1 (fm jA IW)
structure FQ (n:Nat)(l:List Pr)(rs:List (List Int)):Prop where
 pos:1<=rs.length
 few:rs.length<=40
 row:∀r,r∈rs->Row n l r
 tn:∀t,t∈xi n l->∃r,r∈rs/\Tn r t
 least:∀c,1<=c->c < rs.length->¬Dm n l c
def FQ.dm {n:Nat}{l:List Pr}{rs:List (List Int)}(h:FQ n l rs):Dm n l rs.length:=⟨rs,rfl,h.row,h.tn⟩
def FQ.iff {n:Nat}{l:List Pr}{rs:List (List Int)}(h:FQ n l rs)(O:OM.Ord n l){c:Nat}(hc:1<=c):Dm n l c↔rs.length<=c:=⟨λd=>Nat.le_of_not_lt λz=>h.least c hc z d,λz=>h.dm.mono O z⟩
def LB {n:Nat}{l:List Pr}(O:OM.Ord n l)(hs:(xi n l).length<=39):∃rs,J5 [ah n l]=.ok (.list (rs.map tupI)) false/\FQ n l rs:=by
 have W:WP (fm jA IW [.fz (ah n l),.no,.no] 0) λs=>∃d β,s=.rt d false β/\∃rs:List (List Int),d=.list (rs.map tupI)/\FQ n l rs:=by
  unfold fm
  refine oi (au (ds:=[ah n l]) (ac rfl an) (qN O)) (wp_at [.fz (ah n l),.no,.no] rfl ?_)
  refine dG (d:=.int 1) (β1:=0) rfl (wp_at [.fz (ah n l),.fz (.int ((1:Nat):Int)),.no] rfl ?_)
  obtain⟨d1,e1,h1⟩:=Hk (c:=1) O hs (by omega)
  refine dG (d:=d1) (β1:=0) (au (ds:=[ah n l,.int ((1:Nat):Int)]) rfl e1) (wp_at [.fz (ah n l),.fz (.int ((1:Nat):Int)),.fz d1] rfl ?_)
  refine CD (λb env β=>β=0/\∃(c:Nat) (d:D),env= [.fz (ah n l),.fz (.int (c:Int)),.fz d]/\b=60 - c/\1<=c/\c<=40/\(∀c',1<=c'->c' < c->¬Dm n l c')/\((∃rs:List (List Int),d=.tuple [.str "rows",.list (rs.map tupI)]/\rs.length=c/\(∀r,r∈rs->Row n l r)/\∀t,t∈xi n l->∃r,r∈rs/\Tn r t)\/((∃t zs,d=.tuple [.str "turn",ao t,.tuple zs]/\zs.length=c)/\Ea n l 40 d (List.replicate c [])/\¬Dm n l c)))
   (λenv β=>β=0/\∃(c:Nat) (rs:List (List Int)),env= [.fz (ah n l),.fz (.int (c:Int)),.fz (.tuple [.str "rows",.list (rs.map tupI)])]/\FQ n l rs) 59 (by omega) ⟨rfl,1,d1,rfl,rfl,by omega,by omega,λc' h1 h2=>by omega,h1⟩ ?_ ?_
  ·rintro b env β ⟨rfl,c,d,rfl,rfl,hc1,hc2,hn,h⟩
   rcases h with⟨rs,rfl,hl,hr,ht⟩ | ⟨⟨t,zs,rfl,hz⟩,hP,hD⟩
   ·refine⟨_,_,nO (neg:=true) (s:="rows") (by simp) (az (x:=.tuple [.str "rows",.list (rs.map tupI)]) (y:=.int 0) rfl rfl rfl),.inl ⟨by rfl,rfl,c,rs,rfl,⟨by omega,by omega,hr,ht,λc' h1 h2=>hn c' h1 (by omega)⟩⟩⟩
   ·refine⟨_,_,nO (neg:=true) (s:="turn") (by simp) (az (x:=.tuple [.str "turn",ao t,.tuple zs]) (y:=.int 0) rfl rfl rfl),.inr ⟨by decide +kernel,wp_at [.fz (ah n l),.fz (.int (c:Int)),.fz (.tuple [.str "turn",ao t,.tuple zs])] rfl ?_⟩⟩
    have hc:c < 40:=by
     refine Nat.lt_of_not_le λz=>hD ((HF O).mono O (by omega))
    refine dG (d:=.int ((c + 1:Nat):Int)) (β1:=0) (JZ rfl) (wp_at [.fz (ah n l),.fz (.int ((c + 1:Nat):Int)),.fz (.tuple [.str "turn",ao t,.tuple zs])] rfl ?_)
    obtain⟨d2,e2,h2⟩:=Hk (c:=c + 1) O hs (by omega)
    refine C0 (dG (d:=d2) (β1:=0) (au (ds:=[ah n l,.int ((c + 1:Nat):Int)]) rfl e2) (n9 ⟨_,_,60 - (c + 1),rfl,by omega,rfl,c + 1,d2,rfl,rfl,by omega,by omega,λc' h1 h2=>?_,h2⟩))
    by_cases e:c'=c
    ·subst e;exact hD
    ·exact hn c' h1 (by omega)
  ·rintro env β ⟨rfl,c,rs,rfl,h⟩
   exact iI (az (x:=.tuple [.str "rows",.list (rs.map tupI)]) (y:=.int 1) rfl rfl rfl) ⟨_,_,rfl,rs,rfl,h⟩
 obtain⟨d,β,e,rs,rfl,h⟩:=W.out
 refine⟨rs,?_,h⟩
 show fin (fm jA IW [.fz (ah n l),.no,.no] 0)=_
 rw[e];rfl
noncomputable def Ls:List D->FR:=aS 1 1 (nY J5)
def Mm {n:Nat}{l:List Pr}(O:OM.Ord n l)(hs:(xi n l).length<=39):∃rs,J5 [ah n l]=.ok (.list (rs.map tupI)) false/\Ls [ah n l]=.ok (.int (rs.length:Nat)) false/\FQ n l rs:=by
 obtain⟨rs,e,h⟩:=LB O hs
 refine⟨rs,e,?_,h⟩
 show fin (nY J5 [.fz (ah n l)] 0)=_
 unfold nY
 have:=iw (fa:=aw J5 (aa (gv 0) ag)) (vs:=vl [.fz (ah n l)]) (β:=0) (au (ds:=[ah n l]) rfl e)
 rw[Nb] at this
 exact eZ (iI this rfl)
def wB (n:Int)(l:List Pr)(d:D):Bool:=Ga n d && match d with
 | .tuple [.int a,.int b]=>zR l (a,b)
 |_=>false
def y9 {n:Int}{l:List Pr}{p:Pr}(h:(0<=p.1/\p.1 < n)/\(0<=p.2/\p.2 < n)):wB n l (ao p)=zR l p:=by
 show ((decide (0<=p.1/\p.1 < n) && decide (0<=p.2/\p.2 < n)) && zR l (p.1,p.2))=zR l p
 rw[Ni h.1,Ni h.2];rfl
noncomputable def D6:List D->FR:=aS 2 2 (mz K0 Ie)
theorem G9 {n:Nat}{l:List Pr}{d:D}(h:Ge d):D6 [d,ah n l]=.ok (.bool (wB n l d)) false:=by
 show fin (mz K0 Ie [.fz d,.fz (ah n l)] 0)=_
 unfold mz
 have e1:aw K0 (aa (gv 0) (aa (f2 (gv 1) (cst (.int 0)) aV) ag)) (vl [.fz d,.fz (ah n l)]) 0=.ok (.bool (Ga n d)) 0:=au (ds:=[d,.int n]) rfl (Mf h)
 rw[c9]
 cases q:Ga n d with
 |false=>rw[q] at e1;rw[FL e1];unfold wB;rw[q];rfl
 |true=>
  rw[q] at e1
  obtain⟨p,rfl,hp⟩:=JB q
  rw[y9 hp,zj e1 (au (ds:=[ah n l,.int p.1,.int p.2]) rfl (GW n l p.1 p.2))];rfl
def JX (n:Int)(l:List Pr):D->Bool
 | .list ds=>ds.all (wB n l)
 |_=>false
noncomputable def K6:List D->FR:=aS 2 2 (j7 D6)
theorem L4 {n:Nat}{l:List Pr}{d:D}(h:Gt d):K6 [d,ah n l]=.ok (.bool (JX n l d)) false:=by
 show fin (j7 D6 [.fz d,.fz (ah n l)] 0)=_
 unfold j7
 have e1:=Gj (fa:=gv 0) (vs:=vl [.fz d,.fz (ah n l)]) (β:=0) rfl h.1
 rw[c9]
 cases q:IK d with
 |false=>rw[q] at e1;rw[FL e1];cases d <;> first |rfl |cases q
 |true=>
  rw[q] at e1
  obtain⟨ds,rfl⟩:=EJ q
  have hd:=h.2 ds rfl
  have ec:aM 1 [1] (.nm 0) (bL (gv 0)) jm (aw D6 (aa (gv 0) (aa (gv 1) ag))) (vl [.fz (.list ds),.fz (ah n l)]) 0=.ok (.list (ds.map λe=>PyData.bool (wB n l e))) 0:=
   ml (λe=>PyData.bool (wB n l e)) rfl (by omega) λe he=>⟨_,rfl,au (ds:=[e,ah n l]) rfl (G9 (hd.2 e he))⟩
  rw[zj e1 (uF ec)];rfl
noncomputable def HN:List D->FR:=aS 2 2 (dP Iu IS)
theorem Hq {n:Int}{l:List Pr}{x y:D}(h:(pO x && pO y)=false):wB n l (.tuple [x,y])=false:=by
 unfold wB Ga
 cases x with
 |int a=>
  cases y with
  |int b=>cases h
  |_=>simp[l4]
 |_=>simp[l4]
theorem J3 {n:Nat}{l:List Pr}{d:D}(h:Ge d):HN [ah n l,d]=.ok (.bool (wB n l d)) false:=by
 show fin (dP Iu IS [.fz (ah n l),.fz d] 0)=_
 unfold dP
 have g1:gv 1 (vl [.fz (ah n l),.fz d]) 0=.ok d 0:=rfl
 have t1:=qE g1 h.1
 cases hy:De d with
 |false=>
  rw[hy] at t1
  rw[gp (d:=.bool false) (b:=false) (β':=0) ?a]
  ·cases d <;> first |rfl |cases hy
  case a=>rw[jB (zd (bz t1))];rfl
 |true=>
  obtain⟨es,rfl⟩:=zI hy
  rw[hy] at t1
  have t2:=CK (k:=2) g1
  rcases qC (es:=es) with⟨q,z⟩ | ⟨x,y,rfl⟩
  ·rw[q] at t2
   rw[show wB n l (.tuple es)=false by unfold wB;rw[z];rfl,gp (d:=.bool false) (b:=false) (β':=0) (by rw[jB (dO (bz t1) (zd t2))];rfl)];rfl
  ·have hs:=(h.2 _ rfl).2
   have ec:aM 1 [] (.nm 0) (bL (gv 1)) jm (aw Iu (aa (gv 0) ag)) (vl [.fz (ah n l),.fz (.tuple [x,y])]) 0=.ok (.list ([x,y].map λe=>PyData.bool (pO e))) 0:=
    ml (λe=>PyData.bool (pO e)) rfl (by simp) λe he=>⟨_,rfl,au (ds:=[e]) rfl (Jt (hs e he))⟩
   have ea:=uF ec
   have e2: [x,y].all pO=(pO x && pO y):=by simp
   rw[e2] at ea
   cases hw:(pO x && pO y) with
   |false=>
    rw[hw] at ea
    rw[Hq hw,gp (d:=.bool false) (b:=false) (β':=0) (by rw[jB (dO (bz t1) (dO t2 (bz (cM ea))))];rfl)];rfl
   |true=>
    rw[hw] at ea
    rw[Ny] at hw
    cases x with
    |int a=>
     cases y with
     |int b=>
      rw[aL (env':=[.fz (ah n l),.fz (.tuple [.int a,.int b])]) (β':=0) (by rw[iK (dO (bz t1) (dO t2 (bz (cM ea))))];rfl)]
      have ed:aM 1 [0] (.nm 0) (bL (gv 1)) jm (gx (cst (.int 0)) (gv 0) (f2 (gv 1) (cst (.int 0)) aV) vZ tE) (vl [.fz (ah n l),.fz (.tuple [.int a,.int b])]) 0=.ok (.list ([a,b].map λ(e:Int)=>PyData.bool (decide (0<=e) && decide (e < (n:Int))))) 0:=
       cm (l:=[a,b]) (e:=int) (λ(e:Int)=>PyData.bool (decide (0<=e) && decide (e < (n:Int)))) rfl (by simp) λe he=>⟨_,rfl,lW (lo:=0) (i:=e) (n:=n) rfl rfl (MN (n:=n) (l:=l) rfl) rfl⟩
      have eb:=uC ed
      rw[c9,pP eb (au (ds:=[ah n l,.int a,.int b]) rfl (Jn n l a b))]
      show FR.ok (.bool (_ && zR l (a,b))) false=.ok (.bool ((decide (0<=a/\a < (n:Int)) && decide (0<=b/\b < (n:Int))) && zR l (a,b))) false
      rw[Bool.decide_and,Bool.decide_and]
      simp
     |_=>cases hw.2
    |_=>cases hw.1
def D9:List D->FR:=aS 3 3 tv
def Jj (n:Nat)(l:List Pr)(p q:Pr):D9 [ah n l,ao p,ao q]=.ok (.bool (nA l p q)) false:=DJ n l p q
def zx {ps:List Pr}{i:Nat}(hi:i < ps.length):lG (ps.map ao) ((i:Int) - 1)=some (ao (ps.getD (if i=0 then ps.length - 1 else i - 1) (0,0))):=by
 have key:∀k:Nat,k < ps.length->lG (ps.map ao) (k:Int)=some (ao (ps.getD k (0,0))):=λk hk=>by
  rw[mC,oX hk,Nr,M9 hk];rfl
 by_cases h:i=0
 ·subst h
  rw[Nc rfl,<-key _ (by omega)]
  have e1:rN ps.length (((0:Nat):Int) - 1)=some (ps.length - 1):=by
   unfold rN
   rw[Nk (by omega),Nc (by omega)]
   congr 1;omega
  have e2:rN ps.length ((ps.length - 1:Nat):Int)=some (ps.length - 1):=by
   unfold rN
   rw[Nc (by omega),Nc (by omega)]
   congr 1
  unfold lG
  rw[Nb,e1,e2]
 ·rw[Nk h,<-key _ (by omega),show ((i - 1:Nat):Int)=(i:Int) - 1 by omega]
def Dd {F:List D->FR}{n:Nat}{l:List Pr}(hF:∀p q,F [ah n l,ao p,ao q]=.ok (.bool (nA l p q)) false){ps:List Pr}(hz:ps.length<=100){vs:List Nv}(h0:vs[0]? =some (.da (.list (ps.map ao))))(h1:vs[1]? =some (.da (ah n l))) :
  f1 (aM 1 [1,0] (.nm 0) (cD (f1 (gv 0) bX)) jm (aw F (aa (gv 1) (aa (f2 (gv 2) (f2 (gv 0) (cst (.int 1)) n8) aV) (aa (f2 (gv 2) (gv 0) aV) ag))))) (bo λbs=>bs.all id) vs 0=.ok (.bool (B0 l ps)) 0:=by
 have g0:gv 0 vs 0=.ok (.list (ps.map ao)) 0:=by rw[yY,h0];rfl
 have hb:fj 1 [1,0] vs= [.no,.da (ah n l),.da (.list (ps.map ao))]:=by simp[fj,h0,h1]
 have ec:aM 1 [1,0] (.nm 0) (cD (f1 (gv 0) bX)) jm (aw F (aa (gv 1) (aa (f2 (gv 2) (f2 (gv 0) (cst (.int 1)) n8) aV) (aa (f2 (gv 2) (gv 0) aV) ag)))) vs 0=.ok (.list ((List.range ps.length).map λi=>PyData.bool (nA l (ps.getD (if i=0 then ps.length - 1 else i - 1) (0,0)) (ps.getD i (0,0))))) 0:=by
  refine cm (l:=List.range ps.length) (e:=λ(k:Nat)=>int (0 + (k:Int))) (λi=>PyData.bool (nA l (ps.getD (if i=0 then ps.length - 1 else i - 1) (0,0)) (ps.getD i (0,0)))) ?_ (by rw[Oa];omega) λi hi=>⟨[.da (.int (0 + (i:Int))),.da (ah n l),.da (.list (ps.map ao))],by rw[hb];rfl,?_⟩
  ·have:=cU (fa:=f1 (gv 0) bX) (vs:=vs) (β:=0) (β1:=0) (n:=ps.length) (by rw[iw (ds:=ps.map ao) g0,Nb]) (by omega)
   rw[this];rfl
  ·have hi:=NR.mp hi
   rw[Og]
   refine au (b:=false) (ds:=[ah n l,ao (ps.getD (if i=0 then ps.length - 1 else i - 1) (0,0)),ao (ps.getD i (0,0))]) ?_ (hF _ _)
   have a1:f2 (gv 2) (f2 (gv 0) (cst (.int 1)) n8) aV [.da (.int i),.da (ah n l),.da (.list (ps.map ao))] 0=.ok (ao (ps.getD (if i=0 then ps.length - 1 else i - 1) (0,0))) 0:=az (x:=.list (ps.map ao)) (y:=.int ((i:Int) - 1)) rfl (az (x:=.int i) (y:=.int 1) rfl rfl rfl) (zx hi)
   have a2:f2 (gv 2) (gv 0) aV [.da (.int i),.da (ah n l),.da (.list (ps.map ao))] 0=.ok (ao (ps.getD i (0,0))) 0:=by
    refine az (x:=.list (ps.map ao)) (y:=.int i) rfl rfl ?_
    show lG (ps.map ao) (i:Int)=_
    rw[mC,oX hi,Nr,M9 hi];rfl
   exact ac rfl (ac a1 (ac a2 an))
 exact fo ec (by simp only[bo];rw[eQ];simp[Pj,B0])
noncomputable def Jf:List D->FR:=aS 2 2 (jd K6 Bh)
theorem Jq {n:Nat}{l:List Pr}{ps:List Pr}(h:Gt (.list (ps.map ao)))(hts:JX n l (.list (ps.map ao))=true):Jf [.list (ps.map ao),ah n l]=.ok (.bool (!ps.isEmpty && B0 l ps)) false:=by
 show fin (jd K6 Bh [.fz (.list (ps.map ao)),.fz (ah n l)] 0)=_
 unfold jd
 have t:fP (aw K6 (aa (gv 0) (aa (gv 1) ag))) (vl [.fz (.list (ps.map ao)),.fz (ah n l)]) 0=.ok (JX n l (.list (ps.map ao))) 0:=cM (au (ds:=[.list (ps.map ao),ah n l]) rfl (L4 h))
 rw[hts] at t
 have hz:ps.length<=100:=by have:=(h.2 _ rfl).1;rw[Nb] at this;exact this
 have t2:cz (f2 (f1 (gv 0) bX) (cst (.int 0)) (cJ false)) (vl [.fz (.list (ps.map ao)),.fz (ah n l)]) 0=.ok (decide (((ps.map ao).length:Int)=0)) 0:=cG (neg:=false) (iw rfl) rfl
 cases ps with
 |nil=>rw[gp (d:=.bool false) (b:=false) (β':=0) (by rw[jB (dO (bz t) t2)];rfl)];rfl
 |cons p ps=>
  rw[Nx (by simp;omega)] at t2
  rw[aL (env':=[.fz (.list ((p :: ps).map ao)),.fz (ah n l)]) (β':=0) (by rw[iK (dO (bz t) t2)];rfl)]
  rw[c9,Dd (F:=Bh) (n:=n) (l:=l) (DJ n l) hz rfl rfl];rfl
def A3 {F:List D->FR}{n:Nat}{l:List Pr}(hF:∀p q,F [ah n l,ao p,ao q]=.ok (.bool (nA l p q)) false){ps:List Pr}(hz:ps.length<=100){vs:List Nv}(h1:vs[1]? =some (.da (.list (ps.map ao))))(h0:vs[0]? =some (.da (ah n l))) :
  f1 (aM 1 [0,1] (.nm 0) (cD (f1 (gv 1) bX)) jm (aw F (aa (gv 1) (aa (f2 (gv 2) (f2 (gv 0) (cst (.int 1)) n8) aV) (aa (f2 (gv 2) (gv 0) aV) ag))))) (bo λbs=>bs.all id) vs 0=.ok (.bool (B0 l ps)) 0:=by
 have g0:gv 1 vs 0=.ok (.list (ps.map ao)) 0:=by rw[yY,h1];rfl
 have hb:fj 1 [0,1] vs= [.no,.da (ah n l),.da (.list (ps.map ao))]:=by simp[fj,h0,h1]
 have ec:aM 1 [0,1] (.nm 0) (cD (f1 (gv 1) bX)) jm (aw F (aa (gv 1) (aa (f2 (gv 2) (f2 (gv 0) (cst (.int 1)) n8) aV) (aa (f2 (gv 2) (gv 0) aV) ag)))) vs 0=.ok (.list ((List.range ps.length).map λi=>PyData.bool (nA l (ps.getD (if i=0 then ps.length - 1 else i - 1) (0,0)) (ps.getD i (0,0))))) 0:=by
  refine cm (l:=List.range ps.length) (e:=λ(k:Nat)=>int (0 + (k:Int))) (λi=>PyData.bool (nA l (ps.getD (if i=0 then ps.length - 1 else i - 1) (0,0)) (ps.getD i (0,0)))) ?_ (by rw[Oa];omega) λi hi=>⟨[.da (.int (0 + (i:Int))),.da (ah n l),.da (.list (ps.map ao))],by rw[hb];rfl,?_⟩
  ·have:=cU (fa:=f1 (gv 1) bX) (vs:=vs) (β:=0) (β1:=0) (n:=ps.length) (by rw[iw (ds:=ps.map ao) g0,Nb]) (by omega)
   rw[this];rfl
  ·have hi:=NR.mp hi
   rw[Og]
   refine au (b:=false) (ds:=[ah n l,ao (ps.getD (if i=0 then ps.length - 1 else i - 1) (0,0)),ao (ps.getD i (0,0))]) ?_ (hF _ _)
   have a1:f2 (gv 2) (f2 (gv 0) (cst (.int 1)) n8) aV [.da (.int i),.da (ah n l),.da (.list (ps.map ao))] 0=.ok (ao (ps.getD (if i=0 then ps.length - 1 else i - 1) (0,0))) 0:=az (x:=.list (ps.map ao)) (y:=.int ((i:Int) - 1)) rfl (az (x:=.int i) (y:=.int 1) rfl rfl rfl) (zx hi)
   have a2:f2 (gv 2) (gv 0) aV [.da (.int i),.da (ah n l),.da (.list (ps.map ao))] 0=.ok (ao (ps.getD i (0,0))) 0:=by
    refine az (x:=.list (ps.map ao)) (y:=.int i) rfl rfl ?_
    show lG (ps.map ao) (i:Int)=_
    rw[mC,oX hi,Nr,M9 hi];rfl
   exact ac rfl (ac a1 (ac a2 an))
 exact fo ec (by simp only[bo];rw[eQ];simp[Pj,B0])
noncomputable def Ka:List D->FR:=aS 2 2 (jW HN D9)
def J6 {d:List D}{vs:List Nv}(h:gv 1 vs 0=.ok (.list d) 0):cz (f2 (gv 1) (cC ag) xw) vs 0=.ok d.isEmpty 0:=cO _ _ _ _ (az h (lp (ds:=[]) an) rfl)
theorem Jg {n:Nat}{l:List Pr}{ps:List Pr}(h:Gt (.list (ps.map ao)))(hts:JX n l (.list (ps.map ao))=true):Ka [ah n l,.list (ps.map ao)]=.ok (.bool (!ps.isEmpty && B0 l ps)) false:=by
 show fin (jW HN D9 [.fz (ah n l),.fz (.list (ps.map ao))] 0)=_
 unfold jW
 have e1:=Gj (fa:=gv 1) (vs:=vl [.fz (ah n l),.fz (.list (ps.map ao))]) (β:=0) rfl h.1
 have hd:=h.2 _ rfl
 have hz:ps.length<=100:=by have:=hd.1;rw[Nb] at this;exact this
 have t2:=J6 (d:=ps.map ao) (vs:=vl [.fz (ah n l),.fz (.list (ps.map ao))]) rfl
 have ec:aM 1 [0] (.nm 0) (bL (gv 1)) jm (aw HN (aa (gv 1) (aa (gv 0) ag))) (vl [.fz (ah n l),.fz (.list (ps.map ao))]) 0=.ok (.list ((ps.map ao).map λe=>PyData.bool (wB n l e))) 0:=
  ml (λe=>PyData.bool (wB n l e)) rfl (by omega) λe he=>⟨_,rfl,au (ds:=[ah n l,e]) rfl (J3 (hd.2 e he))⟩
 have ea:=uF ec
 have hts:(ps.map ao).all (wB n l)=true:=hts
 rw[hts] at ea
 cases ps with
 |nil=>rw[gp (d:=.bool false) (b:=false) (β':=0) (by rw[jB (dO (bz (cM e1)) (zd t2))];rfl)];rfl
 |cons p ps=>
  rw[aL (env':=[.fz (ah n l),.fz (.list ((p :: ps).map ao))]) (β':=0) (by rw[iK (dO (bz (cM e1)) (dO t2 (bz (cM ea))))];rfl)]
  rw[c9,A3 (F:=D9) (n:=n) (l:=l) (Jj n l) hz rfl rfl];rfl
noncomputable def DZ:List D->FR:=aS 3 3 (iY Jf)
def Ij {n:Nat}{l ps qs:List Pr}(hz:ps.length<=100)(h:Jf [.list (ps.map ao),ah n l]=.ok (.bool true) false):DZ [.list (ps.map ao),ah n l,.tuple (qs.map ao)]=.ok (.bool (ps.all λp=>decide (p∈qs))) false:=by
 show fin (iY Jf [.fz (.list (ps.map ao)),.fz (ah n l),.fz (.tuple (qs.map ao))] 0)=_
 unfold iY
 have ec:aM 1 [2] (.nm 0) (bL (gv 0)) jm (f2 (gv 0) (gv 1) (lH false)) (vl [.fz (.list (ps.map ao)),.fz (ah n l),.fz (.tuple (qs.map ao))]) 0=.ok (.list (ps.map λp=>PyData.bool (decide (p∈qs)))) 0:=
  cm (l:=ps) (e:=ao) (λp=>PyData.bool (decide (p∈qs))) rfl (by omega) λp _=>⟨_,rfl,az (x:=ao p) (y:=.tuple (qs.map ao)) rfl rfl (mK false p qs)⟩
 rw[c9,zj (au (ds:=[.list (ps.map ao),ah n l]) rfl h) (uC ec)];rfl
def tq (pts:List (List Pr)):D:=.list (pts.map λps=>PyData.tuple (ps.map ao))
def lq (pts:List (List Pr)):D:=.list (pts.map λps=>PyData.list (ps.map ao))
noncomputable def DV (F:List D->FR):List D->FR:=aS 5 3 (oM F dN DZ D6)
noncomputable def IY (F:List D->FR):List D->FR:=aS 5 3 (iS F Iu Ka HN)
def pj:∀s∈([Str.ofString "ring",Str.ofString "turn"]:List Str),DS (.str s)=true/\(decide ((PyData.str s).shown="'ring'")=decide (s="ring"))/\(decide ((PyData.str s).shown="'turn'")=decide (s="turn"))/\SeqAt.shaped (.str s)=true/\PyData.eqv (.str s) (.str "ring")=decide (s="ring")/\PyData.eqv (.str s) (.str "turn")=decide (s="turn"):=by decide +kernel
def Jl:SeqAt.shaped (.str "ring")=true/\SeqAt.shaped (.str "turn")=true:=by decide +kernel
section
variable {fa:VF D}{vs:List Nv}{β:Int}{s:Str}
def GU (h:fa vs β=.ok (.str s) β)(hs:s∈([Str.ofString "ring",Str.ofString "turn"]:List Str)):cz (f2 fa (cst (.str "ring")) (cJ false)) vs β=.ok (decide (s="ring")) β:=cO _ _ _ _ (az h rfl (by unfold cJ;rw[(pj s hs).2.2.2.1,Jl.1,<-(pj s hs).2.2.2.2.1];rfl))
def Ja (h:fa vs β=.ok (.str s) β)(hs:s∈([Str.ofString "ring",Str.ofString "turn"]:List Str)):cz (f2 fa (cst (.str "turn")) (cJ true)) vs β=.ok (!decide (s="turn")) β:=cO _ _ _ _ (az h rfl (by unfold cJ;rw[(pj s hs).2.2.2.1,Jl.2,<-(pj s hs).2.2.2.2.2];rfl))
def Kn (h:fa vs β=.ok (.str s) β)(hs:s∈([Str.ofString "ring",Str.ofString "turn"]:List Str)):cz (f2 (f1 fa oY) (cst (.str "'ring'")) (AS false)) vs β=.ok (decide (s="ring")) β:=cO _ _ _ _ (az (fo h (Nc (pj s hs).1)) rfl (by rw[<-(pj s hs).2.1];rfl))
def LM (h:fa vs β=.ok (.str s) β)(hs:s∈([Str.ofString "ring",Str.ofString "turn"]:List Str)):cz (f2 (f1 fa oY) (cst (.str "'turn'")) (AS true)) vs β=.ok (!decide (s="turn")) β:=cO _ _ _ _ (az (fo h (Nc (pj s hs).1)) rfl (by rw[<-(pj s hs).2.2.1];rfl))
end
def DM {pts:List (List Pr)}{i:Nat}{t:Pr}{ps:List Pr}(hi:pts[i]? =some ps):tq (cx pts i t)=.list ((pts.map λps=>PyData.tuple (ps.map ao)).take i ++ [PyData.tuple (ps.map ao ++ [ao t])] ++ (pts.map λps=>PyData.tuple (ps.map ao)).drop (i + 1)):=by
 unfold tq cx
 rw[Nr,hi,NT,NT,List.map_take,List.map_drop]
 simp
def D4 {pts:List (List Pr)}{i:Nat}{t:Pr}{ps:List Pr}(hi:pts[i]? =some ps):lq (cx pts i t)=.list ((pts.map λps=>PyData.list (ps.map ao)).take i ++ [PyData.list (ps.map ao ++ [ao t])] ++ (pts.map λps=>PyData.list (ps.map ao)).drop (i + 1)):=by
 unfold lq cx
 rw[Nr,hi,NT,NT,List.map_take,List.map_drop]
 simp
abbrev ge (d o p:D)(s3 s4:Sl):En:=[.fz d,.fz o,.fz p,s3,s4]
def Cn {zs:List D}{d:D}(h:d∈eT zs):∃(i:Nat) (e:D),zs[i]? =some e/\d=.tuple [.int i,e]:=by
 unfold eT at h
 obtain⟨i,hi,rfl⟩:=List.mem_mapIdx.mp h
 exact⟨i,_,M9 hi,rfl⟩
def B9 {n:Nat}{l ps:List Pr}(ht:∀p,p∈ps->p∈pE n l):JX n l (.list (ps.map ao))=true:=by
 show (ps.map ao).all (wB n l)=true
 rw[NQ]
 intro d hd
 obtain⟨p,hp,rfl⟩:=NN.mp hd
 obtain⟨hr,ha⟩:=dR.mp (ht p hp)
 rw[y9 hr];exact ha
def Hw {ps:List Pr}(hl:ps.length<=100):Gt (.list (ps.map ao)):=⟨rfl,λds e=>by
 cases e
 refine⟨by rw[Nb];exact hl,λe he=>?_⟩
 obtain⟨p,_,rfl⟩:=NN.mp he
 exact yo (es:=[.int p.1,.int p.2]) (by simp) (uN rfl rfl)⟩
theorem CU {n:Nat}{l:List Pr}:∀(k:Nat) (d:D) (pts:List (List Pr)) (m:Nat),k<=m->Ea n l k d pts->pts.length<=8->(∀ps,ps∈pts->ps.length + k<=80)->gO DV m [d,ah n l,tq pts]=.ok (.bool true) false/\gO IY m [d,ah n l,lq pts]=.ok (.bool true) false:=by
 intro k
 induction k with
 |zero=>intro d pts m _ h;exact h.elim
 |succ k ih=>
  intro d pts m hm h hl hp
  obtain⟨m,rfl⟩:∃m',m=m' + 1:=⟨m - 1,by omega⟩
  show fin (oM (gO DV m) dN DZ D6 (ge d (ah n l) (tq pts) .no .no) 0)=_/\fin (iS (gO IY m) Iu Ka HN (ge d (ah n l) (lq pts) .no .no) 0)=_
  unfold oM iS
  have lenA:∀(d:D) (s3 s4:Sl),f1 (gv 2) bX (vl (ge d (ah n l) (tq pts) s3 s4)) 0=.ok (.int (pts.length:Nat)) 0:=λd s3 s4=>by
   have:=iw (fa:=gv 2) (vs:=vl (ge d (ah n l) (tq pts) s3 s4)) (β:=0) (ds:=pts.map λps=>PyData.tuple (ps.map ao)) rfl
   rw[Nb] at this;exact this
  have lenB:∀(d:D) (s3 s4:Sl),f1 (gv 2) bX (vl (ge d (ah n l) (lq pts) s3 s4)) 0=.ok (.int (pts.length:Nat)) 0:=λd s3 s4=>by
   have:=iw (fa:=gv 2) (vs:=vl (ge d (ah n l) (lq pts) s3 s4)) (β:=0) (ds:=pts.map λps=>PyData.list (ps.map ao)) rfl
   rw[Nb] at this;exact this
  have three:∀(x y z p:D),ie (kB (fP (f1 (gv 0) (gj "tuple")))) (cz (f2 (f1 (gv 0) bX) (cst (.int 3)) (cJ true))) (vl (ge (.tuple [x,y,z]) (ah n l) p .no .no)) 0=.ok false 0:=λx y z p=>dO (bz (qE (d:=.tuple [x,y,z]) rfl rfl)) (cG (neg:=true) (i:=3) (j:=3) rfl rfl)
  rcases h with⟨i,r,q,rfl,hq,hm',hne,hrg,hrl,hrt⟩ | ⟨t,zs,rfl,ht,hzl,hz⟩
  ·have hi:=(Ng.mp hq).1
   have hts:=B9 hrt
   have hG:=Hw hrl
   have e1:Jf [.list (r.map ao),ah n l]=.ok (.bool true) false:=by
    rw[Jq hG hts,hrg]
    cases r with
    |nil=>exact absurd rfl hne
    |cons a b=>rfl
   have e2:Ka [ah n l,.list (r.map ao)]=.ok (.bool true) false:=by
    rw[Jg hG hts,hrg]
    cases r with
    |nil=>exact absurd rfl hne
    |cons a b=>rfl
   have hall:(r.all λp=>decide (p∈q))=true:=NQ.mpr λx hx=>Ni (hm' x hx)
   have e3:=Ij (qs:=q) hrl e1
   rw[hall] at e3
   constructor
   ·refine eZ (bS (three _ _ _ _) (lj (GU (s:="ring") (az (x:=.tuple [.str "ring",.int i,.list (r.map ao)]) (y:=.int 0) rfl rfl rfl) (by simp)) ?_))
    have y1:f2 (gv 0) (cst (.int 1)) aV (vl (ge (.tuple [.str "ring",.int i,.list (r.map ao)]) (ah n l) (tq pts) .no .no)) 0=.ok (.int i) 0:=az (x:=.tuple [.str "ring",.int i,.list (r.map ao)]) (y:=.int 1) rfl rfl rfl
    have b1:aw dN (aa (f2 (gv 0) (cst (.int 1)) aV) (aa (f1 (gv 2) bX) ag)) (vl (ge (.tuple [.str "ring",.int i,.list (r.map ao)]) (ah n l) (tq pts) .no .no)) 0=.ok (.bool true) 0:=by
     refine au (b:=false) (ds:=[.int i,.int (pts.length:Nat)]) (ac y1 (ac (lenA _ _ _) an)) ((p6 rfl).trans ?_)
     show FR.ok (.bool (decide _)) false=_
     rw[Ni (by omega)]
    refine om (zj b1 (au (ds:=[.list (r.map ao),ah n l,.tuple (q.map ao)]) (ac (az (x:=.tuple [.str "ring",.int i,.list (r.map ao)]) (y:=.int 2) rfl rfl rfl) (ac rfl (ac (az (x:=tq pts) (y:=.int i) rfl y1 (gm (by rw[Nm,hq];rfl))) an))) e3)) rfl
   ·refine eZ (bS (three _ _ _ _) (lj (Kn (s:="ring") (az (x:=.tuple [.str "ring",.int i,.list (r.map ao)]) (y:=.int 0) rfl rfl rfl) (by simp)) (yX ?_)))
    have y1:f2 (gv 0) (cst (.int 1)) aV (vl (ge (.tuple [.str "ring",.int i,.list (r.map ao)]) (ah n l) (lq pts) .no .no)) 0=.ok (.int i) 0:=az (x:=.tuple [.str "ring",.int i,.list (r.map ao)]) (y:=.int 1) rfl rfl rfl
    have w1:fP (aw Iu (aa (f2 (gv 0) (cst (.int 1)) aV) ag)) (vl (ge (.tuple [.str "ring",.int i,.list (r.map ao)]) (ah n l) (lq pts) .no .no)) 0=.ok true 0:=cM (au (ds:=[.int i]) (ac y1 an) (Jt rfl))
    have ch:=lW (g':=tE) (fa:=cst (.int 0)) (fb:=f2 (gv 0) (cst (.int 1)) aV) (fc:=f1 (gv 2) bX) (vs:=vl (ge (.tuple [.str "ring",.int i,.list (r.map ao)]) (ah n l) (lq pts) .no .no)) (β:=0) (lo:=0) (i:=i) (n:=(pts.length:Nat)) (q:=decide ((i:Int) < (pts.length:Nat))) rfl y1 (lenB _ _ _) rfl
    rw[Ni (by omega),Ni (by omega)] at ch
    have lr:fP (aw Ka (aa (gv 1) (aa (f2 (gv 0) (cst (.int 2)) aV) ag))) (vl (ge (.tuple [.str "ring",.int i,.list (r.map ao)]) (ah n l) (lq pts) .no .no)) 0=.ok true 0:=cM (au (ds:=[ah n l,.list (r.map ao)]) (ac rfl (ac (az (x:=.tuple [.str "ring",.int i,.list (r.map ao)]) (y:=.int 2) rfl rfl rfl) an)) e2)
    refine bS (dO (bz w1) (dO (bz (cO _ _ _ _ ch)) (bz lr))) ?_
    have pB:∀v,f2 (gv 1) (f2 (gv 2) (cst (.int 1)) aV) aV [v,.da (lq pts),.da (.tuple [.str "ring",.int i,.list (r.map ao)])] 0=.ok (.list (q.map ao)) 0:=λv=>az (x:=lq pts) (y:=.int i) rfl (az (x:=.tuple [.str "ring",.int i,.list (r.map ao)]) (y:=.int 1) rfl rfl rfl) (gm (by rw[Nm,hq];rfl))
    have ec:aM 1 [2,0] (.nm 0) (bL (f2 (gv 0) (cst (.int 2)) aV)) (cz (f2 (gv 0) (f2 (gv 1) (f2 (gv 2) (cst (.int 1)) aV) aV) (lH true))) (gv 0) (vl (ge (.tuple [.str "ring",.int i,.list (r.map ao)]) (ah n l) (lq pts) .no .no)) 0=.ok (.list ((r.filter λp=> !decide (p∈q)).map ao)) 0:=
     cj (l:=r) (e:=ao) (λp=> !decide (p∈q)) ao rfl (by omega) λp _=>⟨[.da (ao p),.da (lq pts),.da (.tuple [.str "ring",.int i,.list (r.map ao)])],rfl,cO _ _ _ _ (az (x:=ao p) rfl (pB _) (y0 true p q)),λ_=>rfl⟩
    have hem:(r.filter λp=> !decide (p∈q))= []:=List.filter_eq_nil_iff.mpr λx hx=>by simp[hm' x hx]
    rw[hem] at ec
    exact iI (az ec (lp (ds:=[]) an) rfl) ⟨(λa b z=>by cases z),rfl⟩
  ·have ch:∀i z,zs[i]? =some z->gO DV m [z,ah n l,tq (cx pts i t)]=.ok (.bool true) false/\gO IY m [z,ah n l,lq (cx pts i t)]=.ok (.bool true) false:=λi z hi=>by
    have hlt:=(Ng.mp hi).1
    obtain⟨put,hput⟩:∃put,pts[i]? =some put:=⟨_,M9 (by omega)⟩
    refine ih z (cx pts i t) m (by omega) (hz i z hi) (by rw[nF (by omega)];exact hl) λps hps=>?_
    obtain⟨j,hj⟩:=N5.mp hps
    rw[k6 hput] at hj
    split at hj
    ·cases hj
     have:=hp put (Nw hput)
     rw[NF,NY];omega
    ·have:=hp ps (Nw hj);omega
   have hU:wB n l (ao t)=true:=by rw[y9 (dR.mp ht).1];exact (dR.mp ht).2
   have hY:Ge (ao t):=yo (es:=[.int t.1,.int t.2]) (by simp) (uN rfl rfl)
   have x0:∀(s3 s4:Sl) (p:D),f2 (gv 0) (cst (.int 0)) aV (vl (ge (.tuple [.str "turn",ao t,.tuple zs]) (ah n l) p s3 s4)) 0=.ok (.str "turn") 0:=λs3 s4 p=>az (x:=.tuple [.str "turn",ao t,.tuple zs]) (y:=.int 0) rfl rfl rfl
   have y1:∀(s3 s4:Sl) (p:D),f2 (gv 0) (cst (.int 1)) aV (vl (ge (.tuple [.str "turn",ao t,.tuple zs]) (ah n l) p s3 s4)) 0=.ok (ao t) 0:=λs3 s4 p=>az (x:=.tuple [.str "turn",ao t,.tuple zs]) (y:=.int 1) rfl rfl rfl
   have z2:∀(s3 s4:Sl) (p:D),f2 (gv 0) (cst (.int 2)) aV (vl (ge (.tuple [.str "turn",ao t,.tuple zs]) (ah n l) p s3 s4)) 0=.ok (.tuple zs) 0:=λs3 s4 p=>az (x:=.tuple [.str "turn",ao t,.tuple zs]) (y:=.int 2) rfl rfl rfl
   have nrg:decide ((Str.ofString "turn")="ring")=false:=by decide +kernel
   have ytr:(!decide ((Str.ofString "turn")="turn"))=false:=by decide +kernel
   have eqn:(!decide ((zs.length:Int)=(pts.length:Nat)))=false:=by rw[Ni (by omega)];rfl
   constructor
   ·have r1:=GU (s:="turn") (x0 .no .no (tq pts)) (by simp)
    have r2:=Ja (s:="turn") (x0 .no .no (tq pts)) (by simp)
    rw[nrg] at r1
    rw[ytr] at r2
    have u:=cM (au (F:=D6) (fr:=aa (f2 (gv 0) (cst (.int 1)) aV) (aa (gv 1) ag)) (ds:=[ao t,ah n l]) (ac (y1 .no .no (tq pts)) (ac rfl an)) (G9 hY))
    rw[hU] at u
    have k1:=qE (z2 .no .no (tq pts)) rfl
    have k2:=cG (neg:=true) (yW (z2 .no .no (tq pts))) (lenA (.tuple [.str "turn",ao t,.tuple zs]) .no .no)
    rw[Nc rfl,eqn] at k2
    refine eZ (bS (three _ _ _ _) (bS r1 (bS (dO r2 (bz u)) (bS (dO (bz k1) k2) ?_))))
    refine uw (ds:=eT zs) (β1:=0) (λ_ env β=>β=0/\∃s3 s4,env=ge (.tuple [.str "turn",ao t,.tuple zs]) (ah n l) (tq pts) s3 s4) ?_ ⟨rfl,_,_,rfl⟩ ?_ ?_
    ·have:zS (f2 (gv 0) (cst (.int 2)) aV) (vl (ge (.tuple [.str "turn",ao t,.tuple zs]) (ah n l) (tq pts) .no .no)) 0=.ok (eT zs) 0:=by
      unfold zS
      rw[z2];rfl
     exact this
    ·rintro _ d env β hd ⟨rfl,s3,s4,rfl⟩
     obtain⟨i,e,hi,rfl⟩:=Cn (Nw hd)
     refine⟨ge (.tuple [.str "turn",ao t,.tuple zs]) (ah n l) (tq pts) (.fz (.int i)) (.fz e),rfl,?_⟩
     have hi':=(Ng.mp hi).1
     obtain⟨qs,hq⟩:∃qs,pts[i]? =some qs:=⟨_,M9 (by omega)⟩
     have hqs:=hp qs (Nw hq)
     have pq:(pts.map λps=>PyData.tuple (ps.map ao))[i]? =some (.tuple (qs.map ao)):=by rw[Nm,hq];rfl
     have arg:f2 (f2 (vI (gv 2) (λ_ β=>.ok none β) (wV (gv 3))) (cC (aa (f2 (f2 (gv 2) (gv 3) aV) (bY (aa (f2 (gv 0) (cst (.int 1)) aV) ag)) mW) ag)) ic) (vI (gv 2) (wV (f2 (gv 3) (cst (.int 1)) bZ)) (λ_ β=>.ok none β)) ic (vl (ge (.tuple [.str "turn",ao t,.tuple zs]) (ah n l) (tq pts) (.fz (.int i)) (.fz e))) 0=.ok (tq (cx pts i t)) 0:=by
      rw[DM hq]
      refine qw (qw (qv (ds:=pts.map λps=>PyData.tuple (ps.map ao)) rfl rfl) (lp (ac (FO (a:=qs.map ao) (b:=[ao t]) (az (x:=tq pts) (y:=.int i) rfl rfl (gm pq)) (tp (ac (y1 _ _ _) an)) (by rw[Nb];simp;omega)) an)) ?_) (uo (ds:=pts.map λps=>PyData.tuple (ps.map ao)) rfl (JZ rfl)) ?_
      ·rw[NU,Nb];simp;omega
      ·rw[NF,NU,OT,Nb];simp;omega
     have tt:=cM (au (F:=gO DV m) (fr:=aa (gv 4) (aa (gv 1) (aa (f2 (f2 (vI (gv 2) (λ_ β=>.ok none β) (wV (gv 3))) (cC (aa (f2 (f2 (gv 2) (gv 3) aV) (bY (aa (f2 (gv 0) (cst (.int 1)) aV) ag)) mW) ag)) ic) (vI (gv 2) (wV (f2 (gv 3) (cst (.int 1)) bZ)) (λ_ β=>.ok none β)) ic) ag))) (ds:=[e,ah n l,tq (cx pts i t)]) (ac rfl (ac rfl (ac arg an))) (ch i e hi).1)
     exact yp (bz tt) (n9 ⟨_,_,rfl,rfl,_,_,rfl⟩)
    ·exact λenv β _=>iI rfl rfl
   ·have r1:=Kn (s:="turn") (x0 .no .no (lq pts)) (by simp)
    have r2:=LM (s:="turn") (x0 .no .no (lq pts)) (by simp)
    rw[nrg] at r1
    rw[ytr] at r2
    have u:=cM (au (F:=HN) (fr:=aa (gv 1) (aa (f2 (gv 0) (cst (.int 1)) aV) ag)) (ds:=[ah n l,ao t]) (ac rfl (ac (y1 .no .no (lq pts)) an)) (J3 hY))
    rw[hU] at u
    have k1:=qE (z2 .no .no (lq pts)) rfl
    have k2:=cG (neg:=true) (yW (z2 .no .no (lq pts))) (lenB (.tuple [.str "turn",ao t,.tuple zs]) .no .no)
    rw[Nc rfl,eqn] at k2
    refine eZ (bS (three _ _ _ _) (bS r1 (bS (dO r2 (bz u)) (bS (dO (bz k1) k2) ?_))))
    refine uw (ds:=dg 0 pts.length) (β1:=0) (λ_ env β=>β=0/\∃s3 s4,env=ge (.tuple [.str "turn",ao t,.tuple zs]) (ah n l) (lq pts) s3 s4) (cU (lenB _ _ _) (by omega)) ⟨rfl,_,_,rfl⟩ ?_ ?_
    ·rintro _ d env β hd ⟨rfl,s3,s4,rfl⟩
     obtain⟨hi,rfl⟩:=ip hd
     rename_i i
     rw[Og]
     refine⟨ge (.tuple [.str "turn",ao t,.tuple zs]) (ah n l) (lq pts) (.fz (.int i)) s4,rfl,?_⟩
     obtain⟨qs,hq⟩:∃qs,pts[i]? =some qs:=⟨_,M9 hi⟩
     have hqs:=hp qs (Nw hq)
     have pq:(pts.map λps=>PyData.list (ps.map ao))[i]? =some (.list (qs.map ao)):=by rw[Nm,hq];rfl
     refine dG (d:=lq (cx pts i t)) (β1:=0) ?_ ?_
     ·rw[D4 hq]
      refine qw (qw (qv (ds:=pts.map λps=>PyData.list (ps.map ao)) rfl rfl) (lp (ac (qw (a:=qs.map ao) (b:=[ao t]) (az (x:=lq pts) (y:=.int i) rfl rfl (gm pq)) (lp (ac (y1 _ _ _) an)) (by rw[Nb];simp;omega)) an)) ?_) (uo (ds:=pts.map λps=>PyData.list (ps.map ao)) rfl (JZ rfl)) ?_
      ·rw[NU,Nb];simp;omega
      ·rw[NF,NU,OT,Nb];simp;omega
     refine wp_at (ge (.tuple [.str "turn",ao t,.tuple zs]) (ah n l) (lq pts) (.fz (.int i)) (.fz (lq (cx pts i t)))) rfl ?_
     obtain⟨e,he⟩:∃e,zs[i]? =some e:=⟨_,M9 (by omega)⟩
     have ea:f2 (f2 (gv 0) (cst (.int 2)) aV) (gv 3) aV (vl (ge (.tuple [.str "turn",ao t,.tuple zs]) (ah n l) (lq pts) (.fz (.int i)) (.fz (lq (cx pts i t))))) 0=.ok e 0:=az (x:=.tuple zs) (y:=.int i) (z2 _ _ _) rfl (gm he)
     have tt:=cM (au (F:=gO IY m) (fr:=aa (f2 (f2 (gv 0) (cst (.int 2)) aV) (gv 3) aV) (aa (gv 1) (aa (gv 4) ag))) (ds:=[e,ah n l,lq (cx pts i t)]) (ac ea (ac rfl (ac rfl an))) (ch i e he).2)
     exact yp (bz tt) (n9 ⟨_,_,rfl,rfl,_,_,rfl⟩)
    ·exact λenv β _=>iI rfl rfl
def xr (ds:List D)(h:jA ds≠.bad):aS 1 1 (iD jJ) ds=jA ds:=by
 unfold jA at h
 split at h
 ·obtain⟨n,l,rfl,O⟩:=vB h
  rw[qN O]
  show fin (iD jJ [.fz (ah n l)] 0)=_
  exact eZ (yp (bz (cM (au (ds:=[ah n l]) rfl (tu O)))) (n9 rfl))
 ·exact absurd rfl h
def KL:List D->FR:=aS 1 1 (iZ jC)
def Jz {c:Nat}(h1:1<=c)(h8:c<=8):KL [.int c]=.ok .none false:=by
 show fin (iZ jC [.fz (.int c)] 0)=_
 unfold iZ
 have t1:fP (aw jC (aa (gv 0) ag)) (vl [.fz (.int c)]) 0=.ok true 0:=cM (au (ds:=[.int c]) rfl (l8 rfl))
 have t2:=lW (g':=vZ) (fa:=cst (.int 1)) (fb:=gv 0) (fc:=cst (.int 8)) (vs:=vl [.fz (.int c)]) (β:=0) (lo:=1) (i:=c) (n:=8) (q:=decide ((c:Int)<=8)) rfl rfl rfl rfl
 rw[Ni (by omega),Ni (by omega)] at t2
 rw[iK (dO (bz t1) (bz (cO _ _ _ _ t2)))];rfl
noncomputable def JJ:List D->FR:=aS 3 2 (iX jA KL IW)
noncomputable def GN:List D->FR:=aS 3 3 (fy jA KL (gO DV 40))
def FY {n c:Nat}{l:List Pr}{d:D}{b:Bool}(O:OM.Ord n l)(h1:1<=c)(h3:c<=8)(h:gO DV 40 [d,ah n l,tq (List.replicate c [])]=.ok (.bool b) false):GN [d,ah n l,.int c]=.ok (.bool b) false:=by
 show fin (fy jA KL (gO DV 40) [.fz d,.fz (ah n l),.fz (.int c)] 0)=_
 refine eZ ?_
 unfold fy
 refine oi (au (ds:=[ah n l]) (ac rfl an) (qN O)) (wp_at [.fz d,.fz (ah n l),.fz (.int c)] rfl ?_)
 refine oi (au (ds:=[.int c]) (ac rfl an) (Jz h1 (by omega))) (wp_at [.fz d,.fz (ah n l),.fz (.int c)] rfl ?_)
 have er:f2 (cC (aa (bY ag) ag)) (gv 2) qP (vl [.fz d,.fz (ah n l),.fz (.int c)]) 0=.ok (tq (List.replicate c [])) 0:=by
  refine az (x:=.list [.tuple []]) (y:=.int c) (lp (ac (tp an) an)) rfl ?_
  rw[xc (by omega)]
  unfold tq
  rw[Pl];rfl
 exact iI (au (ds:=[d,ah n l,tq (List.replicate c [])]) (ac rfl (ac rfl (ac er an))) h) rfl
def Gu {n:Nat}{l:List Pr}{m:Nat}{t:Pr}{zs:List D}{pts:List (List Pr)}(ht:t∈pE n l)(hz:zs.length≠pts.length):gO DV (m + 1) [.tuple [.str "turn",ao t,.tuple zs],ah n l,tq pts]=.ok (.bool false) false:=by
 show fin (oM (gO DV m) dN DZ D6 (ge (.tuple [.str "turn",ao t,.tuple zs]) (ah n l) (tq pts) .no .no) 0)=_
 unfold oM
 have lenA:f1 (gv 2) bX (vl (ge (.tuple [.str "turn",ao t,.tuple zs]) (ah n l) (tq pts) .no .no)) 0=.ok (.int (pts.length:Nat)) 0:=by
  have:=iw (fa:=gv 2) (vs:=vl (ge (.tuple [.str "turn",ao t,.tuple zs]) (ah n l) (tq pts) .no .no)) (β:=0) (ds:=pts.map λps=>PyData.tuple (ps.map ao)) rfl
  rw[Nb] at this;exact this
 have hU:wB n l (ao t)=true:=by rw[y9 (dR.mp ht).1];exact (dR.mp ht).2
 have x0:f2 (gv 0) (cst (.int 0)) aV (vl (ge (.tuple [.str "turn",ao t,.tuple zs]) (ah n l) (tq pts) .no .no)) 0=.ok (.str "turn") 0:=az (x:=.tuple [.str "turn",ao t,.tuple zs]) (y:=.int 0) rfl rfl rfl
 have z2:f2 (gv 0) (cst (.int 2)) aV (vl (ge (.tuple [.str "turn",ao t,.tuple zs]) (ah n l) (tq pts) .no .no)) 0=.ok (.tuple zs) 0:=az (x:=.tuple [.str "turn",ao t,.tuple zs]) (y:=.int 2) rfl rfl rfl
 have r1:=GU (s:="turn") x0 (by simp)
 have r2:=Ja (s:="turn") x0 (by simp)
 rw[show decide ((Str.ofString "turn")="ring")=false by decide +kernel] at r1
 rw[show (!decide ((Str.ofString "turn")="turn"))=false by decide +kernel] at r2
 have u:=cM (au (F:=D6) (fr:=aa (f2 (gv 0) (cst (.int 1)) aV) (aa (gv 1) ag)) (vs:=vl (ge (.tuple [.str "turn",ao t,.tuple zs]) (ah n l) (tq pts) .no .no)) (β:=0) (ds:=[ao t,ah n l]) (ac (az (x:=.tuple [.str "turn",ao t,.tuple zs]) (y:=.int 1) rfl rfl rfl) (ac rfl an)) (G9 (yo (es:=[.int t.1,.int t.2]) (by simp) (uN rfl rfl))))
 rw[hU] at u
 have k2:=cG (neg:=true) (yW z2) lenA
 rw[Nc rfl,Nx (by omega)] at k2
 exact eZ (bS (dO (bz (qE (d:=.tuple [.str "turn",ao t,.tuple zs]) rfl rfl)) (cG (neg:=true) (i:=3) (j:=3) rfl rfl)) (bS r1 (bS (dO r2 (bz u)) (lj (dO (bz (qE z2 rfl)) k2) (om rfl rfl)))))
def Kb {n:Nat}{l:List Pr}{c:Nat}(O:OM.Ord n l)(hs:(xi n l).length<=39)(h1:1<=c)(hc:c<=8):(Dm n l c/\JJ [ah n l,.int (c:Int)]=.ok .none false)\/(¬Dm n l c/\∃t zs,JJ [ah n l,.int (c:Int)]=.ok (.tuple [.str "turn",ao t,.tuple zs]) false/\zs.length=c/\Ea n l 40 (.tuple [.str "turn",ao t,.tuple zs]) (List.replicate c [])):=by
 obtain⟨d,e,h⟩:=Hk O hs (c:=c) (by omega)
 have run:∀{R:FR} (s:Str) (x:D) (xs:List D),d=.tuple (.str s :: x :: xs)->s∈([Str.ofString "rows",Str.ofString "ring",Str.ofString "turn"]:List Str)->(decide (s="rows")=true->R=.ok .none false)->(decide (s="rows")=false->R=.ok d false)->JJ [ah n l,.int (c:Int)]=R:=by
  intro R s x xs hd hs h2 h3
  show fin (iX jA KL IW [.fz (ah n l),.fz (.int (c:Int)),.no] 0)=_
  refine eZ ?_
  unfold iX
  refine oi (au (ds:=[ah n l]) (ac rfl an) (qN O)) (wp_at [.fz (ah n l),.fz (.int (c:Int)),.no] rfl ?_)
  refine oi (au (ds:=[.int c]) (ac rfl an) (Jz h1 hc)) (wp_at [.fz (ah n l),.fz (.int (c:Int)),.no] rfl ?_)
  refine dG (d:=d) (β1:=0) (au (ds:=[ah n l,.int (c:Int)]) rfl e) (wp_at [.fz (ah n l),.fz (.int (c:Int)),.fz d] rfl ?_)
  subst hd
  have t:=nO (neg:=false) hs (fa:=f2 (gv 2) (cst (.int 0)) aV) (vs:=vl [.fz (ah n l),.fz (.int (c:Int)),.fz (.tuple (.str s :: x :: xs))]) (β:=0) (az (x:=.tuple (.str s :: x :: xs)) (y:=.int 0) rfl rfl (gm (j:=0) rfl))
  cases q:decide (s="rows") with
  |true=>rw[q] at t;exact lj t (om rfl (h2 q).symm)
  |false=>
   rw[q] at t
   refine bS t ⟨?_⟩
   rw[h3 q];rfl
 rcases h with⟨rs,rfl,hl,hr,ht⟩ | ⟨⟨t,zs,rfl,hz⟩,hP,hD⟩
 ·exact .inl ⟨⟨rs,hl,hr,ht⟩,run "rows" _ _ rfl (by simp) (λ_=>rfl) (λq=>by exact absurd q (by decide +kernel))⟩
 ·exact .inr ⟨hD,t,zs,run "turn" _ _ rfl (by simp) (λq=>by exact absurd q (by decide +kernel)) (λ_=>rfl),hz,hP⟩
def wW:List Pr:=[(0,5),(0,6),(0,7),(1,4),(1,6),(1,7),(2,4),(2,5),(2,7),(3,4),(3,5),(3,6)]
def Lg:List D->FR:=aS 2 0 iy
def LW:Lg []=.ok (ah 8 wW) false:=by
 show fin (iy [.no,.no] 0)=_
 rfl
def yT:∀p∈wW,(0<=p.1/\p.1 < 4)/\(4<=p.2/\p.2 < 8):=by decide
def HU:OM.Ord 8 wW:=by
 refine⟨by omega,by omega,λp hp=>?_,?_,λa h=>?_,λa b c h k=>?_⟩
 ·have:=yT p hp;omega
 ·unfold OM.wo wW;decide
 ·have:=yT _ h;omega
 ·have:=yT _ h;have:=yT _ k;omega
def Gg:xi 8 wW= [(0,4),(1,5),(2,6),(3,7)]:=by decide +kernel
theorem JL:¬Dm 8 wW 3:=by
 rintro⟨rs,h3,hR,hT⟩
 have key:∀r,r∈rs->∀i j k m:Int,(i,m)∈wW->(j,k)∈wW->Tn r (i,k)->Tn r (j,m)->False:=λr hr i j k m h1 h2 t1 t2=>by
  have a:=rM (hR r hr) h1
  have b:=rM (hR r hr) h2
  unfold Tn at t1 t2
  dsimp only at a b t1 t2
  omega
 match rs,h3 with
 | [a,b,c],_=>
  have ha:=key a (by simp)
  have hb:=key b (by simp)
  have hc:=key c (by simp)
  rw[Gg] at hT
  have sp:∀t,t∈([(0,4),(1,5),(2,6),(3,7)]:List Pr)->Tn a t\/Tn b t\/Tn c t:=λt ht=>by
   obtain⟨r,hr,h⟩:=hT t ht
   simp only[Nh,NW,OD] at hr
   rcases hr with rfl |rfl |rfl
   ·exact .inl h
   ·exact .inr (.inl h)
   ·exact .inr (.inr h)
  have no:∀r,(∀i j k m:Int,(i,m)∈wW->(j,k)∈wW->Tn r (i,k)->Tn r (j,m)->False)->∀i j:Int,((0<=i/\i < 4)/\(0<=j/\j < 4))->i < j->Tn r (i,4 + i)->Tn r (j,4 + j)->False:=λr h i j hij hlt t1 t2=>by
   refine h i j (4 + i) (4 + j) ?_ ?_ t1 t2
   ·have:∀i∈([0,1,2,3]:List Int),∀j∈([0,1,2,3]:List Int),i < j->(i,4 + j)∈wW/\(j,4 + i)∈wW:=by decide
    exact (this i (by simp;omega) j (by simp;omega) hlt).1
   ·have:∀i∈([0,1,2,3]:List Int),∀j∈([0,1,2,3]:List Int),i < j->(i,4 + j)∈wW/\(j,4 + i)∈wW:=by decide
    exact (this i (by simp;omega) j (by simp;omega) hlt).2
  have na:=no a ha
  have nb:=no b hb
  have nc:=no c hc
  have s0:=sp (0,4) (by simp)
  have s1:=sp (1,5) (by simp)
  have s2:=sp (2,6) (by simp)
  have s3:=sp (3,7) (by simp)
  have m:∀r,(∀i j:Int,((0<=i/\i < 4)/\(0<=j/\j < 4))->i < j->Tn r (i,4 + i)->Tn r (j,4 + j)->False)->(¬(Tn r (0,4)/\Tn r (1,5))/\¬(Tn r (0,4)/\Tn r (2,6))/\¬(Tn r (0,4)/\Tn r (3,7))/\¬(Tn r (1,5)/\Tn r (2,6))/\¬(Tn r (1,5)/\Tn r (3,7))/\¬(Tn r (2,6)/\Tn r (3,7))):=λr h=>⟨λz=>h 0 1 (by omega) (by omega) z.1 z.2,λz=>h 0 2 (by omega) (by omega) z.1 z.2,λz=>h 0 3 (by omega) (by omega) z.1 z.2,λz=>h 1 2 (by omega) (by omega) z.1 z.2,λz=>h 1 3 (by omega) (by omega) z.1 z.2,λz=>h 2 3 (by omega) (by omega) z.1 z.2⟩
  have ma:=m a na
  have mb:=m b nb
  have mc:=m c nc
  revert s0 s1 s2 s3 ma mb mc
  generalize Tn a (0,4)=a0
  generalize Tn a (1,5)=a1
  generalize Tn a (2,6)=a2
  generalize Tn a (3,7)=a3
  generalize Tn b (0,4)=b0
  generalize Tn b (1,5)=b1
  generalize Tn b (2,6)=b2
  generalize Tn b (3,7)=b3
  generalize Tn c (0,4)=c0
  generalize Tn c (1,5)=c1
  generalize Tn c (2,6)=c2
  generalize Tn c (3,7)=c3
  intro s0 s1 s2 s3 ⟨x1,x2,x3,x4,x5,x6⟩ ⟨y1,y2,y3,y4,y5,y6⟩ ⟨z1,z2,z3,z4,z5,z6⟩
  rcases s0 with h0 |h0 |h0 <;> rcases s1 with h1 |h1 |h1 <;> first |exact x1 ⟨h0,h1⟩ |exact y1 ⟨h0,h1⟩ |exact z1 ⟨h0,h1⟩ |skip
  all_goals rcases s2 with h2 |h2 |h2 <;> first |exact x2 ⟨h0,h2⟩ |exact y2 ⟨h0,h2⟩ |exact z2 ⟨h0,h2⟩ |exact x4 ⟨h1,h2⟩ |exact y4 ⟨h1,h2⟩ |exact z4 ⟨h1,h2⟩ |skip
  all_goals rcases s3 with h3 |h3 |h3 <;> first |exact x3 ⟨h0,h3⟩ |exact y3 ⟨h0,h3⟩ |exact z3 ⟨h0,h3⟩ |exact x5 ⟨h1,h3⟩ |exact y5 ⟨h1,h3⟩ |exact z5 ⟨h1,h3⟩ |exact x6 ⟨h2,h3⟩ |exact y6 ⟨h2,h3⟩ |exact z6 ⟨h2,h3⟩
noncomputable def Hz:List D->FR:=aS 7 1 (yN By Ls JJ (gO IY 40) GN Lg HZ eV)
abbrev le (ns:List Int)(i n:Nat)(l:List Pr)(s4 s5 s6:Sl):En:=[.fz (dH ns),.fz (.int i),.bx,.fz (ah n l),s4,s5,s6]
def JS (neg a b:Bool):cJ neg (.bool a) (.bool b)=some (.bool (if neg then !decide (a=b) else decide (a=b))):=by cases neg <;> cases a <;> cases b <;> rfl
def Jm (ns:List Int):Hz [dH ns]=.ok (.bool true) false:=by
 show fin (yN By Ls JJ (gO IY 40) GN Lg HZ eV [.fz (dH ns),.no,.no,.no,.no,.no,.no] 0)=_
 refine eZ ?_
 unfold yN
 refine uw (ds:=dg 0 1) (β1:=0) (λ_ env _=>∃s1 s2 s3 s4 s5 s6,env= [.fz (dH ns),s1,s2,s3,s4,s5,s6]) (cU (n:=1) rfl (by omega)) ⟨_,_,_,_,_,_,rfl⟩ ?_ λenv β ⟨s1,s2,s3,s4,s5,s6,e⟩=>iI (d:=.bool true) rfl rfl
 rintro i d env β hi ⟨s1,s2,s3,s4,s5,s6,rfl⟩
 obtain⟨hi1,rfl⟩:=ip hi
 have hi0:i=0:=by omega
 rw[Og]
 refine⟨[.fz (dH ns),.fz (.int i),s2,s3,s4,s5,s6],rfl,?_⟩
 obtain⟨z,ez⟩:=GL ns i
 obtain⟨t3,t4,t5,t6,hcl⟩:∃t3 t4 t5 t6:Sl,(rP (aY ([0] ++ ([1] ++ [])) [.fz (dH ns),.fz (.int i),s2,s3,s4,s5,s6])).set 2 .bx= [.fz (dH ns),.fz (.int i),.bx,t3,t4,t5,t6]:=⟨_,_,_,_,rfl⟩
 refine FF (CG (ds:=[dH ns,.int i]) rfl ez) (wp_at _ hcl ?_)
 obtain⟨n,l,β1,e1,O,h6⟩:=Eg z
 refine dG (d:=ah n l) (β1:=β1) (l7 (ds:=[.int ((6:Nat):Int)]) rfl rfl e1) (wp_at (le ns i n l t4 t5 t6) rfl ?_)
 have hs:(xi n l).length<=39:=by have:=IT (l:=l) h6;omega
 obtain⟨rs,_,ew,hF⟩:=Mm O hs
 refine dG (au (ds:=[ah n l]) rfl ew) (wp_at (le ns i n l (.fz (.int (rs.length:Nat))) t5 t6) rfl ?_)
 refine uw (ds:=dg 1 4) (β1:=β1) (λ_ env β=>∃s5 s6,env=le ns i n l (.fz (.int (rs.length:Nat))) s5 s6) (Bz (i:=1) (j:=5) rfl rfl (by omega) (by omega)) ⟨_,_,rfl⟩ ?_ ?_
 ·rintro q d env β hq ⟨s5,s6,rfl⟩
  obtain⟨hq4,rfl⟩:=ip hq
  obtain⟨c,hc⟩:∃c:Nat,c=1 + q:=⟨_,rfl⟩
  rw[show (1:Int) + (q:Int)=(c:Int) by omega]
  refine⟨le ns i n l (.fz (.int (rs.length:Nat))) (.fz (.int (c:Int))) s6,rfl,?_⟩
  have cmp:∀(p:D) (b:Bool),rD p=b->(b=true↔rs.length<=c)->cz (f2 (f1 (gv 6) λd=>some (.bool (rD d))) (f2 (gv 5) (gv 4) LO) (cJ true)) (vl (le ns i n l (.fz (.int (rs.length:Nat))) (.fz (.int (c:Int))) (.fz p))) β=.ok false β:=λp b hp hb=>by
   refine cO _ _ _ _ (az (x:=.bool b) (y:=.bool (decide ((c:Int)>=(rs.length:Nat)))) (fo (x:=p) rfl (by rw[hp])) (az (x:=.int c) (y:=.int (rs.length:Nat)) rfl rfl rfl) ?_)
   rw[JS]
   have:b=decide ((c:Int)>=(rs.length:Nat)):=by
    rw[NS,hb,NC];omega
   rw[<-this];simp
  rcases Kb O hs (c:=c) (by omega) (by omega) with⟨hD,e⟩ | ⟨hD,t,zs,e,hz,hP⟩
  ·refine dG (d:=.none) (β1:=β) (au (ds:=[ah n l,.int (c:Int)]) rfl e) (wp_at (le ns i n l (.fz (.int (rs.length:Nat))) (.fz (.int (c:Int))) (.fz .none)) rfl ?_)
   refine bS (cmp .none true rfl ⟨λ_=>(hF.iff O (by omega)).mp hD,λ_=>rfl⟩) (wp_at (le ns i n l (.fz (.int (rs.length:Nat))) (.fz (.int (c:Int))) (.fz .none)) rfl ?_)
   exact yp rfl (n9 ⟨_,_,rfl,_,_,rfl⟩)
  ·refine dG (d:=.tuple [.str "turn",ao t,.tuple zs]) (β1:=β) (au (ds:=[ah n l,.int (c:Int)]) rfl e) (wp_at (le ns i n l (.fz (.int (rs.length:Nat))) (.fz (.int (c:Int))) (.fz (.tuple [.str "turn",ao t,.tuple zs]))) rfl ?_)
   refine bS (cmp (.tuple [.str "turn",ao t,.tuple zs]) false rfl ⟨λz=>(by cases z),λz=>absurd ((hF.iff O (by omega)).mpr z) hD⟩) (wp_at (le ns i n l (.fz (.int (rs.length:Nat))) (.fz (.int (c:Int))) (.fz (.tuple [.str "turn",ao t,.tuple zs]))) rfl ?_)
   refine KC rfl ?_
   refine wp_at (le ns i n l (.fz (.int (rs.length:Nat))) (.fz (.int (c:Int))) (.fz (.tuple [.str "turn",ao t,.tuple zs]))) rfl ?_
   obtain⟨b1,b2⟩:=CU 40 _ (List.replicate c []) 40 (by omega) hP (by rw[NX];omega) (λps hp=>by rw[Od hp];simp)
   have htt:t∈pE n l:=by
    rcases hP with⟨_,_,_,z,_⟩ | ⟨t',zs',z,h,_⟩
    ·exact absurd z (by intro z;injection z with z;injection z with z _;injection z with z;exact absurd z (by decide +kernel))
    ·injection z with z
     injection z with _ z
     injection z with z _
     rw[zW z];exact h
   have ep:aM 1 [] (.nm 0) (cD (gv 5)) jm (cC ag) (vl (le ns i n l (.fz (.int (rs.length:Nat))) (.fz (.int (c:Int))) (.fz (.tuple [.str "turn",ao t,.tuple zs])))) β=.ok (lq (List.replicate c [])) β:=by
    rw[ml (ds:=dg 0 c) (λ_=>PyData.list []) (cU (n:=c) rfl (by omega)) (by rw[eM];omega) λd hd=>⟨_,rfl,lp an⟩]
    congr 2
    rw[List.map_const',eM,Pl];rfl
   refine bS (bz (cM (au (ds:=[.tuple [.str "turn",ao t,.tuple zs],ah n l,lq (List.replicate c [])]) (ac rfl (ac rfl (ac ep an))) b2))) (wp_at (le ns i n l (.fz (.int (rs.length:Nat))) (.fz (.int (c:Int))) (.fz (.tuple [.str "turn",ao t,.tuple zs]))) rfl ?_)
   refine bS (cO _ _ _ _ (az (x:=.bool true) (y:=.bool true) (au (ds:=[.tuple [.str "turn",ao t,.tuple zs],ah n l,.int (c:Int)]) rfl (FY O (by omega) (by omega) b1)) rfl rfl)) (wp_at (le ns i n l (.fz (.int (rs.length:Nat))) (.fz (.int (c:Int))) (.fz (.tuple [.str "turn",ao t,.tuple zs]))) rfl ?_)
   have bf:=FY (c:=c + 1) O (by omega) (by omega) (Gu (m:=39) (zs:=zs) htt (pts:=List.replicate (c + 1) ([]:List Pr)) (by have:(List.replicate (c + 1) ([]:List Pr)).length=c + 1:=NX;omega))
   refine yp (cO _ _ _ _ (az (x:=.bool false) (y:=.bool false) (au (ds:=[.tuple [.str "turn",ao t,.tuple zs],ah n l,.int ((c + 1:Nat):Int)]) (ac rfl (ac rfl (ac (JZ rfl) an))) bf) rfl rfl)) (n9 ⟨_,_,rfl,_,_,rfl⟩)
 ·rintro env β ⟨s5,s6,rfl⟩
  subst hi0
  obtain⟨g,hg,eg⟩:=nW (m:=6) (by omega) (by omega) β
  generalize hβ2:β / ((6:Nat):Int)=β2 at eg
  have t:xj (cz (f2 (gv 1) (cst (.int 0)) (cJ false))) (cz (f2 (ox 2 eV (aa (cst (.int 6)) ag)) (cst (.int 5)) (cJ false))) (vl (le ns 0 n l (.fz (.int (rs.length:Nat))) s5 s6)) β=.ok (decide ((g:Int)=5)) β2:=by
   have t2:cz (f2 (ox 2 eV (aa (cst (.int 6)) ag)) (cst (.int 5)) (cJ false)) (vl (le ns 0 n l (.fz (.int (rs.length:Nat))) s5 s6)) β=.ok (decide ((g:Int)=5)) β2:=cG (neg:=false) (i:=g) (j:=5) (l7 (ds:=[.int 6]) (by rfl) rfl eg) rfl
   have t1:cz (f2 (gv 1) (cst (.int 0)) (cJ false)) (vl (le ns 0 n l (.fz (.int (rs.length:Nat))) s5 s6)) β=.ok true β:=cG (neg:=false) (i:=0) (j:=0) rfl rfl
   rw[uT,t1]
   exact t2
  by_cases qg:(g:Int)=5
  case neg=>rw[Nx qg] at t;exact yp t (n9 ⟨_,_,rfl,_,_,_,_,_,_,rfl⟩)
  rw[Ni qg] at t
  refine KC t (wp_at (le ns 0 n l (.fz (.int (rs.length:Nat))) s5 s6) rfl ?_)
  rcases Kb HU (c:=3) (by rw[Gg];simp) (by omega) (by omega) with⟨hD,_⟩ | ⟨_,t,zs,e,hz,hP⟩
  ·exact absurd hD JL
  obtain⟨_,b2⟩:=CU 40 _ (List.replicate 3 []) 40 (by omega) hP (by simp) (λps hp=>by rw[Od hp];simp)
  have ec:∀vs β,aw Lg ag vs β=.ok (ah 8 wW) β:=λvs β=>au (ds:=[]) rfl LW
  refine yp (bz (cM (au (ds:=[.tuple [.str "turn",ao t,.tuple zs],ah 8 wW,lq (List.replicate 3 [])]) (ac (au (ds:=[ah 8 wW,.int ((3:Nat):Int)]) (ac (ec _ _) (ac rfl an)) e) (ac (ec _ _) (ac (lp (ds:=[.list [],.list [],.list []]) (ac (lp an) (ac (lp an) (ac (lp an) an)))) an))) b2))) (n9 ⟨_,_,rfl,_,_,_,_,_,_,rfl⟩)
end RM
namespace RO
open PySem L2
abbrev lx:Stmt:=RQ.gu
abbrev oj:Stmt:=RQ.top 13
abbrev Fn (K:Frag)(mg:Str->Option Value)(x:Str)(st:Stmt)(ps:List Str)(f:Addr)(fd:FuncData):Prop:=gA K mg x st ps f fd
abbrev Bt (mg:Str->Option Value):Prop:=iq mg
end RO
section
namespace L2
open PySem PySem.Spec PyProof.Rows
section
variable {K:Frag}{H H':Hp}{a:Addr}
theorem bA.snoc {x y:Int}(q:gB K H a [.int x,.int y]):∀{vs:List V} {ps:List (Int×Int)},bA K H vs ps->bA K H (vs ++ [.ref a]) (ps ++ [(x,y)])
 |_,_,.nil=>.cons ⟨a,rfl,q⟩ .nil
 |_,_,.cons r t=>.cons r (bA.snoc q t)
def bA.len {vs:List V}{ps:List (Int×Int)}(h:bA K H vs ps):vs.length=ps.length:=Paired.length h
def bA.same {vs:List V}{ps:List (Int×Int)}(h:bA K H vs ps)(s:ax H H'):bA K H' vs ps:=h.grow s.grow
def bA.at {vs:List V}{ps:List (Int×Int)}{i:Nat}{v:V}(h:bA K H vs ps)(e:vs[i]? =some v):∃p:Int×Int,ps[i]? =some p/\∃b,v=.ref b/\gB K H b [.int p.1,.int p.2]:=Paired.getP h e
def ax.put {o:HO}(s:ax H H')(h:H a=none)(hf:∀x y,H' a≠some (.aY x y)):ax H (L2.upd H' a o):=λb u e=>lT (s b u e) (aO e h) hf
def Gn (h:H a=none):∀x y,H a≠some (.aY x y):=λx y z=>by rw[h] at z;cases z
def KS {xs:List V}(h:H a=some (.lst xs)):∀x y,H a≠some (.aY x y):=λx y z=>by rw[h] at z;cases z
end
end L2
namespace RO
open PySem L2
def CN (N:List Str)(sc:Scope)(NB:List Str)(own:Nat)(ixs:List Nat)(scope:Scope):Bool:=
 decide (scope.kind=.function) && (scope.names.all λy=>decide (scope.names.lookup y.1=some y.2)) &&
 (scope.names.all λy=>decide (y.2=.free->(sc.names.lookup y.1=some .cell\/sc.names.lookup y.1=some .free))) && decide NB.Nodup && decide (NB.length=own + ixs.length) &&
 ((List.range ixs.length).all λk=>decide (NB[own + k]? =N[ixs.getD k 0]?) && (match NB[own + k]? with |some x=>decide ((x,NameKind.free)∈scope.names) |none=>true))
def oD {X:Cx}{NB:List Str}{own:Nat}{ixs:List Nat}{scope:Scope}(h:CN X.N X.env.scope NB own ixs scope=true):cf X NB own ixs scope:=by
 unfold CN at h
 simp only[Ny,NQ,NC,NR] at h
 obtain⟨⟨⟨⟨⟨h1,h3⟩,h4⟩,h5⟩,h6⟩,h7⟩:=h
 refine⟨h1,h3,h4,h5,h6,λk hk=>⟨(h7 k hk).1,λx hx=>?_⟩⟩
 have:=(h7 k hk).2
 rw[hx] at this
 simpa using this
section
variable {X:Cx}{tg l:Expr}{tl:TE}{K:Frag}{H H1:Hp}{a:Addr}{xs:List V}{σ:St}
def Mc (K:Frag)(tl:TE):TI:=λσ H R=>tl σ H λx H1=>∃a xs,x=.ref a/\((iM K H1 a xs/\R (Ba K a) H1)\/(gB K H1 a xs/\R (Gq K a) H1))
end
def ME (K:Frag){X:Cx}(h:X.K=K:=by rfl):DA X (G8 K):=by subst h;exact i5
def Iw (K:Frag)(i j:Nat){X:Cx}{x y:Str}{px py pos:Pos}{k:Nat}(hN:X.N.Nodup)(hi:X.N[i]? =some x)(hj:X.N[j]? =some y)(hx:X.env.scope.names.lookup x=some .local)(hy:X.env.scope.names.lookup y=some .local)(hc:X.calm=true)(hK:X.K=K) :
  PG X (.Tuple [.Name x px,.Name y py] k pos) (Fd K 2 (qF (mV i) (qF (mV j) EV))):=by
 subst hK
 exact qK hc (fg (dC hN hi (Or.inl hx) (Or.inr hx)) (fg (dC hN hj (Or.inl hy) (Or.inr hy)) nH))
section
open PySem.Spec PyProof.Rows
variable {X:Cx}{tg l:Expr}{tl:TE}
def Gx (hl:PE X l tl):PI X tg l (Mc X.K tl):=by
 intro pins s σ H R I h
 refine cK (hl pins s σ H _ I h) λv s1 ⟨x,H1,I1,r1,q1⟩=>?_
 obtain⟨a,xs,e,q⟩:=q1
 subst e
 cases r1
 rcases q with⟨hq,q⟩ | ⟨hq,q⟩
 ·obtain⟨its,rv,p,hz⟩:=I1.list hq
  refine OP p.isList ?_
  refine⟨s1.heap.objs.size,[s1.heap.objs.size],_,_,H1,rfl,I1.kept (t':=s1.toks) λb o e=>Nd _ e,oy a _,⟨_,Nu _ rfl,rfl,rfl⟩,λb hb=>?_,q⟩
  have e:b=s1.heap.objs.size:=by simpa using hb
  subst e
  exact I1.fpOk (Na _) (I1.hok.fresh (Na _))
 ·obtain⟨its,rv,p,hz⟩:=I1.tuple hq
  refine OX (show s1.heap.IsTuple a its.toArray from p) ?_
  refine⟨s1.heap.objs.size,[s1.heap.objs.size],_,_,H1,rfl,I1.kept (t':=s1.toks) λb o e=>Nd _ e,qB a _,⟨_,Nu _ rfl,rfl,rfl⟩,λb hb=>?_,q⟩
  have e:b=s1.heap.objs.size:=by simpa using hb
  subst e
  exact I1.fpOk (Na _) (I1.hok.fresh (Na _))
end
section
variable {K:Frag}{H H1 H':Hp}{a:Addr}{xs:List V}{σ:St}
abbrev Jh (J:It)(g:TG)(tb:TS)(D:Ends)(σ:St)(H:Hp):Prop:=∃W:Nat->Nat->St->Hp->Prop,(∃m,W 0 m σ H)/\∀i m σ H,W i m σ H->
   (J.stop i H/\D.nx σ H)\/(J.go i H/\∃N:St->Hp->Prop,(∀σ' H',N σ' H'->∃m',m' < m/\W (i + 1) m' σ' H')/\∀x H',J.yld i H x H'->g x σ H' λσ2 H2=>tb {D with nx:=N,ct:=N,bk:=D.nx} σ2 H2)
def EM (s:ax H1 H')(hq:iM K H1 a xs\/gB K H1 a xs):iM K H' a xs\/gB K H' a xs:=hq.elim (λq=>.inl (s.seq q)) λq=>.inr (q.grow s.grow)
def Fm {g:TG}{tb:TS}{D:Ends}(hq:iM K H1 a xs\/gB K H1 a xs)(Pv:Nat->St->Hp->Prop)(h0:Pv 0 σ H)(hl:∀i σ H',Pv i σ H'->ax H1 H')
  (hs:∀i x σ H,xs[i]? =some x->Pv i σ H->g x σ H λσ2 H2=>tb {D with nx:=Pv (i + 1),ct:=Pv (i + 1),bk:=D.nx} σ2 H2) (hd:∀σ H,Pv xs.length σ H->D.nx σ H) :
  (iM K H a xs/\Jh (Ba K a) g tb D σ H)\/(gB K H a xs/\Jh (Gq K a) g tb D σ H):=
 hq.elim (λq=>.inl ⟨(hl _ _ _ h0).seq q,vt Pv h0 (λi σ H' _ p=>(hl i σ H' p).seq q) hs hd⟩) λq=>.inr ⟨q.grow (hl _ _ _ h0).grow,E3 Pv h0 (λi σ H' _ p=>q.grow (hl i σ H' p).grow) hs hd⟩
def yJ (J:It)(own:Nat)(ixs:List Nat)(g:TG)(tt:TT)(te:TE)(Q:VK)(D:Addr)(σ:St)(H:Hp):Prop:=∃W:Nat->Nat->St->Hp->Prop,(∃m,W 0 m (dQ own ixs σ) (upd H D (.lst [])))/\∀i m σ' H',W i m σ' H'->
   (J.stop i H'/\(∃acc,H' D=some (.lst acc))/\Q (.ref D) H')\/
   (J.go i H'/\∃N:St->Hp->Prop,(∀σ2 H2,N σ2 H2->∃m',m' < m/\W (i + 1) m' σ2 H2)/\∀x H2,J.yld i H' x H2->gi g tt te D x σ' H2 N)
structure wF (own:Nat)(ixs:List Nat)(wi:TI)(g:TG)(tt:TT)(te:TE)(σ:St)(H:Hp)(Q:VK):Prop where
 out:wi σ H λJ H1=>∀D,H1 D=none->yJ J own ixs g tt te Q D σ H1
def xJ {own:Nat}{ixs:List Nat}{wi:TI}{g:TG}{tt:TT}{te:TE}{Q:VK}(h:wi σ H λJ H1=>∀D,H1 D=none->yJ J own ixs g tt te Q D σ H1):wF own ixs wi g tt te σ H Q:=⟨h⟩
def t8 {X:Cx}{NB:List Str}{own:Nat}{ixs:List Nat}{scope:Scope}{tg iter elt:Expr}{ifs:List Expr}{wi:TI}{g:TG}{tt:TT}{te:TE}{pos:Pos}(hc:X.calm=true)(S:cf X NB own ixs scope)(hi:PI X tg iter wi)
  (hg:∀C ex s3 H3 pn,PG (jK X NB scope C ex s3 H3 pn) tg g) (ht:∀C ex s3 H3 pn,Dg (jK X NB scope C ex s3 H3 pn) ifs tt) (he:∀C ex s3 H3 pn,PE (jK X NB scope C ex s3 H3 pn) elt te)
  (hs:∀x,foldedSetIterable iter X.env x=pure x:=by intro _;rfl):PE X (.ListComp elt [⟨tg,iter,ifs,0⟩] scope pos) (wF own ixs wi g tt te):=
 λpins s σ H Q I h=>wR hc S hi hg ht he hs pins s σ H Q I h.out
section
variable {own:Nat}{ixs:List Nat}{g:TG}{tt:TT}{te:TE}{Q:VK}{D:Addr}
def Es (Pv:Nat->St->Hp->Prop)(h0:Pv 0 (dQ own ixs σ) (upd H D (.lst [])))(hl:∀i σ H,i<=xs.length->Pv i σ H->iM K H a xs)
  (hs:∀i x σ H,xs[i]? =some x->Pv i σ H->gi g tt te D x σ H (Pv (i + 1))) (hd:∀σ H,Pv xs.length σ H->(∃acc,H D=some (.lst acc))/\Q (.ref D) H):yJ (Ba K a) own ixs g tt te Q D σ H:=AE Pv h0 hl hs hd
def wt {lo:Int}{n:Nat}(Pv:Nat->St->Hp->Prop)(h0:Pv 0 (dQ own ixs σ) (upd H D (.lst [])))
  (hs:∀i σ H,i < n->Pv i σ H->gi g tt te D (.int (lo + i)) σ H (Pv (i + 1))) (hd:∀σ H,Pv n σ H->(∃acc,H D=some (.lst acc))/\Q (.ref D) H):yJ (Ae lo n) own ixs g tt te Q D σ H:=yc Pv h0 hs hd
end
def vH {i:Nat}{te:TE}{D:Addr}{x:V}{N:St->Hp->Prop}(h:te (σ.set i (some x)) H λv H5=>∃acc,H5 D=some (.lst acc)/\acc.length < sizeLine/\N (σ.set i (some x)) (upd H5 D (.lst (acc ++ [v])))):gi (mV i) II te D x σ H N:=by
 unfold gi mV II
 exact rj h
def Bk {i j:Nat}{x y:V}{Q:St->Hp->Prop}(h:gB K H a [x,y])(q:Q ((σ.set i (some x)).set j (some y)) H):Fd K 2 (qF (mV i) (qF (mV j) EV)) (.ref a) σ H Q:=⟨a,_,rfl,h,rfl,x,_,rfl,y,_,rfl,rfl,q⟩
def Mo {c A B:Prop}[Decidable c](h:c)(a:A):if c then A else B:=by rw[Nc h];exact a
def LG {c A B:Prop}[Decidable c](h:¬c)(b:B):if c then A else B:=by rw[Nk h];exact b
def take_snoc {α:Type}{l:List α}{i:Nat}{x:α}(h:l[i]? =some x):l.take (i + 1)=l.take i ++ [x]:=by
 rw[List.take_add_one,h];rfl
def take_all {α:Type}(l:List α):l.take l.length=l:=List.take_of_length_le (Na _)
end
def gq (n:Nat):(OM.dq n).length=n * n:=by unfold OM.dq;simp
def DP {n i:Nat}(h:i < n * n):(OM.dq n)[i]? =some (((i / n:Nat):Int),((i % n:Nat):Int)):=by
 unfold OM.dq
 rw[Nm,OU h];rfl
def ML {n:Nat}(h:n<=8):n * n<=64:=OK h h
section
variable {P:Program}{w:World}{K:Frag}{mg:Str->Option Value}{base:Heap}
def zD (K:Frag):Sp:=λvs H Q _=>∃n:Nat,vs= [.int n]/\1<=n/\n<=8/\∀H' l ws,ax H H'->H l=none->H' l=some (.lst ws)->bA K H' ws (OM.dq n)->Q (.ref l) H'
def ET:aF ["many"] ["many"] (ar lx):=⟨rfl,rfl,rfl,by decide +kernel,rfl,by decide +kernel,by decide +kernel⟩
def KH:(["number","many"]:List Str).Nodup:=by decide +kernel
def CA {f:Addr}{fd:FuncData}(F:Fn K mg "every_pair" lx ["many"] f fd)(B:Bt mg):fq P w K mg base GQ 1 f fd ["many"] (zD K):=by
 refine F.F.ok ET (λvs H Q E h=>?_) (λcdv A outer s H vs Q E hr h=>?_)
 ·obtain⟨n,rfl,_⟩:=h;rfl
 ·obtain⟨n,rfl,h1,h8,k⟩:=h
  refine⟨_,jL (oB (t8 (NB:=["number","many"]) (own:=1) (ixs:=[0]) rfl (oD (by kernel_rfl)) (mq rfl B.range (bc (tK lM (pv 0) (pv 0)) cp))
   (λC ex s3 H3 pn=>dC (i:=0) KH rfl (Or.inl rfl) (hf:=Or.inr rfl)) (λC ex s3 H3 pn=>uS)
   (λC ex s3 H3 pn=>yt (bc (tK uY (pv 0) (pv 1)) (bc (tK mY (pv 0) (pv 1)) cp))))),?_⟩
  have hn:=ML h8
  have e0:((n:Int) * (n:Int))=((n * n:Nat):Int):=by rw[Int.natCast_mul]
  refine xJ ⟨_,rfl,_,rfl,_,_,rfl,rfl,.inl ⟨by omega,by omega⟩,_,rfl,by rw[e0];omega,by rw[e0];omega,λD hD=>?_⟩
  rw[e0,NP]
  refine wt (λi σ' H'=>(∃v,σ'= [v,some (.int n)])/\ax H H'/\∃vs,H' D=some (.lst vs)/\bA K H' vs ((OM.dq n).take i)) ⟨⟨none,rfl⟩,(ax.refl H).put hD (Gn hD),[],aC,.nil⟩ ?_ ?_
  ·rintro i σ' H' hi ⟨⟨v,rfl⟩,s1,vs,hv,hp⟩
   have hn0:(0:Int) < (n:Int):=by omega
   refine vH ⟨_,rfl,_,rfl,_,_,rfl,rfl,⟨hn0,by omega⟩,_,rfl,_,rfl,_,_,rfl,rfl,hn0,by show 2<=sizeLine;rw[NV];omega,λp hp0=>?_⟩
   have hpD:D≠p:=aO hv hp0
   have hl:=hp.len
   refine⟨vs,by rw[aB hpD];exact hv,?_,⟨_,rfl⟩,?_,vs ++ [.ref p],aC,?_⟩
   ·rw[hl,NU,NV];rw[gq];omega
   ·exact (s1.put (s1.free hp0) (Gn hp0)).put hD (KS (xs:=vs) (by rw[aB hpD];exact hv))
   ·rw[take_snoc (DP hi)]
    have g1:jo H' (upd H' p (.tup [.int ((0 + (i:Int)) / n),.int ((0 + (i:Int)) % n)])):=jo.new hp0
    have g2:∀o,jo (upd H' p (.tup [.int ((0 + (i:Int)) / n),.int ((0 + (i:Int)) % n)])) (upd (upd H' p (.tup [.int ((0 + (i:Int)) / n),.int ((0 + (i:Int)) % n)])) D o):=λo=>jo.list (by rw[aB hpD];exact hv)
    refine bA.snoc ?_ (hp.grow (g1.trans (g2 _)))
    refine (gB.grow ?_ (g2 _))
    refine .inl (.inl ?_)
    rw[aC,Og];rfl
  ·rintro σ' H' ⟨_,s1,vs,hv,hp⟩
   refine⟨⟨_,hv⟩,k H' D vs s1 hD hv ?_⟩
   rw[<-gq n,take_all] at hp
   exact hp
end
end RO
end
namespace RO
open PySem L2
structure TabAt (n:Nat)(M:OM.Tb)(L:Addr)(r:Nat->Addr)(H:Hp):Prop where
 top:H L=some (.lst ((List.range n).map λi=>V.ref (r i)))
 row:∀i,i < n->H (r i)=some (.lst ((List.range n).map λj=>V.bl (M i j)))
 inj:∀i j,i < n->j < n->r i=r j->i=j
 ne:∀i,i < n->r i≠L
def zG {n x:Nat}(h:x < n):rN n (x:Int)=some x:=by
 unfold rN;rw[Nc (by omega),Nc (by omega)];simp
def BG {α:Type}{xs:List α}{x:Nat}(h:x < xs.length):lG xs (x:Int)=xs[x]?:=by
 unfold lG;rw[zG h];rfl
def h9 {f:Nat->V}{n x:Nat}(h:x < n):lG ((List.range n).map f) (x:Int)=some (f x):=by
 rw[BG (by simpa using h),Nm,OU h];rfl
def tM {f:Nat->V}{n x:Nat}(h:x < n):rN ((List.range n).map f).length (x:Int)=some x:=by
 rw[Nb,Oa];exact zG h
def Av {f:Nat->V}{n y:Nat}{v:V}:((List.range n).map f).set y v=(List.range n).map λj=>if j=y then v else f j:=by
 apply List.ext_getElem?
 intro i
 by_cases hi:i < n
 ·by_cases e:y=i
  ·subst e;simp[List.getElem?_set,hi]
  ·have e':¬i=y:=λz=>e z.symm
   simp[List.getElem?_set,hi,e,e']
 ·rw[Oq (by simp;omega),Oq (by simp;omega)]
section
variable {n:Nat}{M:OM.Tb}{L:Addr}{r:Nat->Addr}{H H':Hp}
def TabAt.set (T:TabAt n M L r H){x y:Nat}(hx:x < n):TabAt n (M.set x y) L r (upd H (r x) (.lst (((List.range n).map λj=>V.bl (M x j)).set y (.bl true)))):=by
 refine⟨by rw[aB (T.ne x hx).symm];exact T.top,λi hi=>?_,T.inj,T.ne⟩
 by_cases e:i=x
 ·subst e
  rw[aC,Av]
  refine congrArg _ (congrArg _ (Oz λj _=>?_))
  unfold OM.Tb.set
  by_cases c:j=y
  ·simp[c]
  ·simp[c]
 ·rw[aB (λz=>e (T.inj i x hi hx z)),T.row i hi]
  refine congrArg _ (congrArg _ (Oz λj _=>?_))
  unfold OM.Tb.set;simp[e]
def TabAt.same (T:TabAt n M L r H)(s:ax H H'):TabAt n M L r H':=⟨s _ _ T.top,λi hi=>s _ _ (T.row i hi),T.inj,T.ne⟩
end
def ur {n:Nat}{ps:List (Int×Int)}(w:OM.Wn n ps){p:Int×Int}(h:p∈ps):∃u v:Nat,p=((u:Int),(v:Int))/\u < n/\v < n:=by
 obtain⟨x,y⟩:=p
 have q:=w _ h
 simp only at q
 exact⟨x.toNat,y.toNat,by rw[Int.toNat_of_nonneg q.1.1,Int.toNat_of_nonneg q.2.1],by omega,by omega⟩
def j3 {M0 M:OM.Tb}{m:Nat}{D D':Nat->Nat->Prop}(P:OM.Phase M0 M m D)(h:∀a b,D a b↔D' a b):OM.Phase M0 M m D':=λa b=>by rw[P a b,h a b]
def mr {l:List (Int×Int)}{u v a b:Nat}:(((a:Int),(b:Int))∈l\/(a=u/\b=v))↔((a:Int),(b:Int))∈l ++ [((u:Int),(v:Int))]:=by
 rw[Nz,NG,Prod.mk.injEq]
 constructor
 ·rintro (h | ⟨h1,h2⟩)
  ·exact .inl h
  ·exact .inr ⟨by omega,by omega⟩
 ·rintro (h | ⟨h1,h2⟩)
  ·exact .inl h
  ·exact .inr ⟨by omega,by omega⟩
def Fj {M:OM.Tb}{u v a b:Nat}:M.set u v a b=true↔M a b=true\/(a=u/\b=v):=by
 unfold OM.Tb.set
 by_cases c:a=u/\b=v
 ·simp[c]
 ·rw[Nk c];exact⟨.inl,λh=>h.resolve_right c⟩
def Ko (n:Nat)(x:V):(List.replicate n [x]).flatten=(List.range n).map λ_=>x:=by
 rw[List.flatten_replicate_singleton,List.map_const',Oa]
section
variable {P:Program}{w:World}{K:Frag}{mg:Str->Option Value}{base:Heap}
def BU (K:Frag):Sp:=λvs H Q _=>∃(n:Nat) (a:Addr) (xs:List V) (ps:List (Int×Int)),vs= [.int n,.ref a]/\1<=n/\n<=8/\(iM K H a xs\/gB K H a xs)/\bA K H xs ps/\OM.Wn n ps/\
 ∀H' t ws,ax H H'->H t=none->H' t=some (.tup ws)->bA K H' ws (OM.i6 n (OM.Tr (OM.Mem ps)))->Q (.ref t) H'
def hZ:aF ["many","pairs","corners","leads","a","b","middle"] ["many","pairs"] (ar oj):=⟨rfl,rfl,rfl,by decide +kernel,rfl,by decide +kernel,by decide +kernel⟩
def Ke:(["start","many"]:List Str).Nodup:=by decide +kernel
def HV:(["a","b","leads"]:List Str).Nodup:=by decide +kernel
set_option maxHeartbeats 1000000 in
theorem Ap {f g:Addr}{fd gd:FuncData}(F:Fn K mg "closed" oj ["many","pairs"] f fd)(G:Fn K mg "every_pair" lx ["many"] g gd)(GE:fq P w K mg base GQ 1 g gd ["many"] (zD K))(B:Bt mg):fq P w K mg base GQ 2 f fd ["many","pairs"] (BU K):=by
 refine F.F.ok hZ (λvs H Q E h=>?_) (λcdv A outer s H vs Q E hr h=>?_)
 ·obtain⟨n,a,xs,ps,rfl,_⟩:=h;rfl
 ·obtain⟨n,a,xs,ps,rfl,h1,h8,hq,hp,wn,k⟩:=h
  refine⟨_,ju (qd (i:=2) hZ.nd rfl (Or.inl rfl) (nK GE hr rfl G.mg G.F.kp G.b .nil Kv (bc (pv 0) cp)))
   (ju (qd (i:=3) hZ.nd rfl (Or.inr rfl) (t8 (NB:=["start","many"]) (own:=1) (ixs:=[0]) rfl (oD (by kernel_rfl)) (mq rfl B.range (bc (pv 0) cp))
    (λC ex s3 H3 pn=>dC (i:=0) Ke rfl (Or.inl rfl) (hf:=Or.inr rfl)) (λC ex s3 H3 pn=>uS) (λC ex s3 H3 pn=>tK Df (Dz (bc yR cp)) (pv 1))))
   (ju (t7 PassesOwn.never rfl (Gx (pv 1)) (qK rfl (fg (dC (i:=4) hZ.nd rfl (Or.inl rfl)) (fg (dC (i:=5) hZ.nd rfl (Or.inl rfl)) nH)))
    (jL (rl yR (vg (mR i5 (pv 3) (pv 4) (λ_ _=>rfl)) (pv 5) set_list))))
   (ju (t7 PassesOwn.never rfl (mq rfl B.range (bc (pv 0) cp)) (dC (i:=6) hZ.nd rfl (Or.inl rfl))
    (jL (t7 PassesOwn.never rfl (zv (pv 2)) (qK rfl (fg (dC (i:=4) hZ.nd rfl (Or.inl rfl)) (fg (dC (i:=5) hZ.nd rfl (Or.inl rfl)) nH)))
     (jL (FK (PW.pt (Cd (yf (mR i5 (mR i5 (pv 3) (pv 4) (λ_ _=>rfl)) (pv 6) (λ_ _=>rfl))) (zK (yf (mR i5 (mR i5 (pv 3) (pv 6) (λ_ _=>rfl)) (pv 5) (λ_ _=>rfl))))))
      (jL (rl yR (vg (mR i5 (pv 3) (pv 4) (λ_ _=>rfl)) (pv 5) set_list))) zh)))))
   (jL (oB (mn cQ rfl B.tuple (by decide +kernel) (bc (t8 (NB:=["a","b","leads"]) (own:=2) (ixs:=[3]) rfl (oD (by kernel_rfl)) (zv (pv 2))
    (λC ex s3 H3 pn=>Iw K 0 1 HV rfl rfl rfl rfl rfl rfl)
    (λC ex s3 H3 pn=>yQ (yf (mR (ME K) (mR (ME K) (pv 2) (pv 0) (λ_ _=>rfl)) (pv 1) (λ_ _=>rfl)))) (λC ex s3 H3 pn=>yt (bc (pv 0) (bc (pv 1) cp)))) cp))))))),?_⟩
  have hn:=ML h8
  have hn0:(0:Int)<=(n:Int):=by omega
  refine⟨_,rfl,n,rfl,h1,h8,λH1 c ws s1 hc0 hc hw=>?_⟩
  have hwl:ws.length=n * n:=by rw[hw.len,gq]
  have gw:OM.Wn n (OM.dq n):=λp hp=>OM.bV.mp hp
  refine xJ ?_
  refine⟨_,rfl,n,rfl,by omega,by omega,λD hD=>?_⟩
  rw[NP]
  refine wt (λi σ' H'=>(∃v,σ'= [v,some (.int n)])/\ax H1 H'/\∃r:Nat->Addr,H' D=some (.lst ((List.range i).map λk=>V.ref (r k)))/\
   (∀k,k < i->H' (r k)=some (.lst ((List.range n).map λ_=>V.bl false))/\H1 (r k)=none/\r k≠D)/\∀j k,j < i->k < i->r j=r k->j=k)
   ?_ ?_ ?_
  ·exact⟨⟨none,rfl⟩,(ax.refl H1).put hD (Gn hD),λ_=>0,aC,λk hk=>absurd hk (Nat.not_lt_zero _),λj k hj=>absurd hj (Nat.not_lt_zero _)⟩
  ·rintro i σ' H' hi ⟨⟨v,rfl⟩,s2,r,hr0,hr1,hr2⟩
   refine vH ⟨by show 1<=sizeLine;rw[NV];omega,λp hp0=>⟨_,rfl,p,n,[.bl false],rfl,rfl,aC,by omega,by omega,by show 1 * (n:Int).toNat<=sizeLine;rw[NV];omega,λq hq0=>?_⟩⟩
   have hqp:q≠p:=by intro e;subst e;rw[aC] at hq0;cases hq0
   have hq1:H' q=none:=by rw[aB hqp] at hq0;exact hq0
   have hDp:D≠p:=aO hr0 hp0
   have hDq:D≠q:=aO hr0 hq1
   rw[NP,Ko]
   refine⟨_,by rw[aB hDq,aB hDp];exact hr0,by rw[Nb,Oa,NV];omega,⟨_,rfl⟩,((s2.put (s2.free hp0) (Gn hp0)).put (s2.free hq1) (Gn hq0)).put hD (KS (by rw[aB hDq,aB hDp];exact hr0)),λk=>if k=i then q else r k,?_,λk hk=>?_,λj k hj hk e=>?_⟩
   ·have e:(List.range i).map (λk=>V.ref (r k))=(List.range i).map (λk=>V.ref (if k=i then q else r k)):=Oz λk hk=>by
     have:=NR.mp hk
     rw[Nk (by omega)]
    rw[aC,List.range_succ,NT,e]
    simp
   ·dsimp only
    by_cases e:k=i
    ·rw[Nc e]
     exact⟨by rw[aB hDq.symm,aC],s2.free hq1,hDq.symm⟩
    ·rw[Nk e]
     obtain⟨a1,a2,a3⟩:=hr1 k (by omega)
     exact⟨by rw[aB a3,aB (aO a1 hq1),aB (aO a1 hp0)];exact a1,a2,a3⟩
   ·dsimp only at e
    by_cases ej:j=i
    ·by_cases ek:k=i
     ·omega
     ·rw[Nc ej,Nk ek] at e
      exact absurd e.symm (aO (hr1 k (by omega)).1 hq1)
    ·by_cases ek:k=i
     ·rw[Nk ej,Nc ek] at e
      exact absurd e (aO (hr1 j (by omega)).1 hq1)
     ·rw[Nk ej,Nk ek] at e
      exact hr2 j k (by omega) (by omega) e
  rintro σ2 H2 ⟨_,s2,r,hr0,hr1,hr2⟩
  refine⟨⟨_,hr0⟩,?_⟩
  have sep:∀i,i < n->H1 (r i)=none:=λi hi=>(hr1 i hi).2.1
  have T0:TabAt n (λ_ _=>false) D r H2:=⟨hr0,λi hi=>(hr1 i hi).1,hr2,λi hi=>(hr1 i hi).2.2⟩
  refine⟨_,rfl,a,xs,rfl,Fm (H1:=H1) (EM s1 hq) (λi σ' H'=>(∃x y,σ'= [some (.int n),some (.ref a),some (.ref c),some (.ref D),x,y,none])/\ax H1 H'/\∃M,TabAt n M D r H'/\∀u v:Nat,M u v=true↔((u:Int),(v:Int))∈ps.take i)
   ⟨⟨none,none,rfl⟩,s2,_,T0,λu v=>by simp⟩ (λi σ' H' q=>q.2.1) ?_ ?_⟩
  ·rintro i x σ' H' hx ⟨⟨_,_,rfl⟩,s3,M,T,hM⟩
   obtain⟨p,hpi,b,rfl,hb⟩:=(hp.same (s1.trans s3)).at hx
   obtain⟨u,v,rfl,hu,hv⟩:=ur wn (Nw hpi)
   refine Bk hb ?_
   refine⟨_,rfl,_,rfl,D,_,u,_,rfl,rfl,.inl (.inl T.top),h9 hu,_,rfl,r u,_,v,v,rfl,rfl,T.row u hu,tM hv,⟨_,_,rfl⟩,s3.put (sep u hu) (KS (T.row u hu)),_,T.set hu,λx y=>?_⟩
   rw[take_snoc hpi,<-mr,Fj,hM]
  rintro σ3 H3 ⟨⟨x3,y3,rfl⟩,s3,M3,T3,hM3⟩
  rw[hp.len,take_all] at hM3
  refine⟨_,rfl,n,rfl,by omega,by omega,?_⟩
  rw[NP]
  refine A9 (λm σ' H'=>(∃x y z,σ'= [some (.int n),some (.ref a),some (.ref c),some (.ref D),x,y,z])/\ax H1 H'/\∃M,TabAt n M D r H'/\OM.Tab n ps M/\OM.E5 M m)
   ⟨⟨_,_,_,rfl⟩,s3,M3,T3,⟨λa b h=>by have:=wn _ ((hM3 a b).mp h);simp only at this;omega,λa b h=>(hM3 a b).mpr h,λa b h=>.one ((hM3 a b).mp h)⟩,λk a b hk=>absurd hk (Nat.not_lt_zero _)⟩ ?_ ?_
  ·rintro m σ' H' hm ⟨⟨_,_,_,rfl⟩,s4,M,T,TT,Th⟩
   rw[Og]
   refine⟨_,rfl,c,rfl,⟨ws,.inl (.inl (s4 _ _ hc))⟩,vt (xs:=ws) (λi σ' H'=>(∃x y,σ'= [some (.int n),some (.ref a),some (.ref c),some (.ref D),x,y,some (.int m)])/\ax H1 H'/\∃M',TabAt n M' D r H'/\OM.Phase M M' m λu v=>((u:Int),(v:Int))∈(OM.dq n).take i)
    ⟨⟨_,_,rfl⟩,s4,M,T,j3 (OM.Phase.start M m) λa b=>by simp⟩ (λi σ' H' _ q=>.inl (.inl (q.2.1 _ _ hc))) ?_ ?_⟩
   ·rintro i x σ' H' hx ⟨⟨_,_,rfl⟩,s5,M',T',Ph⟩
    obtain⟨p,hpi,b,rfl,hb⟩:=(hw.same s5).at hx
    obtain⟨u,v,rfl,hu,hv⟩:=ur gw (Nw hpi)
    refine Bk hb ?_
    have st:=Ph.step u v
    refine⟨_,rfl,_,rfl,D,_,u,_,rfl,rfl,.inl (.inl T'.top),h9 hu,_,rfl,r u,_,m,_,rfl,rfl,.inl (.inl (T'.row u hu)),h9 hm,_,rfl,?_⟩
    by_cases c1:M' u m=true
    ·refine Mo c1 ?_
     refine⟨_,rfl,_,rfl,D,_,m,_,rfl,rfl,.inl (.inl T'.top),h9 hm,_,rfl,r m,_,v,_,rfl,rfl,.inl (.inl (T'.row m hm)),h9 hv,_,rfl,?_⟩
     by_cases c2:M' m v=true
     ·refine Mo c2 ?_
      rw[Nc ⟨c1,c2⟩] at st
      refine⟨_,rfl,_,rfl,D,_,u,_,rfl,rfl,.inl (.inl T'.top),h9 hu,_,rfl,r u,_,v,v,rfl,rfl,T'.row u hu,tM hv,⟨_,_,rfl⟩,s5.put (sep u hu) (KS (T'.row u hu)),_,T'.set hu,j3 st λa b=>?_⟩
      rw[take_snoc hpi];exact mr
     ·refine LG c2 ?_
      rw[Nk λz=>c2 z.2] at st
      refine⟨⟨_,_,rfl⟩,s5,_,T',j3 st λa b=>?_⟩
      rw[take_snoc hpi];exact mr
    ·refine LG c1 ?_
     rw[Nk λz=>c1 z.1] at st
     refine rF ⟨⟨_,_,rfl⟩,s5,_,T',j3 st λa b=>?_⟩
     rw[take_snoc hpi];exact mr
   ·rintro σ' H' ⟨⟨_,_,rfl⟩,s5,M',T',Ph⟩
    rw[hw.len,take_all] at Ph
    have dn:=Ph.done (n:=n) (λa b ha hb=>OM.bV.mpr ⟨⟨by simp,by simp;omega⟩,by simp,by simp;omega⟩) TT.inn Th
    exact⟨⟨_,_,_,rfl⟩,s5,M',T',TT.phase Ph,dn.1⟩
  rintro σ4 H4 ⟨⟨x4,y4,z4,rfl⟩,s4,M,T,TT,Th⟩
  refine xJ ⟨_,rfl,c,rfl,⟨ws,.inl (.inl (s4 _ _ hc))⟩,λD' hD'=>Es (xs:=ws) (λi σ' H'=>(∃x y,σ'= [x,y,some (.ref D)])/\ax H4 H'/\∃vs,H' D'=some (.lst vs)/\bA K H' vs (((OM.dq n).take i).filter λp=>M p.1.toNat p.2.toNat))
   ⟨⟨_,_,rfl⟩,(ax.refl H4).put hD' (Gn hD'),[],aC,.nil⟩ (λi σ' H' _ q=>.inl (.inl (q.2.1 _ _ (s4 _ _ hc)))) ?_ ?_⟩
  ·rintro i x σ' H' hx ⟨⟨_,_,rfl⟩,s5,vs,hv,hpv⟩
   obtain⟨p,hpi,b,rfl,hb⟩:=(hw.same (s4.trans s5)).at hx
   obtain⟨u,v,rfl,hu,hv'⟩:=ur gw (Nw hpi)
   refine Bk hb ?_
   have T':=T.same s5
   refine⟨_,rfl,_,rfl,D,_,u,_,rfl,rfl,.inl (.inl T'.top),h9 hu,_,rfl,r u,_,v,_,rfl,rfl,.inl (.inl (T'.row u hu)),h9 hv',_,rfl,?_⟩
   by_cases c1:M u v=true
   ·refine Mo c1 ?_
    refine⟨_,rfl,_,rfl,by show 2<=sizeLine;rw[NV];omega,λp hp0=>?_⟩
    have hpD:D'≠p:=aO hv hp0
    refine⟨vs,by rw[aB hpD];exact hv,?_,⟨_,_,rfl⟩,(s5.put (s5.free hp0) (Gn hp0)).put hD' (KS (by rw[aB hpD];exact hv)),_,aC,?_⟩
    ·rw[hpv.len]
     refine Nat.lt_of_le_of_lt (NZ ..) ?_
     rw[NU,gq,NV];omega
    ·rw[take_snoc hpi,List.filter_append,List.filter_cons_of_pos (by simpa using c1),List.filter_nil]
     have g1:jo H' (upd H' p (.tup [.int u,.int v])):=jo.new hp0
     have g2:∀o,jo (upd H' p (.tup [.int u,.int v])) (upd (upd H' p (.tup [.int u,.int v])) D' o):=λo=>jo.list (by rw[aB hpD];exact hv)
     refine bA.snoc ?_ (hpv.grow (g1.trans (g2 _)))
     exact gB.grow (.inl (.inl aC)) (g2 _)
   ·refine LG c1 ?_
    refine⟨⟨_,_,rfl⟩,s5,vs,hv,?_⟩
    rw[take_snoc hpi,List.filter_append,List.filter_cons_of_neg (by simpa using c1),List.filter_nil,Oy]
    exact hpv
  ·rintro σ' H' ⟨_,s5,vs,hv,hpv⟩
   rw[hw.len,take_all] at hpv
   refine⟨⟨_,hv⟩,D',vs,rfl,.inl ⟨.inl (.inl hv),λt ht=>?_⟩⟩
   have sA:ax H H':=(s1.trans s4).trans s5
   refine k _ t vs (sA.put (sA.free ht) (Gn ht)) (sA.free ht) aC ?_
   have e:((OM.dq n).filter λp=>M p.1.toNat p.2.toNat)=OM.i6 n (OM.Tr (OM.Mem ps)):=by
    unfold OM.i6
    refine Pu λp hp=>?_
    obtain⟨u,v,rfl,hu,hv⟩:=ur gw hp
    have:=TT.all wn Th u v
    simp only[NP]
    rw[NS,this]
    simp
   rw[e] at hpv
   exact hpv.grow (jo.new ht)
end
end RO
namespace RO
open PySem L2 RM
section
variable {P:Program}{w:World}{K:Frag}{mg:Str->Option Value}{base:Heap}{ca:Str->Addr}
def MZ {k:Nat}{f:Addr}{fd:FuncData}{ps:List Str}{sp:Sp}(F:fq P w K mg base GQ k f fd ps sp):fq P w K mg base (nE P w) k f fd ps sp:=
 ⟨F.len,λA outer s H args us vs Q E hr he hb hv hs=>codeAny_mono (F.run A outer s H args us vs Q E hr he hb hv hs) λr s' h=>by
  cases r with
  |ok x=>cases x <;> exact h
  |error e=>exact h.elim⟩
def xl {G H:Hp}(s:ax G H){ws:List V}{ps:List Pr}(h:bA K H ws ps):bA K (jw G H) ws ps:=Paired.mapP h λv p ⟨a,e,q⟩=>⟨a,e,nD s q⟩
def rC {ds:List D}(h:dY ds≠.bad):∃(n:Nat) (d:D) (ps:List Pr),ds= [.int n,d]/\pN d=some (ps.map ao)/\1<=n/\n<=8/\OM.Wn n ps/\dY ds=.ok (.tuple ((OM.i6 n (OM.Tr (OM.Mem ps))).map ao)) false:=by
 unfold dY at h
 split at h
 ·rename_i n d
  cases q:pN d with
  |none=>rw[q] at h;exact absurd rfl h
  |some es=>
   rw[q] at h
   dsimp only at h
   cases q2:jH es with
   |none=>rw[q2] at h;exact absurd rfl h
   |some ps=>
    rw[q2] at h
    dsimp only at h
    by_cases c:1<=n/\n<=8/\OM.Wn n.toNat ps
    ·have e:((n.toNat:Nat):Int)=n:=by omega
     refine⟨n.toNat,d,ps,by rw[e],by rw[q,mj q2],by omega,by omega,c.2.2,?_⟩
     unfold dY
     dsimp only
     rw[q]
     dsimp only
     rw[q2]
     dsimp only
     rw[Nc c]
    ·rw[Nk c] at h;exact absurd rfl h
 ·exact absurd rfl h
def ym {f g:Addr}{fd gd:FuncData}(F:gA K mg "closed" oj ["many","pairs"] f fd)(E:gA K mg "every_pair" lx ["many"] g gd)(B:iq mg):bR P w K mg base ca "closed" ["many","pairs"] 3 dY:=by
 refine⟨⟨f,fd,F.mg,F.F.kp,F.b,((MZ (Ap F E (CA E B) B)).mono (by decide)).imp ?_⟩,λds h=>?_⟩
 ·rintro vs H Q X ⟨G,ds,s,hl,r,h⟩
  have hb:dY ds≠.bad:=λz=>by rw[z] at h;exact h
  obtain⟨n,d,ps,rfl,hd,h1,h8,wn,e⟩:=rC hb
  rw[e] at h
  cases r with
  |cons r1 r=>
   cases r with
   |cons r2 r=>
    cases r
    cases r1
    obtain⟨a,xs,rfl,hq,hr⟩:=(mw.seq (B:=none) (G:=G) (H:=G) (.inl r2) hd (ax.refl _))
    refine⟨n,a,xs,ps,rfl,h1,h8,hq.elim (λq=>.inl (s.seq q)) (λq=>.inr (q.grow s.grow)),(hr.pairs).grow s.grow,wn,λH' t ws hh ht ht' hp=>?_⟩
    have s2:=s.trans hh
    refine h (.ref t) (jw G H') H' hh oz (n0 s2) (λb m hb=>by rw[uQ hh m];exact hb) ?_
    exact .tup (nD s2 (.inl (.inl ht'))) (bA.rps (xl s2 hp))
 ·obtain⟨n,d,ps,rfl,_⟩:=rC h
  rfl
end
end RO
namespace HD
open PySem PySem.W
noncomputable abbrev Dj:=@PySem.W.Fast.tw10156331382660048174
noncomputable abbrev Ia:=@PySem.W.Fast.tw11892475500146522536
noncomputable abbrev L3:=@PySem.W.Fast.tw6613529449190102663
noncomputable abbrev GI:=@PySem.W.Fast.tw14364793385576792824
noncomputable abbrev F0:=@PySem.W.Fast.tw17154629097778926822
noncomputable abbrev Dc:=@PySem.W.Fast.tw12822647523644345616
noncomputable def Bp (p:Program):Thread:=
 ⟨do
  let code <-F0 p.main
  let frame <-Dc code mainNs mainNs
  let _ <-run (.body (behindTheImports p) {scope:=p.main.scope,locals:=mainNs,globals:=mainNs,cells:=[],code,frame:=some frame})
  ret .none,
  .builtin "claim.caller" {},default,[]⟩
def B5 (p:Program):topStub p=Bp p:=by
 unfold topStub Bp F0 Dc
 rw[<-PySem.W.Fast.te17154629097778926822,<-PySem.W.Fast.te12822647523644345616]
noncomputable def pS (p:Program)(w:World)(n₀:Nat)(ann:Option Value):Nat->SharedT->Thread->Option SharedT
 | 0,_,_=>none
 |n + 1,s,t=>match through t with
  |true=>some s
  |false=>match L3 n₀ ann t with
   |false=>none
   |true=>match Dj (Ia GI) p w s t with
    |some (s',t')=>pS p w n₀ ann n s' t'
    |none=>none
theorem tI {p:Program}{w:World}{n₀:Nat}{ann:Option Value}:∀{n:Nat} {s s':SharedT} {t:Thread},pS p w n₀ ann n s t=some s'->topRun treeTable p w n₀ ann n s.abs t=some s'.abs
 | 0,_,_,_,h=>by cases h
 |n + 1,s,s',t,h=>by
  unfold pS at h
  unfold topRun
  cases ht:through t with
  |true=>rw[ht] at h;cases h;rfl
  |false=>
   rw[ht] at h
   have hq:L3 n₀ ann t=stepOk n₀ ann t:=by unfold L3;rw[<-PySem.W.Fast.te6613529449190102663]
   dsimp only at h
   rw[hq] at h
   cases hk:stepOk n₀ ann t with
   |false=>rw[hk] at h;cases h
   |true=>
    rw[hk] at h
    have hq:Dj (Ia GI) p w s t=stepT (denote treeTable) p w s t:=by unfold Dj Ia GI;rw[<-PySem.W.Fast.te10156331382660048174,<-PySem.W.Fast.te11892475500146522536,<-PySem.W.Fast.te14364793385576792824]
    dsimp only at h
    rw[hq] at h
    cases hs:stepT (denote treeTable) p w s t with
    |none=>rw[hs] at h;cases h
    |some r=>obtain⟨s₂,t₂⟩:=r;rw[hs] at h;rw[stepT_spec hs];exact tI h
def treeOf (l:List Obj):BT:=(l.foldl (λ(x:BT×Nat) o=>(x.1.ins x.2 o,x.2 + 1)) (.nil,0)).1
noncomputable def BI (P:Params):BT:=treeOf (boot_heap P).objs.toList
abbrev vP:Nat:=11
abbrev BW:Life:={}
def boot_abs (P:Params):absHeap (BI P) vP BW=boot_heap P:=by kernel_rfl
def AA (w:World):((boot_heap w.params).isNs mainGlobals && (Array.mk ([]:List GenState)).size == 0,(boot_heap w.params).objs.size,(boot_heap w.params).nsMap mainGlobals "__annotations__")=(true,vP,some (.ref 6)):=by kernel_rfl
noncomputable def Ce (w:World)(os:OsState):SharedT:=⟨BI w.params,vP,BW,Array.mk [],boot_drawn,boot_toks,os⟩
noncomputable def Gd (p:Program)(w:World)(s:Shared):Bool:=staticsOk (importedModules p.main.body) (boot_heap w.params) s.heap && namesBound p s.heap && gensDone s && laidKept (boot_heap w.params) s.heap
def D1 {p q:Program}{loose:List Str}{Xt:Shared->Bool}{α:Type}{Yf:Shared->α}{Ya:World->α}{N:Nat}{g0:Bool}
  (e:opening p=plainProg p.main.scope.names) (hN:Nat.ble 600 N=true) (f:∀s,fenceModules? p s=some s)
  (run:∀(w:World) (os:OsState),(pS p w vP (some (.ref 6)) N (Ce w os) (Bp p)).map (λs=>(Gd p w s.abs,openSeen q loose (importedModules p.main.body) Xt g0 s.abs,Yf s.abs))=some (true,openGood q loose,Ya w)):LeftO p q loose Xt Yf Ya N g0:=λw=>by
 obtain⟨⟨h,gs,d,k,os⟩,e,e'⟩:=Option.map_eq_some_iff.mp (boot_open e hN f w)
 obtain⟨rfl,rfl,rfl,rfl⟩:h=boot_heap w.params/\gs=Array.mk []/\d=boot_drawn/\k=boot_toks:=by simpa using e'
 obtain⟨z1,z2,z3⟩:_/\_/\_:=by simpa only [Prod.mk.injEq] using AA w
 obtain⟨s',r,ls⟩:=Option.map_eq_some_iff.mp (run w os)
 obtain⟨l1,l2,l3⟩:_/\_/\_:=by simpa only [Prod.mk.injEq] using ls
 have r:=tI r
 have ha:(Ce w os).abs=⟨boot_heap w.params,Array.mk [],boot_drawn,boot_toks,os⟩:=by
  show Shared.mk (absHeap (BI w.params) vP BW) _ _ _ _=_
  rw[boot_abs]
  rfl
 rw[ha,<-B5] at r
 have t:topFrom treeTable p w N ⟨boot_heap w.params,Array.mk [],boot_drawn,boot_toks,os⟩=some s'.abs:=by
  unfold topFrom
  dsimp only
  rw[z1,z2,z3,r]
  show (match Gd p w s'.abs with |true=>_ |false=>_)=_
  rw[l1]
 unfold openEnds
 rw[e]
 show (topFrom treeTable p w N _).map _=_
 rw[t]
 exact congrArg some (Prod.ext l2 l3)
end HD
section
namespace RO
open PySem L2 RM
def Hn {T:Addr}{K:Frag}{ca:Str->Addr}(vs:List V)(H:Hp)(Q:VK)(E:XK)(h:uj T K vs H Q E):spT T K ca 1 Hz vs H Q E:=by
 obtain⟨a,ns,rfl,hT,hS,q⟩:=h
 refine⟨H,[dH ns],Mg hT,ax.refl _,rfl,.cons (.scr hS) .nil,?_⟩
 rw[Jm]
 intro v G' H' s1 s2 s3 s4 fv
 have fv:Rp K G' v (.bool true):=fv
 cases fv
 exact q H' s1
def yn:aR "is_whole" RQ.lh ["thing"]:=λ_ _ _ _ _ _=>zL λ_=>rfl
def yz:aR "is_below" RQ.lg ["thing","bound"]:=λ_ _ _ _ _ _=>ln2 λ_ _=>rfl
def AY:aR "is_many" RQ.mN ["thing"]:=λ_ _ _ _ _ _=>zL λ_=>rfl
def AD:aR "is_pair" RQ.mJ ["thing","many"]:=λ_ _ _ _ _ _=>ln2 λ_ _=>rfl
def uL:aR "every_pair" RQ.gu ["many"]:=λ_ _ _ _ _ _=>zL λ_=>rfl
def B8:aR "closed" oj ["many","pairs"]:=λ_ _ _ _ _ _=>ln2 λ_ _=>rfl
def yD:aR "has_ring" RQ.kT ["pairs"]:=λ_ _ _ _ _ _=>zL λ_=>rfl
def xT:aR "is_order" RQ.kW ["thing"]:=λ_ _ _ _ _ _=>zL λ_=>rfl
def uc:aR "need_order" RQ.iO ["thing"]:=λ_ _ _ _ _ _=>zL λ_=>rfl
def wy:aR "are_apart" RQ.j5 ["order","a","b"]:=λ_ _ _ _ _ _=>Bc λ_ _ _=>rfl
def vh:aR "with_thing" RQ.iR ["placed","thing"]:=λ_ _ _ _ _ _=>ln2 λ_ _=>rfl
def sC:aR "masks_ahead" RQ.g7 ["order"]:=λ_ _ _ _ _ _=>zL λ_=>rfl
def se:aR "free_things" RQ.gW ["masks","placed"]:=λ_ _ _ _ _ _=>ln2 λ_ _=>rfl
def wa:aR "row_along" RQ.j4 ["masks","late"]:=λ_ _ _ _ _ _=>ln2 λ_ _=>rfl
def Fy:aR "turns" RQ.p0 ["order"]:=λ_ _ _ _ _ _=>zL λ_=>rfl
def yv:aR "is_sharp" RQ.kM ["order","a","b"]:=λ_ _ _ _ _ _=>Bc λ_ _ _=>rfl
def rX:aR "sharp_turns" RQ.g8 ["order"]:=λ_ _ _ _ _ _=>zL λ_=>rfl
def Bb:aR "is_turn" RQ.l9 ["thing","order"]:=λ_ _ _ _ _ _=>ln2 λ_ _=>rfl
def wU:aR "are_turns" RQ.j9 ["thing","order"]:=λ_ _ _ _ _ _=>ln2 λ_ _=>rfl
def xm:aR "leads_on" RQ.kN ["order","turn","other"]:=λ_ _ _ _ _ _=>Bc λ_ _ _=>rfl
def uz:aR "goes_round" RQ.jb ["thing","order"]:=λ_ _ _ _ _ _=>ln2 λ_ _=>rfl
def x8:aR "is_ahead" RQ.ll ["masks","a","b"]:=λ_ _ _ _ _ _=>Bc λ_ _ _=>rfl
def wM:aR "is_turned" RQ.j6 ["masks","turn"]:=λ_ _ _ _ _ _=>ln2 λ_ _=>rfl
def xg:aR "is_barred" RQ.jQ ["masks","turn"]:=λ_ _ _ _ _ _=>ln2 λ_ _=>rfl
def yw:aR "put_turn" RQ.kK ["masks","turn"]:=λ_ _ _ _ _ _=>ln2 λ_ _=>rfl
def wK:aR "ring_with" RQ.jP ["order","put","turn"]:=λ_ _ _ _ _ _=>Bc λ_ _ _=>rfl
def AX:aR "case_of" RQ.mh ["order","left","rows","number","turn"]:=λ_ _ _ _ _ _=>MS λ_ _ _ _ _=>rfl
def wY:aR "free_rows" RQ.jN ["rows","turn"]:=λ_ _ _ _ _ _=>ln2 λ_ _=>rfl
def yd:aR "cases_on" RQ.k8 ["order","left","rows"]:=λ_ _ _ _ _ _=>Bc λ_ _ _=>rfl
def Fh:aR "cases" RQ.pR ["order","count"]:=λ_ _ _ _ _ _=>ln2 λ_ _=>rfl
def sx:aR "fewest_rows" RQ.gR ["order"]:=λ_ _ _ _ _ _=>zL λ_=>rfl
def Bx:aR "fewest" RQ.nN ["order"]:=λ_ _ _ _ _ _=>zL λ_=>rfl
def uB:aR "need_count" RQ.iV ["thing"]:=λ_ _ _ _ _ _=>zL λ_=>rfl
def u9:aR "case_paper" RQ.i7 ["order","count"]:=λ_ _ _ _ _ _=>ln2 λ_ _=>rfl
def uv:aR "is_ring_of" RQ.i8 ["thing","order","put"]:=λ_ _ _ _ _ _=>Bc λ_ _ _=>rfl
def Ht:aR "bars" RQ.uP ["thing","order","puts"]:=λ_ _ _ _ _ _=>Bc λ_ _ _=>rfl
def pA:aR "is_case_paper" RQ.fF ["thing","order","count"]:=λ_ _ _ _ _ _=>Bc λ_ _ _=>rfl
def yH:aR "_law_box" RQ.kQ ["script","k"]:=λ_ _ _ _ _ _=>ln2 λ_ _=>rfl
def vD:aR "_law_take" RQ.jS ["box","many"]:=λ_ _ _ _ _ _=>ln2 λ_ _=>rfl
def uH:aR "_law_whole" RQ.i9 ["thing"]:=λ_ _ _ _ _ _=>zL λ_=>rfl
def pJ:aR "_law_shuffled" RQ.fB ["box","some"]:=λ_ _ _ _ _ _=>ln2 λ_ _=>rfl
def vW:aR "_law_told" RQ.jY ["many","rows"]:=λ_ _ _ _ _ _=>ln2 λ_ _=>rfl
def uG:aR "_law_order" RQ.i3 ["box","most"]:=λ_ _ _ _ _ _=>ln2 λ_ _=>rfl
def vd:aR "_law_apart" RQ.iW ["order","a","b"]:=λ_ _ _ _ _ _=>Bc λ_ _ _=>rfl
def Ao:aR "_law_on" RQ.my ["order","one","other"]:=λ_ _ _ _ _ _=>Bc λ_ _ _=>rfl
def oQ:aR "_law_turn_good" RQ.eO ["order","thing"]:=λ_ _ _ _ _ _=>ln2 λ_ _=>rfl
def wJ:aR "_law_ring" RQ.jR ["order","thing"]:=λ_ _ _ _ _ _=>ln2 λ_ _=>rfl
def uW:aR "_law_shows" RQ.jg ["thing","order","put"]:=λ_ _ _ _ _ _=>Bc λ_ _ _=>rfl
def uO:aR "_law_crown" RQ.iQ []:=λ_ _ _ _ _ _=>MR rfl
def all_mk {T c0:Addr}{l:PySem.W.OpenLaw}{w:World}{K:Frag}{h:Heap}{mg:Str->Option Value}{fa f50:Addr}(X:K.In h)(G:h.Ns mainGlobals mg)(hfa:mg "law"=some (.ref fa))
  {od50 an50:Option Addr} {sl50:Array (Option Value)} {oc50 kV50 dc50 pm50 cd50 ct50:Value} {tMOST_ROWS:Tok} {tMOST_THINGS:Tok}
  (F1:Fo K mg "is_whole" RQ.lh ["thing"])
  (F2:Fo K mg "is_below" RQ.lg ["thing","bound"])
  (F3:Fo K mg "is_many" RQ.mN ["thing"])
  (F4:Fo K mg "is_pair" RQ.mJ ["thing","many"])
  (F5:Fo K mg "every_pair" RQ.gu ["many"])
  (F6:Fo K mg "closed" oj ["many","pairs"])
  (F7:Fo K mg "has_ring" RQ.kT ["pairs"])
  (F8:Fo K mg "is_order" RQ.kW ["thing"])
  (F9:Fo K mg "need_order" RQ.iO ["thing"])
  (F10:Fo K mg "are_apart" RQ.j5 ["order","a","b"])
  (F11:Fo K mg "with_thing" RQ.iR ["placed","thing"])
  (F12:Fo K mg "masks_ahead" RQ.g7 ["order"])
  (F13:Fo K mg "free_things" RQ.gW ["masks","placed"])
  (F14:Fo K mg "row_along" RQ.j4 ["masks","late"])
  (F15:Fo K mg "turns" RQ.p0 ["order"])
  (F16:Fo K mg "is_sharp" RQ.kM ["order","a","b"])
  (F17:Fo K mg "sharp_turns" RQ.g8 ["order"])
  (F18:Fo K mg "is_turn" RQ.l9 ["thing","order"])
  (F19:Fo K mg "are_turns" RQ.j9 ["thing","order"])
  (F20:Fo K mg "leads_on" RQ.kN ["order","turn","other"])
  (F21:Fo K mg "goes_round" RQ.jb ["thing","order"])
  (F22:Fo K mg "is_ahead" RQ.ll ["masks","a","b"])
  (F23:Fo K mg "is_turned" RQ.j6 ["masks","turn"])
  (F24:Fo K mg "is_barred" RQ.jQ ["masks","turn"])
  (F25:Fo K mg "put_turn" RQ.kK ["masks","turn"])
  (F26:Fo K mg "ring_with" RQ.jP ["order","put","turn"])
  (F27:Fo K mg "case_of" RQ.mh ["order","left","rows","number","turn"])
  (F28:Fo K mg "free_rows" RQ.jN ["rows","turn"])
  (F29:MH K mg "cases_on" RQ.k8 ["order","left","rows"] c0)
  (F30:Fo K mg "cases" RQ.pR ["order","count"])
  (F31:Fo K mg "fewest_rows" RQ.gR ["order"])
  (F32:Fo K mg "fewest" RQ.nN ["order"])
  (F33:Fo K mg "need_count" RQ.iV ["thing"])
  (F34:Fo K mg "case_paper" RQ.i7 ["order","count"])
  (F35:Fo K mg "is_ring_of" RQ.i8 ["thing","order","put"])
  (F36:Fo K mg "bars" RQ.uP ["thing","order","puts"])
  (F37:Fo K mg "is_case_paper" RQ.fF ["thing","order","count"])
  (F38:Fo K mg "_law_box" RQ.kQ ["script","k"])
  (F39:Fo K mg "_law_take" RQ.jS ["box","many"])
  (F40:Fo K mg "_law_whole" RQ.i9 ["thing"])
  (F41:Fo K mg "_law_shuffled" RQ.fB ["box","some"])
  (F42:Fo K mg "_law_told" RQ.jY ["many","rows"])
  (F43:Fo K mg "_law_order" RQ.i3 ["box","most"])
  (F44:Fo K mg "_law_apart" RQ.iW ["order","a","b"])
  (F45:Fo K mg "_law_on" RQ.my ["order","one","other"])
  (F46:Fo K mg "_law_turn_good" RQ.eO ["order","thing"])
  (F47:Fo K mg "_law_ring" RQ.jR ["order","thing"])
  (F48:Fo K mg "_law_shows" RQ.jg ["thing","order","put"])
  (F49:Fo K mg "_law_crown" RQ.iQ [])
  (a50:PySem.W.nsIn K mainGlobals "law"=some (some (.ref f50))) (l50:K.lookup f50=some ⟨oc50,od50,.func (PySem.W.fnOf "law" "law" (iU RQ.mP) (de RQ.mP) (ar RQ.mP) .none kV50 dc50 pm50 an50 cd50 ct50),sl50⟩) (c50:PySem.W.codeIn K cd50 "law"=true) (k50:PySem.W.keepIn K (.ref f50)=true)
  (zB:L5 K=true)
  (yMOST_ROWS:PySem.W.nsIn K mainGlobals "MOST_ROWS"=some (some (.int 8 tMOST_ROWS)))
  (yMOST_THINGS:PySem.W.nsIn K mainGlobals "MOST_THINGS"=some (some (.int 8 tMOST_THINGS)))
  :∃fd:FuncData,(∀(s:Shared) (v:Value),BindsTo s fd ⟨[v],[]⟩ [("script",v)])/\∀base:Heap,K.In base->base.Ns mainGlobals mg->AN mg base c0 T->fq l.prog w K mg base (nE l.prog w) 91 fa fd ["script"] (uj T K):=by
 have e:=hfa.symm.trans (O6 X G a50)
 cases e
 have B:iq mg:=J8 X G zB
 have l0:=O6 X G yMOST_ROWS
 have km:=O6 X G yMOST_THINGS
 obtain⟨f1,d1,bF⟩:=F1.ex
 obtain⟨f2,d2,cq⟩:=F2.ex
 obtain⟨f3,d3,jn⟩:=F3.ex
 obtain⟨f4,d4,cL⟩:=F4.ex
 obtain⟨f5,d5,df⟩:=F5.ex
 obtain⟨f6,d6,kC⟩:=F6.ex
 obtain⟨f7,d7,gK⟩:=F7.ex
 obtain⟨f8,d8,gH⟩:=F8.ex
 obtain⟨f9,d9,aP⟩:=F9.ex
 obtain⟨f10,d10,b8⟩:=F10.ex
 obtain⟨f11,d11,aI⟩:=F11.ex
 obtain⟨f12,d12,du⟩:=F12.ex
 obtain⟨f13,d13,dw⟩:=F13.ex
 obtain⟨f14,d14,fU⟩:=F14.ex
 obtain⟨f15,d15,mG⟩:=F15.ex
 obtain⟨f16,d16,gF⟩:=F16.ex
 obtain⟨f17,d17,dv⟩:=F17.ex
 obtain⟨f18,d18,cV⟩:=F18.ex
 obtain⟨f19,d19,fY⟩:=F19.ex
 obtain⟨f20,d20,cw⟩:=F20.ex
 obtain⟨f21,d21,dZ⟩:=F21.ex
 obtain⟨f22,d22,bG⟩:=F22.ex
 obtain⟨f23,d23,fZ⟩:=F23.ex
 obtain⟨f24,d24,b9⟩:=F24.ex
 obtain⟨f25,d25,gL⟩:=F25.ex
 obtain⟨f26,d26,fR⟩:=F26.ex
 obtain⟨f27,d27,jl⟩:=F27.ex
 obtain⟨f28,d28,fW⟩:=F28.ex
 obtain⟨f29,d29,cu,hcode⟩:=F29.ex
 obtain⟨f30,d30,fC⟩:=F30.ex
 obtain⟨f31,d31,dz⟩:=F31.ex
 obtain⟨f32,d32,kx⟩:=F32.ex
 obtain⟨f33,d33,bN⟩:=F33.ex
 obtain⟨f34,d34,c4⟩:=F34.ex
 obtain⟨f35,d35,eN⟩:=F35.ex
 obtain⟨f36,d36,iF⟩:=F36.ex
 obtain⟨f37,d37,cg⟩:=F37.ex
 obtain⟨f38,d38,gP⟩:=F38.ex
 obtain⟨f39,d39,aZ⟩:=F39.ex
 obtain⟨f40,d40,bP⟩:=F40.ex
 obtain⟨f41,d41,cn⟩:=F41.ex
 obtain⟨f42,d42,fQ⟩:=F42.ex
 obtain⟨f43,d43,dU⟩:=F43.ex
 obtain⟨f44,d44,dX⟩:=F44.ex
 obtain⟨f45,d45,ji⟩:=F45.ex
 obtain⟨f46,d46,a7⟩:=F46.ex
 obtain⟨f47,d47,gc⟩:=F47.ex
 obtain⟨f48,d48,bC⟩:=F48.ex
 obtain⟨f49,d49,c6⟩:=F49.ex
 have U50:=ra (st:=RQ.mP) l50 c50 k50
 have Ki:gA K mg "law" RQ.mP ["script"] fa _:=⟨O6 X G a50,U50,U50.binds (ps:=["script"]) λ_ _ _ _ _ _=>zL λ_=>rfl⟩
 obtain⟨ca,hca⟩:∃ca:Str->Addr,True:=⟨λ_=>0,trivial⟩
 refine⟨PySem.W.fnOf "law" "law" (iU RQ.mP) (de RQ.mP) (ar RQ.mP) .none kV50 dc50 pm50 an50 cd50 ct50,λs v=>.of_eq rfl,λbase _ _ LT=>?_⟩
 have cZ:=(RQ.ve (P:=l.prog) (w:=w) (base:=base) (ca:=ca) bF B).imp zw
 have dE:=(RQ.uZ (P:=l.prog) (w:=w) (base:=base) (ca:=ca) cq B cZ).imp EH
 have oP:=(RQ.wz (P:=l.prog) (w:=w) (base:=base) (ca:=ca) jn B cZ km).imp Hf
 have yr:=RQ.pw (P:=l.prog) (w:=w) (base:=base) (ca:=ca) cL B dE
 have ky:=(RQ.pw (P:=l.prog) (w:=w) (base:=base) (ca:=ca) cL B dE).imp Ig
 have kH:=RQ.qt (P:=l.prog) (w:=w) (base:=base) (ca:=ca) df B
 have qq:=ym (P:=l.prog) (w:=w) (base:=base) (ca:=ca) kC df B
 have nq:=(RQ.u4 (P:=l.prog) (w:=w) (base:=base) (ca:=ca) gK B).imp HC
 have nz:=(RQ.u7 (P:=l.prog) (w:=w) (base:=base) (ca:=ca) gH B oP ky qq nq).imp xt
 have bJ:=(RQ.qR (P:=l.prog) (w:=w) (base:=base) (ca:=ca) aP B nz).imp xr
 have gf:=RQ.sh (P:=l.prog) (w:=w) (base:=base) (ca:=ca) b8 B
 have ba:=RQ.rA (P:=l.prog) (w:=w) (base:=base) (ca:=ca) aI B
 have ke:=RQ.pC (P:=l.prog) (w:=w) (base:=base) (ca:=ca) du B ba
 have kg:=RQ.pG (P:=l.prog) (w:=w) (base:=base) (ca:=ca) dw B ba
 have lZ:=RQ.sf (P:=l.prog) (w:=w) (base:=base) (ca:=ca) fU B kg ba
 have va:=RQ.Au (P:=l.prog) (w:=w) (base:=base) (ca:=ca) mG B bJ kH gf
 have ni:=RQ.vc (P:=l.prog) (w:=w) (base:=base) (ca:=ca) gF B
 have kl:=RQ.pL (P:=l.prog) (w:=w) (base:=base) (ca:=ca) dv B va ni
 have jk:=RQ.v5 (P:=l.prog) (w:=w) (base:=base) (ca:=ca) cV B yr gf
 have lY:=RQ.r0 (P:=l.prog) (w:=w) (base:=base) (ca:=ca) fY B jk
 have fK:=RQ.vf (P:=l.prog) (w:=w) (base:=base) (ca:=ca) cw B
 have kZ:=RQ.qU (P:=l.prog) (w:=w) (base:=base) (ca:=ca) dZ B lY fK
 have cY:=RQ.tT (P:=l.prog) (w:=w) (base:=base) (ca:=ca) bG B ba
 have lU:=RQ.so (P:=l.prog) (w:=w) (base:=base) (ca:=ca) fZ B cY
 have fV:=RQ.rZ (P:=l.prog) (w:=w) (base:=base) (ca:=ca) b9 B cY
 have nu:=RQ.uA (P:=l.prog) (w:=w) (base:=base) (ca:=ca) gL B cY ba
 have lN:=RQ.sv (P:=l.prog) (w:=w) (base:=base) (ca:=ca) fR B fK
 have lJ:=RQ.sg (P:=l.prog) (w:=w) (base:=base) (ca:=ca) fW B fV
 have jx:=vR (T:=T) (P:=l.prog) (w:=w) (base:=base) (ca:=ca) (j:=7) cu (λk F' hk h=>RQ.uy (by omega) cu B hcode LT (RQ.vL (by omega) jl B h fV lN nu) lU lZ lJ) 40
 have kU:=RQ.Ah (P:=l.prog) (w:=w) (base:=base) (ca:=ca) fC B ke jx kl
 have kj:=RQ.pM (P:=l.prog) (w:=w) (base:=base) (ca:=ca) dz B bJ kU
 have rm:=RQ.yi (P:=l.prog) (w:=w) (base:=base) (ca:=ca) kx B kj
 have eS:=RQ.rh (P:=l.prog) (w:=w) (base:=base) (ca:=ca) bN B cZ l0
 have jf:=RQ.qL (P:=l.prog) (w:=w) (base:=base) (ca:=ca) c4 B bJ eS kU
 have ly:=RQ.rE (P:=l.prog) (w:=w) (base:=base) (ca:=ca) eN B kZ
 have rB:=uh (P:=l.prog) (w:=w) (base:=base) (ca:=ca) (j:=7) iF (λk F' hk h=>RQ.Cf hk iF B h dE ly jk) 40
 have fA:=RQ.nZ (P:=l.prog) (w:=w) (base:=base) (ca:=ca) cg B bJ eS rB
 have nr:=RQ.tZ (P:=l.prog) (w:=w) (base:=base) (ca:=ca) gP B
 have cc:=RQ.rR (P:=l.prog) (w:=w) (base:=base) aZ B
 have eB:=RQ.qz (P:=l.prog) (w:=w) (base:=base) (ca:=ca) bP B
 have fD:=RQ.nM (P:=l.prog) (w:=w) (base:=base) cn B cc
 have lK:=RQ.sE (P:=l.prog) (w:=w) (base:=base) (ca:=ca) fQ B
 have kI:=RQ.qc (P:=l.prog) (w:=w) (base:=base) (ca:=ca) dU B lK cc fD
 have lu:=RQ.rK (P:=l.prog) (w:=w) (base:=base) (ca:=ca) dX B
 have oU:=RQ.vn (P:=l.prog) (w:=w) (base:=base) (ca:=ca) ji B
 have cB:=RQ.mZ (P:=l.prog) (w:=w) (base:=base) (ca:=ca) a7 B eB lu
 have l5:=RQ.rW (P:=l.prog) (w:=w) (base:=base) (ca:=ca) gc B cB oU
 have eR:=uh (P:=l.prog) (w:=w) (base:=base) (ca:=ca) (j:=3) bC (λk F' hk h=>RQ.qW hk bC B h eB l5 cB) 40
 have iP:=RQ.q8 (P:=l.prog) (w:=w) (base:=base) (ca:=ca) c6 B
 have Kz:=RQ.EW (P:=l.prog) (w:=w) (base:=base) (ca:=ca) Ki B nr rm jf eR fA iP kI cc
 exact fq.imp (sp:=spT T K ca 1 Hz) Kz Hn
def walk {l:PySem.W.OpenLaw}{q:Program}{loose:List Str}{XP:(Str->Option Value)->Heap->Prop}{YP:World->Heap->Prop}{d:DefRec}{K:Params->Frag}(hn:l.most=some 63)(hdf:d.params.defaults= [])(hi:PyProof.Rows.importsNone q=true)
  {T c:Addr} (hY:∀(w:World) (h:Heap),YP w h->(K w.params).In h) (hYT:∀(w:World) (h:Heap),YP w h->h.get? T=some (PySem.W.tabObj #[])) (hKT:∀p,(K p).lookup T=none) (hcd:∀p,PySem.W.codeHdIn (K p) c T=true)
  (F:∀(w:World) (mg:Str->Option Value) (fa:Addr) (h:Heap),(K w.params).In h->h.Ns mainGlobals mg->mg d.name=some (.ref fa)->
   ∃fd:FuncData,(∀(s:Shared) (u:Value),BindsTo s fd ⟨[u],[]⟩ [("script",u)])/\∀base:Heap,(K w.params).In base->base.Ns mainGlobals mg->AN mg base c T->fq l.prog w (K w.params) mg base (nE l.prog w) 91 fa fd ["script"] (uj T (K w.params))) :
  PySem.W.WalkO q loose XP YP l.row.toRowW d [] (λf vs=>PySem.call f vs):=
 L2.Cu (n:=63) (k:=91) hn (by decide) hdf hi ⟨rfl,by decide,by decide,rfl⟩ hY hYT hKT hcd F
end RO
namespace HD
noncomputable def vw:PySem.Program:=PySem.W.view PySem.Challenge.pw_rowsorder_k43_case_papers_told [1,2,3,4,5,6,8,9,10,12,13,14,15,16,18,19,20,21,23,24,25,26,27,28,29,30,31,32,33,34,36,37,38,39,40,41,42,43,44,45,46,47,49,50,51,52,53,54,55,56,57,58,59,60,61]
def KQ:PySem.Challenge.rw_rowsorder_k43_case_papers_told.wellSaid=true:=by kernel_rfl
end HD
local macro_rules | `(tactic|o_head $H)=>`(tactic| (
 refine PySem.W.holds_open (q:=HD.vw) (loose:=[]) (Xt:=λs=>PySem.W.xlAt HD.vw [] s && PySem.W.recOk (PySem.W.RowW.records _) s) (XP:=PySem.W.XL HD.vw []) (Yf:=PySem.W.Hook.obs $H) (Ya:=PySem.W.Hook.val $H) (YP:=PySem.W.Hook.says $H) (N:=4384) ?hl (PySem.W.Hook.of $H) (PySem.W.Hook.keeps $H) (λs e=>PySem.W.xl_of s (Bool.and_eq_true_iff.mp e).1) PySem.W.XL.keeps (by rfl) (by rfl) (by rfl) (λs e=>PySem.W.recFacts_of (Bool.and_eq_true_iff.mp e).2) (by rfl) (by first |assumption |decide +kernel) (by decide +kernel) ⟨rfl,rfl,rfl,rfl,rfl,by decide +kernel⟩ ?hw ?hc
 case hl=>exact HD.D1 (by kernel_rfl) (by kernel_rfl) (λs=>by kernel_rfl) (λw os=>by kernel_rfl)))
open PySem PySem.W PyProof.Rows L2
set_option maxRecDepth 100000 in
set_option maxHeartbeats 0 in
theorem PySem.Challenge.cw_rowsorder_k43_case_papers_told_holds : PySem.Challenge.rw_rowsorder_k43_case_papers_told.Holds := by
 w_on;(refine holds_law HD.KQ λKQ=>?_);k_head;(case hw=>w_witness2)
 k_fill
 refine RO.walk (l:=PySem.Challenge.rw_rowsorder_k43_case_papers_told) (c:=248) (T:=246) rfl rfl ?hi (λw h Y=>PySem.W.km_in_of Y) (λw h Y=>PySem.W.km_tabs_of Y _ (Np ..)) ?hKT ?hcd ?F
 case hi=>kernel_rfl
 case hKT=>exact λp=>by kernel_rfl
 case hcd=>exact λp=>by kernel_rfl
 case F=>
  intro w mg fa h KX G hmg
  refine' RO.all_mk KX G hmg ?F1 ?F2 ?F3 ?F4 ?F5 ?F6 ?F7 ?F8 ?F9 ?F10 ?F11 ?F12 ?F13 ?F14 ?F15 ?F16 ?F17 ?F18 ?F19 ?F20 ?F21 ?F22 ?F23 ?F24 ?F25 ?F26 ?F27 ?F28 ?F29 ?F30 ?F31 ?F32 ?F33 ?F34 ?F35 ?F36 ?F37 ?F38 ?F39 ?F40 ?F41 ?F42 ?F43 ?F44 ?F45 ?F46 ?F47 ?F48 ?F49 ?a50 ?l50 ?c50 ?k50 ?zB ?yMOST_ROWS ?yMOST_THINGS
  case F1=>refine' bB KX G RO.yn ?a ?l ?c ?k;(case a=>k_is);(case l=>k_is);(case c=>k_is);(case k=>k_is)
  case F2=>refine' bB KX G RO.yz ?a ?l ?c ?k;(case a=>k_is);(case l=>k_is);(case c=>k_is);(case k=>k_is)
  case F3=>refine' bB KX G RO.AY ?a ?l ?c ?k;(case a=>k_is);(case l=>k_is);(case c=>k_is);(case k=>k_is)
  case F4=>refine' bB KX G RO.AD ?a ?l ?c ?k;(case a=>k_is);(case l=>k_is);(case c=>k_is);(case k=>k_is)
  case F5=>refine' bB KX G RO.uL ?a ?l ?c ?k;(case a=>k_is);(case l=>k_is);(case c=>k_is);(case k=>k_is)
  case F6=>refine' bB KX G RO.B8 ?a ?l ?c ?k;(case a=>k_is);(case l=>k_is);(case c=>k_is);(case k=>k_is)
  case F7=>refine' bB KX G RO.yD ?a ?l ?c ?k;(case a=>k_is);(case l=>k_is);(case c=>k_is);(case k=>k_is)
  case F8=>refine' bB KX G RO.xT ?a ?l ?c ?k;(case a=>k_is);(case l=>k_is);(case c=>k_is);(case k=>k_is)
  case F9=>refine' bB KX G RO.uc ?a ?l ?c ?k;(case a=>k_is);(case l=>k_is);(case c=>k_is);(case k=>k_is)
  case F10=>refine' bB KX G RO.wy ?a ?l ?c ?k;(case a=>k_is);(case l=>k_is);(case c=>k_is);(case k=>k_is)
  case F11=>refine' bB KX G RO.vh ?a ?l ?c ?k;(case a=>k_is);(case l=>k_is);(case c=>k_is);(case k=>k_is)
  case F12=>refine' bB KX G RO.sC ?a ?l ?c ?k;(case a=>k_is);(case l=>k_is);(case c=>k_is);(case k=>k_is)
  case F13=>refine' bB KX G RO.se ?a ?l ?c ?k;(case a=>k_is);(case l=>k_is);(case c=>k_is);(case k=>k_is)
  case F14=>refine' bB KX G RO.wa ?a ?l ?c ?k;(case a=>k_is);(case l=>k_is);(case c=>k_is);(case k=>k_is)
  case F15=>refine' bB KX G RO.Fy ?a ?l ?c ?k;(case a=>k_is);(case l=>k_is);(case c=>k_is);(case k=>k_is)
  case F16=>refine' bB KX G RO.yv ?a ?l ?c ?k;(case a=>k_is);(case l=>k_is);(case c=>k_is);(case k=>k_is)
  case F17=>refine' bB KX G RO.rX ?a ?l ?c ?k;(case a=>k_is);(case l=>k_is);(case c=>k_is);(case k=>k_is)
  case F18=>refine' bB KX G RO.Bb ?a ?l ?c ?k;(case a=>k_is);(case l=>k_is);(case c=>k_is);(case k=>k_is)
  case F19=>refine' bB KX G RO.wU ?a ?l ?c ?k;(case a=>k_is);(case l=>k_is);(case c=>k_is);(case k=>k_is)
  case F20=>refine' bB KX G RO.xm ?a ?l ?c ?k;(case a=>k_is);(case l=>k_is);(case c=>k_is);(case k=>k_is)
  case F21=>refine' bB KX G RO.uz ?a ?l ?c ?k;(case a=>k_is);(case l=>k_is);(case c=>k_is);(case k=>k_is)
  case F22=>refine' bB KX G RO.x8 ?a ?l ?c ?k;(case a=>k_is);(case l=>k_is);(case c=>k_is);(case k=>k_is)
  case F23=>refine' bB KX G RO.wM ?a ?l ?c ?k;(case a=>k_is);(case l=>k_is);(case c=>k_is);(case k=>k_is)
  case F24=>refine' bB KX G RO.xg ?a ?l ?c ?k;(case a=>k_is);(case l=>k_is);(case c=>k_is);(case k=>k_is)
  case F25=>refine' bB KX G RO.yw ?a ?l ?c ?k;(case a=>k_is);(case l=>k_is);(case c=>k_is);(case k=>k_is)
  case F26=>refine' bB KX G RO.wK ?a ?l ?c ?k;(case a=>k_is);(case l=>k_is);(case c=>k_is);(case k=>k_is)
  case F27=>refine' bB KX G RO.AX ?a ?l ?c ?k;(case a=>k_is);(case l=>k_is);(case c=>k_is);(case k=>k_is)
  case F28=>refine' bB KX G RO.wY ?a ?l ?c ?k;(case a=>k_is);(case l=>k_is);(case c=>k_is);(case k=>k_is)
  case F29=>refine' HR KX G RO.yd ?a ?l ?c ?k;(case a=>k_is);(case l=>k_is);(case c=>k_is);(case k=>k_is)
  case F30=>refine' bB KX G RO.Fh ?a ?l ?c ?k;(case a=>k_is);(case l=>k_is);(case c=>k_is);(case k=>k_is)
  case F31=>refine' bB KX G RO.sx ?a ?l ?c ?k;(case a=>k_is);(case l=>k_is);(case c=>k_is);(case k=>k_is)
  case F32=>refine' bB KX G RO.Bx ?a ?l ?c ?k;(case a=>k_is);(case l=>k_is);(case c=>k_is);(case k=>k_is)
  case F33=>refine' bB KX G RO.uB ?a ?l ?c ?k;(case a=>k_is);(case l=>k_is);(case c=>k_is);(case k=>k_is)
  case F34=>refine' bB KX G RO.u9 ?a ?l ?c ?k;(case a=>k_is);(case l=>k_is);(case c=>k_is);(case k=>k_is)
  case F35=>refine' bB KX G RO.uv ?a ?l ?c ?k;(case a=>k_is);(case l=>k_is);(case c=>k_is);(case k=>k_is)
  case F36=>refine' bB KX G RO.Ht ?a ?l ?c ?k;(case a=>k_is);(case l=>k_is);(case c=>k_is);(case k=>k_is)
  case F37=>refine' bB KX G RO.pA ?a ?l ?c ?k;(case a=>k_is);(case l=>k_is);(case c=>k_is);(case k=>k_is)
  case F38=>refine' bB KX G RO.yH ?a ?l ?c ?k;(case a=>k_is);(case l=>k_is);(case c=>k_is);(case k=>k_is)
  case F39=>refine' bB KX G RO.vD ?a ?l ?c ?k;(case a=>k_is);(case l=>k_is);(case c=>k_is);(case k=>k_is)
  case F40=>refine' bB KX G RO.uH ?a ?l ?c ?k;(case a=>k_is);(case l=>k_is);(case c=>k_is);(case k=>k_is)
  case F41=>refine' bB KX G RO.pJ ?a ?l ?c ?k;(case a=>k_is);(case l=>k_is);(case c=>k_is);(case k=>k_is)
  case F42=>refine' bB KX G RO.vW ?a ?l ?c ?k;(case a=>k_is);(case l=>k_is);(case c=>k_is);(case k=>k_is)
  case F43=>refine' bB KX G RO.uG ?a ?l ?c ?k;(case a=>k_is);(case l=>k_is);(case c=>k_is);(case k=>k_is)
  case F44=>refine' bB KX G RO.vd ?a ?l ?c ?k;(case a=>k_is);(case l=>k_is);(case c=>k_is);(case k=>k_is)
  case F45=>refine' bB KX G RO.Ao ?a ?l ?c ?k;(case a=>k_is);(case l=>k_is);(case c=>k_is);(case k=>k_is)
  case F46=>refine' bB KX G RO.oQ ?a ?l ?c ?k;(case a=>k_is);(case l=>k_is);(case c=>k_is);(case k=>k_is)
  case F47=>refine' bB KX G RO.wJ ?a ?l ?c ?k;(case a=>k_is);(case l=>k_is);(case c=>k_is);(case k=>k_is)
  case F48=>refine' bB KX G RO.uW ?a ?l ?c ?k;(case a=>k_is);(case l=>k_is);(case c=>k_is);(case k=>k_is)
  case F49=>refine' bB KX G RO.uO ?a ?l ?c ?k;(case a=>k_is);(case l=>k_is);(case c=>k_is);(case k=>k_is)
  case a50=>k_is
  case l50=>k_is
  case c50=>k_is
  case k50=>k_is
  case zB=>kernel_rfl
  case yMOST_ROWS=>k_is
  case yMOST_THINGS=>k_is
end
