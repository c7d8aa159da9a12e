import PyProof.Rows.All
import Wide.All
import OpenK.AllK
import Wide.FinOn
import Lean
import PyProof.EqAt
import PyProof.EqKinds
import PyProof.TupleCall
import PySem.SetOps
import PyProof.SetKind
import PyProof.TupleKey
import PyProof.DictKinds
import PyProof.Rows.SetFrom
import PyProof.WalksMore
import KE.KSortTup
import PyProof.CollectWalk
import PyProof.ExcArgsOwn
import PyProof.Rows.CountFlat
import PyProof.Rows.SeqMore2
import PyProof.Rows.FStr
import PyProof.Rows.StrWeight2
import PyProof.Rows.StrNews
import PyProof.StrLawsTight
import PyProof.ExcBaseAll.ValueError
import PyProof.ZipIter
import PyProof.CallFns
import PyProof.Draws
import PyProof.EnumMake
import PyProof.SetRoads
import PyProof.Rows.SortWalk
import PyProof.SeqI3
import PyProof.Rows.SortShell
import PyProof.Rows.Range3
import KE.KStateDown
import PyProof.Rows.SumAny
import PyProof.ListRange
import PyProof.MaxThree
import PyProof.Rows.BitMore
import PySem.Challenge.RW_rowsorder_k27_whole_together_or_a_ring
set_option Elab.async false
set_option linter.all false
set_option maxRecDepth 100000
set_option maxHeartbeats 1000000
def NK:=@List.getElem?_eq_getElem
def NL:=@PySem.wpAny_bind
def NM:=@PySem.Heap.get?_push_of_some
def NN:=@if_pos
def NO:=@List.mem_cons
def NP:=@List.mem_cons_of_mem
def NQ:=@Nat.le_refl
def NR:=@List.mem_cons_self
def NS:=@decide_eq_true
def NT:=@List.length_map
def NU:=@PySem.wpAny_pure
def NV:=@if_neg
def NW:=@List.getElem?_map
def NX:=@List.mem_filter
def NY:=@List.mem_map
def NZ:=@decide_eq_false
def N0:=@List.getElem?_eq_some_iff
def N1:=@PySem.Heap.lt_size
def N2:=@decide_eq_true_eq
def N3:=@PySem.Heap.get?_push_size
def N4:=@Bool.and_eq_true
def N5:=@List.length_cons
def N6:=@List.mem_of_getElem?
def N7:=@List.getD_eq_getElem?_getD
def N8:=@List.getElem?_set_ne
def N9:=@List.mem_range
def Oa:=@Bool.false_eq_true
def Ob:=@List.mem_append
def Oc:=@List.getElem?_set_self
def Od:=@List.size_toArray
def Oe:=@List.mem_singleton
def Of:=@List.length_append
def Og:=@Bool.false_ne_true
def Oh:=@List.getElem?_append_left
def Oi:=@Nat.lt_of_lt_of_le
def Oj:=@Int.toNat_natCast
def Ol:=@List.getElem?_append_right
def Om:=@List.nodup_cons
def Oo:=@Array.getElem?_eq_getElem
def Oq:=@List.all_eq_true
def Ot:=@PySem.sizeLine_eq
def Ou:=@List.map_append
def Ov:=@Nat.zero_le
def Ow:=@List.mem_append_right
def Ox:=@Bool.eq_iff_iff
def Oy:=@List.mem_iff_getElem
def Oz:=@Nat.ne_of_lt
def OA:=@Nat.lt_irrefl
def OB:=@Array.getD_eq_getD_getElem?
def OC:=@if_false
def OD:=@Nat.zero_add
def OE:=@List.map_cons
def OF:=@List.not_mem_nil
def OG:=@PySem.boot_len
def OH:=@List.replicate_succ
def OI:=@List.idxOf_lt_length_iff
def OJ:=@PySem.W.kia_one
def OK:=@PySem.Heap.get?_update_self
def OL:=@Array.getElem?_eq_some_iff
def ON:=@PySem.wpAny_setState_of
def OO:=@List.length_range
def OP:=@if_true
def OQ:=@PySem.F.called_set
def OR:=@List.map_congr_left
def OS:=@List.append_assoc
def OT:=@of_decide_eq_true
def OU:=@Nat.le_trans
def OV:=@List.mem_append_left
def OW:=@List.length_set
def OX:=@Nat.lt_or_ge
def OY:=@Bool.or_eq_true
def OZ:=@PySem.Heap.get?_update_other
def O1:=@decide_eq_decide
def O2:=@List.pairwise_map
def O3:=@List.length_singleton
def O4:=@List.length_filter_le
def O5:=@Nat.mul_le_mul
def O6:=@PyProof.Rows.callWith_type1
def O7:=@decide_eq_false_iff_not
def O8:=@List.getElem_mem
def O9:=@List.take_of_length_le
def Pa:=@PySem.wpAny_truthy_bool
def Pb:=@List.take_add_one
def Pc:=@List.getElem?_range
def Pd:=@List.getElem?_eq_none
def Pe:=@List.length_take
def Pf:=@List.Pairwise.imp_of_mem
def Pg:=@PySem.Heap.size_push
def Pj:=@Nat.eq_of_testBit_eq
def Pk:=@List.getElem?_replicate
def Pl:=@List.flatten_cons
def Pn:=@Bool.not_eq_true'
def Po:=@List.idxOf_append
def Pp:=@List.toList_toArray
def Pq:=@List.map_map
def Pt:=@PySem.SeqAt.canLay_of_shaped
def Pu:=@Int.zero_add
def Pw:=@List.filter_eq_nil_iff
def Px:=@PySem.wpAny_mono
def Py:=@PySem.wpAny_holding
def Pz:=@List.mem_filterMap
def PB:=@Array.getElem?_toList
def PD:=@List.append_nil
def PF:=@or_false
def PH:=@List.set_eq_of_length_le
def PJ:=@PySem.Value.isInt_shape
def PK:=@PySem.wpAny_newObj_type
def PL:=@Bool.and_self
def PM:=@PySem.mem_of_lookup
def PN:=@PySem.wpAny_setField
def PQ:=@PyProof.Rows.F.plain_set_update_loop
def PR:=@List.getElem_idxOf
def PU:=@PySem.wpAny_passesOwn
def PV:=@List.length_replicate
def PX:=@List.getElem?_toArray
def PY:=@PySem.codeAny_builtin
def PZ:=@List.mem_iff_getElem?
def P0:=@List.any_cons
def P4:=@List.nodup_iff_pairwise_ne
def P5:=@Array.mem_toList_iff
def P6:=@List.pairwise_iff_getElem
def P7:=@PySem.Around.under_plainId
def P8:=@List.mem_of_mem_take
def P9:=@List.nodup_nil
def Qa:=@PySem.codeAny_mono
def Qb:=@List.length_erase_of_mem
def Qc:=@List.nodup_range
def Qd:=@PySem.wpAny_call_entry
def Qe:=@List.ext_getElem
def Qf:=@List.length_eq_zero_iff
def Qg:=@PySem.F.plainAttrs_list
def Qh:=@Bool.not_true
def Qi:=@PySem.W.mg_of
def Qj:=@PySem.wpAny_pyIter_tuple
def Qk:=@List.length_pos_of_mem
def Ql:=@Array.getElem?_eq_none
def Qm:=@PySem.wpAny_pyIter_list
def Qn:=@Nat.lt_trichotomy
def Qo:=@List.filter_congr
def Qp:=@List.nodup_append
def Qq:=@Nat.le_of_lt
def Qr:=@PySem.wpAny_askSetting
def Qs:=@List.getElem?_mapIdx
def Qt:=@List.filterMap_cons
def Qu:=@Array.length_toList
def Qv:=@List.filter_sublist
def Qw:=@List.length_pos_iff
def Qx:=@List.foldl_cons
def Qy:=@List.drop_eq_getElem_cons
def Qz:=@List.getLast?_eq_getElem?
def QA:=@List.getElem_range
def QB:=@PySem.Obj.data_mapFields
def QC:=@List.eq_of_mem_replicate
def QD:=@PySem.AutoSeq1.wpAny_loadPart'
def QE:=@PySem.isSubtype_type
def QF:=@Array.getElem_mem
def QG:=@List.ext_getElem?
def QH:=@PySem.wpAny_pyIter_enum
open List (length_nil lookup_cons all_cons all_map set_set sum_cons)
open PySem.W (Frag)
open PySem.PyData (int)
section
set_option Elab.async false
namespace L2
open PySem PySem.Spec PyProof.Rows
abbrev Key:=Sum Int Str
def Hk:Key->Value->Bool
 | .inl k,v=>Value.isInt k v
 | .inr x,v=>Value.isStrOf x v
def Nb (w:World):Key->Int
 | .inl k=>hashInt k
 | .inr x=>hashStr w x
theorem cA:∀{k:Key} {v:Value},Hk k v=true->(∃i t,k=Sum.inl i/\v=Value.int i t)\/(∃x t,k=Sum.inr x/\v=Value.str x t)
 | .inl i,v,h=>by
  obtain⟨t,e⟩:=PJ (k:=i) (v:=v) h
  exact .inl ⟨i,t,rfl,e⟩
 | .inr x,v,h=>by
  obtain⟨t,e⟩:=Value.isStrOf_shape (x:=x) (v:=v) h
  exact .inr ⟨x,t,rfl,e⟩
def HH (a b:Int):decide ((Sum.inl a:Key)=Sum.inl b)=(a == b):=by
 by_cases e:a=b
 ·subst e;simp
 ·have h:¬(Sum.inl a:Key)=Sum.inl b:=λq=>e (Sum.inl.inj q)
  rw[NZ h]
  exact (beq_eq_false_iff_ne.mpr e).symm
def IY (a b:Str):decide ((Sum.inr a:Key)=Sum.inr b)=decide (a=b):=by
 by_cases e:a=b
 ·subst e;simp
 ·have h:¬(Sum.inr a:Key)=Sum.inr b:=λq=>e (Sum.inr.inj q)
  rw[NZ h,NZ e]
def HK (a:Int)(b:Str):decide ((Sum.inl a:Key)=Sum.inr b)=false:=NZ (λq=>nomatch q)
def IC (a:Str)(b:Int):decide ((Sum.inr a:Key)=Sum.inl b)=false:=NZ (λq=>nomatch q)
def tV (prog:Program)(w:World):PySem.KeyKind prog w Key where
 is:=Hk
 hash:=Nb w
 inj:=λv a b ha hb=>by
  rcases cA ha with⟨i,t,rfl,rfl⟩ | ⟨x,t,rfl,rfl⟩
  ·rcases cA hb with⟨j,u,rfl,e⟩ | ⟨y,u,rfl,e⟩
   ·injection e with e1 _;rw[e1]
   ·exact nomatch e
  ·rcases cA hb with⟨j,u,rfl,e⟩ | ⟨y,u,rfl,e⟩
   ·exact nomatch e
   ·injection e with e1 _;rw[e1]
 byValue:=λk v h=>by
  rcases cA h with⟨i,t,rfl,rfl⟩ | ⟨x,t,rfl,rfl⟩ <;> rfl
 pyHash:=λhv h=>by
  rcases cA hv with⟨i,t,rfl,rfl⟩ | ⟨x,t,rfl,rfl⟩
  ·exact wpAny_pyHash_int h
  ·exact wpAny_pyHash_str h
 eqBool:=λhu hv h=>by
  rcases cA hu with⟨i,t,rfl,rfl⟩ | ⟨x,t,rfl,rfl⟩
  ·rcases cA hv with⟨j,u,rfl,rfl⟩ | ⟨y,u,rfl,rfl⟩
   ·rw[HH] at h;exact wpAny_eqBool_int h
   ·rw[HK] at h;exact SeqAt.EqAt.int_str i t y u _ _ _ _ h
  ·rcases cA hv with⟨j,u,rfl,rfl⟩ | ⟨y,u,rfl,rfl⟩
   ·rw[IC] at h;exact SeqAt.EqAt.str_int x t j u _ _ _ _ h
   ·rw[IY] at h;exact wpAny_eqBool_str h
 «strs»:=λk x t v h=>by
  rcases cA h with⟨i,u,rfl,e⟩ | ⟨y,u,rfl,e⟩
  ·exact nomatch e
  ·injection e with e1 _
   subst e1
   cases v <;> rfl
inductive V where
 |non |bl (b:Bool) |int (i:Int) |str (x:Str) |byt (b:Array UInt8) |flt (b:UInt64) |ref (a:Addr) |ty (n:String)
 deriving DecidableEq
def RelV:V->Value->Prop
 | .non,u=>u=Value.none
 | .bl b,u=>u=Value.bool b
 | .int i,u=>∃t,u=Value.int i t
 | .str x,u=>∃t,u=Value.str x t
 | .byt b,u=>∃t,u=Value.bytes b t
 | .flt b,u=>∃t,u=Value.float b t
 | .ref a,u=>u=Value.ref a
 | .ty n,u=>u=Value.type n
abbrev Vals:List V->List Value->Prop:=Paired RelV
def Vals.length {xs:List V}{us:List Value}(r:Vals xs us):xs.length=us.length:=Paired.length r
theorem Vals.get:∀{xs:List V} {us:List Value} {i:Nat} {x:V},Vals xs us->xs[i]? =some x->∃u,us[i]? =some u/\RelV x u
 |_,_,_,_,.nil,e=>by simp at e
 |_,_,0,_,.cons r _,e=>by simp at e;subst e;exact⟨_,rfl,r⟩
 |_,_,i + 1,x,.cons _ t,e=>by
  obtain⟨u,h1,h2⟩:=Vals.get (i:=i) (x:=x) t (by simpa using e)
  exact⟨u,by simpa using h1,h2⟩
theorem Vals.set {x:V}{u:Value}(r:RelV x u):∀{xs:List V} {us:List Value} (i:Nat),Vals xs us->Vals (xs.set i x) (us.set i u)
 |_,_,_,.nil=>.nil
 |_,_,0,.cons _ t=>.cons r t
 |_,_,i + 1,.cons q t=>.cons q (Vals.set r i t)
theorem Vals.append:∀{xs ys:List V} {us ws:List Value},Vals xs us->Vals ys ws->Vals (xs ++ ys) (us ++ ws)
 |_,_,_,_,.nil,s=>s
 |_,_,_,_,.cons r t,s=>.cons r (Vals.append t s)
theorem Vals.take:∀{xs:List V} {us:List Value} (n:Nat),Vals xs us->Vals (xs.take n) (us.take n)
 |_,_,0,_=>.nil
 |_,_,_ + 1,.nil=>.nil
 |_,_,n + 1,.cons r t=>.cons r (Vals.take n t)
theorem Vals.drop:∀{xs:List V} {us:List Value} (n:Nat),Vals xs us->Vals (xs.drop n) (us.drop n)
 |_,_,0,r=>r
 |_,_,_ + 1,.nil=>.nil
 |_,_,n + 1,.cons _ t=>Vals.drop n t
def IG:Option V->Option Value->Prop
 |some v,some u=>RelV v u
 |none,none=>True
 |_,_=>False
def KV {κ:Type}:List (κ×V)->List (κ×Value)->Prop:=Paired λ(p:κ×V) (q:κ×Value)=>p.1=q.1/\RelV p.2 q.2
def kV:Key->V
 | .inl i=>.int i
 | .inr x=>.str x
inductive HO where
 |lst (xs:List V)
 |tup (xs:List V)
 |dK (kvs:List (Key×V)) |dT (kvs:List (List Key×V))
 |set (S:Int->Bool) (n:Nat)
 |ins (C dx:Addr) (fs:List (Str×V))
 |own (x:Addr)
 |xd (fs:List (Str×V))
 |met (f x:Addr)
 |dW (lo hi:Int)
 |bp (o:Obj) (u:HO)
 |tbl (ps:Array Value)
 |ext (φ:Heap->Prop)
abbrev Hp:=Addr->Option HO
def upd (H:Hp)(a:Addr)(o:HO):Hp:=λb=>if b=a then some o else H b
def aI {H:Hp}{a:Addr}{o:HO}:upd H a o a=some o:=by unfold upd;rw[NN rfl]
def aH {H:Hp}{a b:Addr}{o:HO}(h:b≠a):upd H a o b=H b:=by unfold upd;rw[NV h]
def He {H:Hp}{a b:Addr}{o u:HO}(h:H a=some o)(h':H b=some u)(d:o≠u):a≠b:=by
 intro e;subst e;rw[h] at h';exact d (Option.some.inj h')
def aP {H:Hp}{a b:Addr}{o:HO}(h:H a=some o)(h':H b=none):a≠b:=by
 intro e;subst e;rw[h] at h';cases h'
section
variable (P:Program)(w:World)
def tQ (h:Heap)(a:Addr)(items:Array Value):Prop:=∃o,h.get? a=some o/\o.cls=.type "tuple"/\∃n,o.data=.seq items n/\o.dict=none
def tQ.isTup {h:Heap}{a:Addr}{items:Array Value}(x:tQ h a items):IsTup h a items:=let ⟨o,e,c,n,d,_⟩:=x;⟨o,e,c,n,d⟩
def tQ.new (h:Heap)(items:Array Value):tQ (h.push {cls:=.type "tuple",data:=.seq items}) h.objs.size items:=⟨_,N3 _ rfl,rfl,_,rfl,rfl⟩
def c4 (H:Hp)(h:Heap)(a:Addr):HO->Prop
 | .lst xs=>xs.length<=sizeLine/\∃(its:List Value) (n:Nat),Vals xs its/\h.get? a=some {cls:=.type "list",data:=.seq its.toArray n}
 | .tup xs=>xs.length<=sizeLine/\∃its:List Value,Vals xs its/\tQ h a its.toArray
 | .dK kvs=>kvs.length<=sizeLine/\(a == sysModules)=false/\∃vs,KV kvs vs/\h.DictOf (tV P w) a vs
 | .dT kvs=>kvs.length<=sizeLine/\(a == sysModules)=false/\∃xs:List (List Key×Addr×Value),
   Paired (λ(p:List Key×V) (q:List Key×Addr×Value)=>p.1=q.1/\(H q.2.1=some (.tup (p.1.map kV))\/∃o,H q.2.1=some (.bp o (.tup (p.1.map kV))))/\RelV p.2 q.2.2) kvs xs/\
   ∃o es ep,h.get? a=some o/\o.ExactDict/\o.data=.dict es ep/\es.toList=xs.map (entryOfKey (tupleKind (tV P w)))/\(xs.map (·.1)).Nodup
 | .set S n=>h.SetOf (intKind P w) a S n
 | .ins C dx fs=>H dx=some (.own a)/\fs.length<=1000/\dx≠a/\h.get? a=some (PySem.W.instObj C dx)/\
   ∃mA,h.Ns1 dx mA/\(∀f,IG (fs.lookup f) (mA f))/\PySem.Within mA (fs.map (·.1))
 | .own _=>∃o,h.get? a=some o
 | .xd fs=>∃mA,h.Ns1 a mA/\∀f,IG (fs.lookup f) (mA f)
 | .dW lo hi=>∃t u v,h.get? a=some {cls:=.type "range",data:=.fields #[.int lo t,.int hi u,.int 1 v]}
 | .bp o u=>h.get? a=some o/\c4 H h a u
 | .tbl ps=>h.get? a=some {cls:=.none,data:=.fields ps}
 | .met f x=>h.get? a=some (PySem.W.methodObj (.ref f) (.ref x))
 | .ext φ=>φ h/\(∃o,h.get? a=some o)/\∀h1 h2:Heap,φ h1->(∀o,h1.get? a=some o->h2.get? a=some o)->φ h2
def mS (H:Hp)(h:Heap):Prop:=∀a o,H a=some o->c4 P w H h a o
end
section
variable {P:Program}{w:World}{H H':Hp}{h h':Heap}{a:Addr}{o:HO}
theorem c4.lt (x:c4 P w H h a o):a < h.objs.size:=by
 cases o with
 |lst xs=>obtain⟨_,_,_,_,e⟩:=x;exact N1 e
 |tup xs=>obtain⟨_,_,_,p⟩:=x;exact p.isTup.lt
 |dK kvs=>obtain⟨_,_,_,_,o,_,_,e,_⟩:=x;exact N1 e
 |dT kvs=>obtain⟨_,_,_,_,o,_,_,e,_⟩:=x;exact N1 e
 |set S n=>obtain⟨o,_,_,_,e,_⟩:=x;exact N1 e
 |ins C dx fs=>obtain⟨_,_,_,e,_⟩:=x;exact N1 e
 |own y=>obtain⟨_,e⟩:=x;exact N1 e
 |xd fs=>obtain⟨_,⟨_,_,_,e,_⟩,_⟩:=x;exact N1 e
 |dW lo hi=>obtain⟨_,_,_,e⟩:=x;exact N1 e
 |bp ob u=>obtain⟨e,_⟩:=x;exact N1 e
 |tbl ps=>exact N1 (show h.get? a=some _ from x)
 |met f y=>exact N1 (show h.get? a=some _ from x)
 |ext φ=>obtain⟨_,⟨_,e⟩,_⟩:=x;exact N1 e
theorem Paired.mapP {α β:Type}{F G:α->β->Prop}:∀{l₁:List α} {l₂:List β},Paired F l₁ l₂->(∀a b,F a b->G a b)->Paired G l₁ l₂
 |_,_,.nil,_=>.nil
 |_,_,.cons r t,f=>.cons (f _ _ r) (Paired.mapP t f)
theorem c4.stay (x:c4 P w H h a o)(k:∀b u,(b=a\/H b=some (.own a))->h.get? b=some u->h'.get? b=some u)
  (ho:∀b,H b=some (.own a)->H' b=some (.own a)) (ht:∀b xs,(H b=some (.tup xs)\/∃o,H b=some (.bp o (.tup xs)))->(H' b=some (.tup xs)\/∃o,H' b=some (.bp o (.tup xs)))):c4 P w H' h' a o:=by
 induction o with
 |lst xs=>obtain⟨z,its,n,r,e⟩:=x;exact⟨z,its,n,r,k _ _ (.inl rfl) e⟩
 |tup xs=>obtain⟨z,its,r,ob,e,c⟩:=x;exact⟨z,its,r,ob,k _ _ (.inl rfl) e,c⟩
 |dK kvs=>obtain⟨z,y,vs,r,ob,es,ep,e,c⟩:=x;exact⟨z,y,vs,r,ob,es,ep,k _ _ (.inl rfl) e,c⟩
 |dT kvs=>
  obtain⟨z,y,xs,r,ob,es,ep,e,c⟩:=x
  exact⟨z,y,xs,Paired.mapP r λp q z=>⟨z.1,ht _ _ z.2.1,z.2.2⟩,ob,es,ep,k _ _ (.inl rfl) e,c⟩
 |set S n=>obtain⟨ob,es,ep,t,e,c⟩:=x;exact⟨ob,es,ep,t,k _ _ (.inl rfl) e,c⟩
 |ins C dx fs=>
  obtain⟨d,z,ne,e,mA,⟨od,es,ep,e2,c⟩,r⟩:=x
  exact⟨ho _ d,z,ne,k _ _ (.inl rfl) e,mA,⟨od,es,ep,k _ _ (.inr d) e2,c⟩,r⟩
 |own y=>obtain⟨ob,e⟩:=x;exact⟨ob,k _ _ (.inl rfl) e⟩
 |xd fs=>obtain⟨mA,⟨od,es,ep,e,c⟩,r⟩:=x;exact⟨mA,⟨od,es,ep,k _ _ (.inl rfl) e,c⟩,r⟩
 |dW lo hi=>obtain⟨t,u,v,e⟩:=x;exact⟨t,u,v,k _ _ (.inl rfl) e⟩
 |bp ob u ih=>obtain⟨e,q⟩:=x;exact⟨k _ _ (.inl rfl) e,ih q⟩
 |tbl ps=>
  have e:h.get? a=some {cls:=.none,data:=.fields ps}:=x
  show h'.get? a=some {cls:=.none,data:=.fields ps}
  exact k a _ (.inl rfl) e
 |met f y=>
  have e:h.get? a=some (PySem.W.methodObj (.ref f) (.ref y)):=x
  show h'.get? a=some (PySem.W.methodObj (.ref f) (.ref y))
  exact k a _ (.inl rfl) e
 |ext φ=>obtain⟨p,⟨o,e⟩,st⟩:=x;exact⟨st _ _ p λo q=>k _ _ (.inl rfl) q,⟨o,k _ _ (.inl rfl) e⟩,st⟩
def mS.lt (x:mS P w H h)(e:H a=some o):a < h.objs.size:=(x a o e).lt
theorem mS.fresh (x:mS P w H h)(e:h.objs.size<=a):H a=none:=by
 cases q:H a with
 |none=>rfl
 |some u=>exact absurd (Oi (x.lt q) e) (OA _)
def mS.kept (x:mS P w H h)(k:∀b u,h.get? b=some u->h'.get? b=some u):mS P w H h':=λa o e=>
 (x a o e).stay (λb u _ q=>k b u q) (λ_ q=>q) λ_ _ q=>q
def mS.laid (x:mS P w H h)(k:∀b u,h.get? b=some u->h'.get? b=some u)(hp:h.objs.size<=a)(new:c4 P w (upd H a o) h' a o):mS P w (upd H a o) h':=λb u e=>by
 have hn:=x.fresh hp
 by_cases hb:b=a
 ·subst hb;rw[aI] at e;cases e;exact new
 ·rw[aH hb] at e
  exact (x b u e).stay (λc v _ q=>k c v q) (λc q=>by rw[aH (aP q hn)];exact q) λc xs q=>q.imp (λq=>by rw[aH (aP q hn)];exact q) λ⟨o,q⟩=>⟨o,by rw[aH (aP q hn)];exact q⟩
end
def Rd (H:Hp)(a:Addr)(u:HO):Prop:=H a=some u\/∃o,H a=some (.bp o u)
def Rd.ok {P:Program}{w:World}{H:Hp}{h:Heap}{a:Addr}{u:HO}(r:Rd H a u)(x:mS P w H h):c4 P w H h a u:=by
 rcases r with r | ⟨o,r⟩
 ·exact x a u r
 ·obtain⟨_,q⟩:=x a _ r
  exact q
def Lu:Option HO->Prop
 |some (.lst _)=>True
 |some (.dK _)=>True
 |some (.dT _)=>True
 |some (.set _ _)=>True
 |some (.ins _ _ _)=>True
 |some (.ext _)=>True
 |_=>False
section
variable {P:Program}{w:World}{H:Hp}{h h':Heap}{x e:Addr}{o':HO}
def mS.write (ok:mS P w H h)(mu:Lu (H x))(he:e=x\/H e=some (.own x))(k:∀b u,b≠e->h.get? b=some u->h'.get? b=some u)(heo:∃u,h'.get? e=some u)
  (new:c4 P w (upd H x o') h' x o'):mS P w (upd H x o') h':=λb u q=>by
 have nown:∀c y,H c=some (.own y)->c≠x:=λc y r z=>by subst z;rw[r] at mu;exact mu
 have ntup:∀c xs,H c=some (.tup xs)->c≠x:=λc xs r z=>by subst z;rw[r] at mu;exact mu
 by_cases hb:b=x
 ·subst hb;rw[aI] at q;cases q;exact new
 ·rw[aH hb] at q
  by_cases hbe:b=e
  ·have q':H b=some (.own x):=by
    rcases he with z |z
    ·exact absurd (hbe.trans z) hb
    ·rw[hbe];exact z
   rw[q] at q';cases q'
   obtain⟨v,hv⟩:=heo
   exact⟨v,by rw[hbe];exact hv⟩
  ·refine (ok b u q).stay (λc v hc r=>k c v ?_ r) (λc r=>by rw[aH (nown c b r)];exact r) λc xs r=>r.imp (λr=>by rw[aH (ntup c xs r)];exact r) λ⟨o,r⟩=>⟨o,by rw[aH (λz=>by subst z;rw[r] at mu;exact mu)];exact r⟩
   rcases hc with rfl |hc
   ·exact hbe
   ·rintro rfl
    rcases he with z |z
    ·exact nown c b hc z
    ·rw[hc] at z;cases z;exact hb rfl
end
structure Un (fs ex:List Addr)(H H':Hp)(h h':Heap):Prop where
 keep:∀b o,h.get? b=some o->H b=none->b∉fs->b∉ex->h'.get? b=some o
 slot:∀b o,h.get? b=some o->H b=none->b∈fs->b∉ex->∃sl,h'.get? b=some {o with slots:=sl}
 free:∀b o,h.get? b=some o->H b=none->b∉ex->H' b=none
 there:∀b o,h.get? b=some o->b∉ex->∃o',h'.get? b=some o'
 tups:∀b xs,H b=some (.tup xs)->H' b=some (.tup xs)
 frzs:∀b o u,H b=some (.bp o u)->H' b=some (.bp o u)
 tbls:∀b ps,H b=some (.tbl ps)->∃more,H' b=some (.tbl (ps ++ more))
section
variable {fs fs' ex ex':List Addr}{H H1 H2:Hp}{h h1 h2 h':Heap}{a x e:Addr}{o:HO}
def Un.any (u:Un fs ex H H1 h h1){b:Addr}{ob:Obj}(q:h.get? b=some ob)(n:H b=none)(hx:b∉ex):∃sl,h1.get? b=some {ob with slots:=sl}:=by
 by_cases hb:b∈fs
 ·exact u.slot b ob q n hb hx
 ·exact⟨ob.slots,u.keep b ob q n hb hx⟩
def Un.kept (k:∀b u,h.get? b=some u->h'.get? b=some u):Un fs ex H H h h':=
 ⟨λb ob q _ _ _=>k b ob q,λb ob q _ _ _=>⟨ob.slots,k b ob q⟩,λ_ _ _ n _=>n,λb ob q _=>⟨ob,k b ob q⟩,λ_ _ q=>q,λ_ _ _ q=>q,λ_ ps q=>⟨#[],by rw[q];simp⟩⟩
def Un.refl:Un fs ex H H h h:=Un.kept λ_ _ q=>q
def Un.laid (k:∀b u,h.get? b=some u->h'.get? b=some u)(hp:h.objs.size<=a)(hn:H a=none):Un fs ex H (upd H a o) h h' where
 keep:=λb u q _ _ _=>k b u q
 slot:=λb u q _ _ _=>⟨u.slots,k b u q⟩
 free:=λb u q n _=>by rw[aH (Oz (Oi (N1 q) hp))];exact n
 there:=λb u q _=>⟨u,k b u q⟩
 tups:=λb xs q=>by rw[aH (aP q hn)];exact q
 frzs:=λb u xs q=>by rw[aH (aP q hn)];exact q
 tbls:=λb ps q=>⟨#[],by rw[aH (aP q hn),q];simp⟩
def Un.write (mu:Lu (H x))(he:e=x\/H e=some (.own x))(k:∀b u,b≠e->h.get? b=some u->h'.get? b=some u)(heo:∃u,h'.get? e=some u):Un fs ex H (upd H x o) h h':=by
 have hx:∀b,H b=none->b≠x:=λb n z=>by subst z;rw[n] at mu;exact mu
 have hb:∀b,H b=none->b≠e:=λb n z=>by
  subst z
  rcases he with r |r
  ·exact hx b n r
  ·rw[n] at r;cases r
 have hm:∀b u,H b=some u->¬Lu (some u)->b≠x:=λb u q nm z=>by subst z;rw[q] at mu;exact nm mu
 refine⟨λb u q n _ _=>k b u (hb b n) q,λb u q n _ _=>⟨u.slots,k b u (hb b n) q⟩,λb u q n _=>by rw[aH (hx b n)];exact n,λb u q _=>?_,
  λb xs q=>by rw[aH (hm b _ q λz=>z)];exact q,λb u xs q=>by rw[aH (hm b _ q λz=>z)];exact q,λb ps q=>⟨#[],by rw[aH (hm b _ q λz=>z),q];simp⟩⟩
 by_cases hbe:b=e
 ·subst hbe;exact heo
 ·exact⟨u,k b u hbe q⟩
end
def LD (h:Heap)(H:Hp):List Addr:=(List.range h.objs.size).filter λa=>(H a).isSome
def uQ (h:Heap)(H:Hp):Heap:=PySem.W.hideAll h (LD h H)
def AQ (h:Heap)(H:Hp):(uQ h H).objs.size=h.objs.size:=PySem.W.hideAll_size _ _
def Dx {h:Heap}{H:Hp}{b:Addr}{o:Obj}(e:h.get? b=some o)(n:H b=none):(uQ h H).get? b=some o:=
 PySem.W.hideAll_get _ e λhm=>by
  have q:(H b).isSome=true:=(NX.mp hm).2
  rw[n] at q;simp at q
theorem Gk {h:Heap}{H:Hp}{b:Addr}{o:Obj}(e:(uQ h H).get? b=some o):h.get? b=some o/\H b=none:=by
 have e':h.get? b=some o:=PySem.W.of_hideAll (LD h H) e
 refine⟨e',?_⟩
 cases q:H b with
 |none=>rfl
 |some x=>
  have hm:b∈LD h H:=NX.mpr ⟨N9.mpr (N1 e'),by simp[q]⟩
  have z:(uQ h H).get? b=none:=PySem.W.hideAll_none (LD h H) hm
  rw[z] at e;cases e
def EX (g h:Heap)(L:Addr):List (Addr×Obj):=(List.range h.objs.size).filterMap λa=>if a=L\/(g.get? a).isSome=true then none else (h.get? a).map λo=>(a,o)
def rest (g h:Heap)(L d:Addr):List (Addr×Obj):=(EX g h L).filter λp=>decide (p.1≠d)
structure Mod (K:Frag)(mg:Str->Option Value)(base:Heap):Prop where
 kin:K.In base
 glob:base.Ns mainGlobals mg
 blt:∃mb,base.Ns builtinsNs mb/\∀x:Str,x≠"__name__"->mb x=bootBuiltins x
 nolimit:base.NoLimit
 sys:∃mm,base.Ns sysModules mm
structure Cx where
 prog:Program
 w:World
 K:Frag
 mg:Str->Option Value
 base:Heap
 A:Around
 N:List Str
 s₀:Shared
 H₀:Hp
 env:Env
 outer:List Env
 stack:List Env
 ex:List Addr
 fn:Str->Bool
 calm:Bool
 pn:List (Addr×Obj)
 xe:Value->Shared->Prop
def jD (l:List Env):List Addr:=l.filterMap (·.frame)
abbrev Cx.fs (X:Cx):List Addr:=jD X.outer
def AF (sc:Scope)(x:Str):Prop:=sc.names.lookup x=some .local\/sc.names.lookup x=some .cell\/sc.names.lookup x=some .free
def Loc (sc:Scope)(x:Str):Prop:=sc.names.lookup x=some .local\/sc.names.lookup x=some .cell
def Look (env:Env)(h:Heap)(m:Str->Option Value)(x:Str)(u:Value):Prop:=
 (env.kindOf x=some .local/\m x=some u)\/((env.kindOf x=some .cell\/env.kindOf x=some .free)/\∃c,env.cells.lookup x=some c/\h.IsCell c (some u))
structure Cx.Ok (X:Cx):Prop where
 mod:Mod X.K X.mg X.base
 kind:X.env.scope.kind=.function
 glob:X.env.globals=mainGlobals
 blt:X.env.builtins=builtinsNs
 above:X.s₀.heap.objs.size<=X.env.locals
 inj:∀x y c,X.env.cells.lookup x=some c->X.env.cells.lookup y=some c->x=y
 has:∀x,(X.env.kindOf x=some .cell\/X.env.kindOf x=some .free)->∃c,X.env.cells.lookup x=some c
 cab:∀x c,X.fn x=true->X.env.cells.lookup x=some c->X.s₀.heap.objs.size<=c
 hd:X.calm=true->X.A.handled=none
 frames:X.A.frames=some X.stack
 stk:X.stack=X.outer\/(X.stack=X.env :: X.outer/\X.env.frame=some X.env.locals)
 exf:∀b∈X.ex,b≠X.env.locals/\∀x c,X.env.cells.lookup x=some c->c≠b
 bs:∀b o,X.base.get? b=some o->X.s₀.heap.get? b=some o/\X.H₀ b=none
 bsz:X.base.objs.size<=X.s₀.heap.objs.size
 noex:∀b o,X.base.get? b=some o->b∉X.ex
 exfs:∀b∈X.ex,b∉X.fs
 funs:X.s₀.heap.FunFrames X.base X.outer
 frf:∀b∈X.fs,X.H₀ b=none
structure Inv (X:Cx)(pins:List (Addr×Obj))(σ:List (Option V))(H:Hp)(s:Shared):Prop where
 ok:X.Ok
 os:s.os=X.s₀.os
 bare:AllBare s.gens
 base:Un X.fs X.ex X.H₀ H X.s₀.heap s.heap
 loc:∃m,s.heap.Ns X.env.locals m/\∀(i:Nat) (x:Str) (v:V),X.N[i]? =some x->σ[i]? =some (some v)->AF X.env.scope x->∃u,RelV v u/\Look X.env s.heap m x u
 cell:∀x c,X.env.cells.lookup x=some c->∃v,s.heap.IsCell c v
 free:H X.env.locals=none
 freeC:∀x c,X.env.cells.lookup x=some c->H c=none
 pin:∀p∈X.pn ++ pins,s.heap.get? p.1=some p.2/\H p.1=none/\p.1≠X.env.locals/\p.1∉X.fs/\∀v,p.2.data≠.cell v
 hok:mS X.prog X.w H s.heap
 len:σ.length=X.N.length
section
variable {X:Cx}{pins:List (Addr×Obj)}{σ:List (Option V)}{H H':Hp}{s:Shared}{h':Heap}
def Cx.Ok.nofr (ok:X.Ok){b:Addr}{o:Obj}(e:X.base.get? b=some o):b∉X.fs:=λhb=>by
 have:=(ok.funs.mem hb).1
 rw[e] at this;cases this
def Inv.bs (I:Inv X pins σ H s):∀b o,X.base.get? b=some o->s.heap.get? b=some o/\H b=none:=λb o e=>
 ⟨I.base.keep b o (I.ok.bs b o e).1 (I.ok.bs b o e).2 (I.ok.nofr e) (I.ok.noex b o e),I.base.free b o (I.ok.bs b o e).1 (I.ok.bs b o e).2 (I.ok.noex b o e)⟩
def Inv.bk (I:Inv X pins σ H s):∀b o,X.base.get? b=some o->s.heap.get? b=some o:=λb o e=>(I.bs b o e).1
def Inv.mod (I:Inv X pins σ H s):Mod X.K X.mg X.base:=I.ok.mod
def Inv.kIn (I:Inv X pins σ H s):X.K.In s.heap:=I.ok.mod.kin.keeps I.bk
def Inv.lt (I:Inv X pins σ H s):X.env.locals < s.heap.objs.size:=let ⟨_,hn,_⟩:=I.loc;hn.lt
def Inv.sz (I:Inv X pins σ H s):X.s₀.heap.objs.size<=s.heap.objs.size:=OU I.ok.above (Qq I.lt)
def Inv.nofs (I:Inv X pins σ H s){a:Addr}(h:s.heap.objs.size<=a):a∉X.fs:=λhb=>by
 obtain⟨_,o,ho,_⟩:=I.ok.funs.mem hb
 exact absurd (Oi (N1 ho) (OU I.sz h)) (OA _)
def Inv.cne (I:Inv X pins σ H s):∀x c,X.env.cells.lookup x=some c->c≠X.env.locals:=λx c e z=>by
 obtain⟨v,o,ho,hd⟩:=I.cell x c e
 obtain⟨m,⟨o',es,ep,ho',hd',_⟩,_⟩:=I.loc
 rw[z,ho'] at ho;cases ho;rw[hd'] at hd;cases hd
def Inv.funs (I:Inv X pins σ H s):s.heap.FunFrames X.base X.outer:=by
 have all:∀(l:List Env),(∀b∈jD l,b∈X.fs)->X.s₀.heap.FunFrames X.base l->s.heap.FunFrames X.base l:=by
  intro l
  induction l with
  |nil=>intro _ _;trivial
  |cons env r ih=>
   intro hs hl
   obtain⟨hk,⟨L,o,hf,hn,ho,hd⟩,hr⟩:=hl
   have hL:L∈X.fs:=hs L (by unfold jD;rw[Qt,hf];exact NR)
   obtain⟨sl,e⟩:=I.base.slot L o ho (I.ok.frf L hL) hL λz=>I.ok.exfs L z hL
   exact⟨hk,⟨L,_,hf,hn,e,hd⟩,ih (λb hb=>hs b (by unfold jD;rw[Qt,hf];exact NP _ hb)) hr⟩
 exact all X.outer (λ_ hb=>hb) I.ok.funs
def Inv.stack (I:Inv X pins σ H s):s.heap.FunFrames X.base X.stack:=by
 rcases I.ok.stk with e | ⟨e,hf⟩
 ·rw[e];exact I.funs
 ·rw[e]
  obtain⟨m,hn,_⟩:=I.loc
  refine .cons (by rw[I.ok.kind];decide) hf hn ?_ I.funs
  exact Heap.get?_none_of_le (OU I.ok.bsz I.ok.above)
def Inv.stkSub (I:Inv X pins σ H s):∀b∈jD X.stack,b∈X.env.locals :: X.fs:=λb hb=>by
 rcases I.ok.stk with e | ⟨e,hf⟩
 ·rw[e] at hb;exact NP _ hb
 ·rw[e] at hb
  unfold jD at hb
  rw[Qt,hf] at hb
  exact hb
def Inv.stkFree (I:Inv X pins σ H s):∀b∈jD X.stack,H b=none:=λb hb=>by
 rcases NO.mp (I.stkSub b hb) with e |hb
 ·rw[e];exact I.free
 ·obtain⟨_,o,ho,_⟩:=I.ok.funs.mem hb
  exact I.base.free b o ho (I.ok.frf b hb) λz=>I.ok.exfs b z hb
def Inv.step {g':Array GenState}{t':Nat}{d':Drawn}{ch:List Addr}(I:Inv X pins σ H s)
  (hch:∀b∈ch,(b∈X.ex\/X.s₀.heap.objs.size<=b)/\b≠X.env.locals/\(∀x c,X.env.cells.lookup x=some c->c≠b)/\∀p∈X.pn ++ pins,p.1≠b)
  (keep:∀b o,b≠X.env.locals->b∉X.fs->b∉ch->s.heap.get? b=some o->H b=none->h'.get? b=some o)
  (slot:∀b o,b≠X.env.locals->b∈X.fs->b∉ch->s.heap.get? b=some o->H b=none->∃sl,h'.get? b=some {o with slots:=sl}) (free:∀b o,b∉ch->s.heap.get? b=some o->H b=none->H' b=none)
  (there:∀b o,b∉ch->s.heap.get? b=some o->∃o',h'.get? b=some o')
  (tups:∀b xs,H b=some (.tup xs)->H' b=some (.tup xs)) (frzs:∀b o u,H b=some (.bp o u)->H' b=some (.bp o u)) (tbls:∀b ps,H b=some (.tbl ps)->∃more,H' b=some (.tbl (ps ++ more)))
  (ns:∀m,s.heap.Ns X.env.locals m->h'.Ns X.env.locals m) (hok:mS X.prog X.w H' h') (hg:AllBare g') :
  Inv X pins σ H' {s with heap:=h',gens:=g',drawn:=d',toks:=t'}:=by
 have neL:∀b o,X.s₀.heap.get? b=some o->b≠X.env.locals:=λb o e=>Oz (Oi (N1 e) I.ok.above)
 have neC:∀b o,X.s₀.heap.get? b=some o->b∉X.ex->b∉ch:=λb o e hx hb=>by
  rcases (hch b hb).1 with z |z
  ·exact hx z
  ·exact absurd (Oi (N1 e) z) (OA _)
 have cellK:∀x c,X.env.cells.lookup x=some c->∀v,s.heap.IsCell c v->h'.IsCell c v:=λx c e v ⟨o,ho,hd⟩=>by
  have nch:c∉ch:=λz=>(hch c z).2.2.1 x c e rfl
  by_cases hc:c∈X.fs
  ·obtain⟨sl,q⟩:=slot c o (I.cne x c e) hc nch ho (I.freeC x c e)
   exact⟨_,q,hd⟩
  ·exact⟨o,keep c o (I.cne x c e) hc nch ho (I.freeC x c e),hd⟩
 refine⟨I.ok,I.os,hg,⟨λb o e n hb hx=>?_,λb o e n hb hx=>?_,λb o e n hx=>?_,λb o e hx=>?_,λb xs e=>tups b xs (I.base.tups b xs e),λb o xs e=>frzs b o xs (I.base.frzs b o xs e),λb ps e=>?_⟩,?_,λx c e=>?_,?_,λx c e=>?_,λp hp=>?_,hok,I.len⟩
 ·exact keep b o (neL b o e) hb (neC b o e hx) (I.base.keep b o e n hb hx) (I.base.free b o e n hx)
 ·obtain⟨sl,e1⟩:=I.base.slot b o e n hb hx
  obtain⟨sl',e2⟩:=slot b _ (neL b o e) hb (neC b o e hx) e1 (I.base.free b o e n hx)
  exact⟨sl',e2⟩
 ·obtain⟨o',e1⟩:=I.base.there b o e hx
  exact free b o' (neC b o e hx) e1 (I.base.free b o e n hx)
 ·obtain⟨o',e1⟩:=I.base.there b o e hx
  exact there b o' (neC b o e hx) e1
 ·obtain⟨m1,e1⟩:=I.base.tbls b ps e
  obtain⟨m2,e2⟩:=tbls b _ e1
  exact⟨m1 ++ m2,by rw[e2,Array.append_assoc]⟩
 ·obtain⟨m,hn,hl⟩:=I.loc
  refine⟨m,ns m hn,λi x v e1 e2 e3=>?_⟩
  obtain⟨u,r,l⟩:=hl i x v e1 e2 e3
  refine⟨u,r,?_⟩
  rcases l with l | ⟨k,c,e,z⟩
  ·exact .inl l
  ·exact .inr ⟨k,c,e,cellK x c e _ z⟩
 ·obtain⟨v,z⟩:=I.cell x c e
  exact⟨v,cellK x c e v z⟩
 ·obtain⟨m,⟨o,_,_,ho,_⟩,_⟩:=I.loc
  exact free _ o (λz=>(hch _ z).2.1 rfl) ho I.free
 ·obtain⟨v,o,ho,hd⟩:=I.cell x c e
  exact free c o (λz=>(hch c z).2.2.1 x c e rfl) ho (I.freeC x c e)
 ·obtain⟨e,n,ne,nf,d⟩:=I.pin p hp
  have nch:p.1∉ch:=λz=>(hch p.1 z).2.2.2 p hp rfl
  exact⟨keep p.1 p.2 ne nf nch e n,free p.1 p.2 nch e n,ne,nf,d⟩
def Inv.un {t':Nat}(I:Inv X pins σ H s)(u:Un X.fs [] H H' s.heap h')(hok:mS X.prog X.w H' h'):Inv X pins σ H' {s with heap:=h',toks:=t'}:=by
 obtain⟨m,⟨o,es,ep,ho,r⟩,_⟩:=id I.loc
 obtain⟨sl,hL⟩:=u.any ho I.free (by simp)
 exact I.step (g':=s.gens) (d':=s.drawn) (ch:=[]) (λ_ z=>nomatch z) (λb o _ hb _ e n=>u.keep b o e n hb (by simp)) (λb o _ hb _ e n=>u.slot b o e n hb (by simp)) (λb o _ e n=>u.free b o e n (by simp)) (λb o _ e=>u.there b o e (by simp)) u.tups u.frzs u.tbls (λm' hm=>by
  obtain⟨o',es',ep',ho',r'⟩:=hm
  rw[ho] at ho';cases ho'
  exact⟨_,es',ep',hL,r'⟩) hok I.bare
def Inv.call {g':Array GenState}{t':Nat}{d':Drawn}{ch:List Addr}(I:Inv X pins σ H s)(u:Un (jD X.stack) ch H H' s.heap h')(hok:mS X.prog X.w H' h')(hg:AllBare g')
  (hch:∀b∈ch,(b∈X.ex\/X.s₀.heap.objs.size<=b)/\b≠X.env.locals/\(∀x c,X.env.cells.lookup x=some c->c≠b)/\∀p∈X.pn ++ pins,p.1≠b) :
  Inv X pins σ H' {s with heap:=h',gens:=g',drawn:=d',toks:=t'}:=by
 obtain⟨m,⟨o,es,ep,ho,r⟩,_⟩:=id I.loc
 obtain⟨sl,hL⟩:=u.any ho I.free λz=>(hch _ z).2.1 rfl
 exact I.step (ch:=ch) hch (λb o hL hb hc e n=>u.keep b o e n (λz=>(NO.mp (I.stkSub b z)).elim hL hb) hc) (λb o _ _ hc e n=>u.any e n hc) (λb o hc e n=>u.free b o e n hc) (λb o hc e=>u.there b o e hc) u.tups u.frzs u.tbls (λm' hm=>by
  obtain⟨o',es',ep',ho',r'⟩:=hm
  rw[ho] at ho';cases ho'
  exact⟨_,es',ep',hL,r'⟩) hok hg
def Inv.turned {t':Nat}{it:Addr}(I:Inv X pins σ H s)(k:∀b o,b≠it->s.heap.get? b=some o->h'.get? b=some o)(hn:H it=none)(hL:it≠X.env.locals)
  (h1:it∈X.ex\/X.s₀.heap.objs.size<=it) (h2:∀x c,X.env.cells.lookup x=some c->c≠it) (h3:∀p∈X.pn ++ pins,p.1≠it):Inv X pins σ H {s with heap:=h',toks:=t'}:=by
 have nit:∀b u,H b=some u->b≠it:=λb u e z=>by rw[z,hn] at e;cases e
 refine I.step (g':=s.gens) (d':=s.drawn) (ch:=[it]) (λb hb=>?_) (λb o _ _ hc e _=>k b o (λz=>hc (by simp[z])) e) (λb o _ _ hc e _=>⟨o.slots,k b o (λz=>hc (by simp[z])) e⟩) (λ_ _ _ _ n=>n)
  (λb o hc e=>⟨o,k b o (λz=>hc (by simp[z])) e⟩) (λ_ _ e=>e) (λ_ _ _ e=>e) (λb ps e=>⟨#[],by rw[e];simp⟩) (λm hm=>?_) (λb u e=>?_) I.bare
 ·have e:b=it:=by simpa using hb
  subst e
  exact⟨h1,hL,h2,h3⟩
 ·obtain⟨o,es,ep,ho,r⟩:=hm
  exact⟨o,es,ep,k _ o (Ne.symm hL) ho,r⟩
 ·refine (I.hok b u e).stay (λc v hc q=>k c v ?_ q) (λ_ q=>q) λ_ _ q=>q
  rcases hc with z |z
  ·rw[z];exact nit b u e
  ·exact nit c _ z
def Inv.tok (I:Inv X pins σ H s)(t:Nat):Inv X pins σ H {s with toks:=t}:=I.un (h':=s.heap) (t':=t) Un.refl I.hok
def Inv.kept {t':Nat}(I:Inv X pins σ H s)(k:∀b u,s.heap.get? b=some u->h'.get? b=some u):Inv X pins σ H {s with heap:=h',toks:=t'}:=I.un (Un.kept k) (I.hok.kept k)
def Inv.laid {a:Addr}{o:HO}{t':Nat}(I:Inv X pins σ H s)(k:∀b u,s.heap.get? b=some u->h'.get? b=some u)(hp:s.heap.objs.size<=a)(new:c4 X.prog X.w (upd H a o) h' a o) :
  Inv X pins σ (upd H a o) {s with heap:=h',toks:=t'}:=I.un (Un.laid k hp (I.hok.fresh hp)) (I.hok.laid k hp new)
def Inv.write {x e:Addr}{o:HO}{t':Nat}(I:Inv X pins σ H s)(mu:Lu (H x))(he:e=x\/H e=some (.own x))(k:∀b u,b≠e->s.heap.get? b=some u->h'.get? b=some u)(heo:∃u,h'.get? e=some u)
  (new:c4 X.prog X.w (upd H x o) h' x o):Inv X pins σ (upd H x o) {s with heap:=h',toks:=t'}:=I.un (Un.write mu he k heo) (I.hok.write mu he k heo new)
def Inv.pins_of {pins':List (Addr×Obj)}(I:Inv X pins σ H s)(h:∀p∈pins',s.heap.get? p.1=some p.2/\H p.1=none/\p.1≠X.env.locals/\p.1∉X.fs/\∀v,p.2.data≠.cell v):Inv X pins' σ H s:=
 ⟨I.ok,I.os,I.bare,I.base,I.loc,I.cell,I.free,I.freeC,λp hp=>(Ob.mp hp).elim (λz=>I.pin p (OV _ z)) (h p),I.hok,I.len⟩
def vI {N:List Str}(hN:N.Nodup){i j:Nat}{x:Str}(a:N[i]? =some x)(b:N[j]? =some x):i=j:=by
 obtain⟨h1,e1⟩:=N0.mp a
 obtain⟨h2,e2⟩:=N0.mp b
 exact (List.getElem_inj hN).mp (e1.trans e2.symm)
def su {M:Model}{A:Around}{E:Value->Shared->Prop}{i:Nat}{x:Str}{v:V}{u:Value}{Q:Unit->Shared->Prop}(I:Inv X pins σ H s)(hN:X.N.Nodup)(hi:X.N[i]? =some x)(hx:Loc X.env.scope x)(r:RelV v u)
  (h:∀s',Inv X pins (σ.set i (some v)) H s'->(∃a,Heap.SameBut a s.heap s'.heap/\(a=X.env.locals\/X.env.cells.lookup x=some a))->Q () s') (hf:X.fn x=true\/X.env.scope.names.lookup x=some .local:=by first |exact .inl rfl |exact .inr rfl |assumption):wpAny M A (storeName X.env x u) Q E s:=by
 obtain⟨m,hn,hl⟩:=id I.loc
 have hcls:(X.env.scope.kind == .class || (X.env.scope.kind == .module && X.env.locals != X.env.globals))=false:=by rw[I.ok.kind];rfl
 have hiσ:i < σ.length:=by rw[I.len];exact (N0.mp hi).1
 have cne:=I.cne
 have tracked:∀{a:Addr} {h':Heap},(∃o,s.heap.get? a=some o/\H a=none)->Heap.SameBut a s.heap h'->mS X.prog X.w H h':=λ{a h'} ha hs b ob e=>by
  obtain⟨_,_,hfree⟩:=ha
  refine (I.hok b ob e).stay (λc w' hc q=>(hs.2 c ?_).trans q) (λ_ q=>q) λ_ _ q=>q
  rintro rfl
  rcases hc with rfl |hc
  ·rw[hfree] at e;cases e
  ·rw[hfree] at hc;cases hc
 rcases hx with hk |hk
 ·refine wpAny_storeName_local hk hn (λh' hn' hs=>?_) hcls
  obtain⟨oL,_,_,hoL,_⟩:=id hn
  refine h _ ⟨I.ok,I.os,I.bare,⟨λb o e n hb hx=>?_,λb o e n hb hx=>?_,I.base.free,λb o e hx=>?_,I.base.tups,I.base.frzs,I.base.tbls⟩,⟨_,hn',λj y v' e1 e2 e3=>?_⟩,λy c e=>?_,I.free,I.freeC,λp hp=>?_,tracked ⟨oL,hoL,I.free⟩ hs,by simpa using I.len⟩ ⟨_,hs,.inl rfl⟩
  ·exact (hs.2 b (Oz (Oi (N1 e) I.ok.above))).trans (I.base.keep b o e n hb hx)
  ·obtain⟨sl,e1⟩:=I.base.slot b o e n hb hx
   exact⟨sl,(hs.2 b (Oz (Oi (N1 e) I.ok.above))).trans e1⟩
  ·obtain⟨o',e1⟩:=I.base.there b o e hx
   exact⟨o',(hs.2 b (Oz (Oi (N1 e) I.ok.above))).trans e1⟩
  ·by_cases hj:j=i
   ·subst hj
    rw[hi] at e1;cases e1
    rw[Oc hiσ] at e2
    cases e2
    exact⟨u,r,.inl ⟨hk,by simp⟩⟩
   ·rw[N8 (Ne.symm hj)] at e2
    obtain⟨u',r',q⟩:=hl j y v' e1 e2 e3
    refine⟨u',r',?_⟩
    rcases q with⟨k,e⟩ | ⟨k,c,e,z⟩
    ·refine .inl ⟨k,?_⟩
     have:y≠x:=λe=>hj (vI hN e1 (e▸hi))
     simp[this,e]
    ·exact .inr ⟨k,c,e,z.sameBut hs (cne y c e)⟩
  ·obtain⟨w',z⟩:=I.cell y c e
   exact⟨w',z.sameBut hs (cne y c e)⟩
  ·obtain⟨e,n,ne,nf,d⟩:=I.pin p hp
   exact⟨(hs.2 p.1 ne).trans e,n,ne,nf,d⟩
 ·have hfn:X.fn x=true:=by
   rcases hf with z |z
   ·exact z
   ·rw[z] at hk;cases hk
  obtain⟨c,hc⟩:=I.ok.has x (.inl hk)
  obtain⟨w',z⟩:=I.cell x c hc
  refine wpAny_storeName_cell I.ok.kind hk hc z (λh' hc' hs=>?_)
  obtain⟨oc,hoc,hocd⟩:=id z
  refine h {s with heap:=h'} ⟨I.ok,I.os,I.bare,⟨λb o e n hb hx=>?_,λb o e n hb hx=>?_,I.base.free,λb o e hx=>?_,I.base.tups,I.base.frzs,I.base.tbls⟩,⟨m,hn.sameBut hs (Ne.symm (cne x c hc)),λj y v' e1 e2 e3=>?_⟩,λy c' e=>?_,I.free,I.freeC,λp hp=>?_,tracked ⟨oc,hoc,I.freeC x c hc⟩ hs,by simpa using I.len⟩ ⟨c,hs,.inr hc⟩
  ·exact (hs.2 b (Oz (Oi (N1 e) (I.ok.cab x c hfn hc)))).trans (I.base.keep b o e n hb hx)
  ·obtain⟨sl,e1⟩:=I.base.slot b o e n hb hx
   exact⟨sl,(hs.2 b (Oz (Oi (N1 e) (I.ok.cab x c hfn hc)))).trans e1⟩
  ·obtain⟨o',e1⟩:=I.base.there b o e hx
   exact⟨o',(hs.2 b (Oz (Oi (N1 e) (I.ok.cab x c hfn hc)))).trans e1⟩
  ·by_cases hj:j=i
   ·subst hj
    rw[hi] at e1;cases e1
    rw[Oc hiσ] at e2
    cases e2
    exact⟨u,r,.inr ⟨.inl hk,c,hc,hc'⟩⟩
   ·rw[N8 (Ne.symm hj)] at e2
    obtain⟨u',r',q⟩:=hl j y v' e1 e2 e3
    refine⟨u',r',?_⟩
    rcases q with q | ⟨k,c',e,z'⟩
    ·exact .inl q
    ·refine .inr ⟨k,c',e,z'.sameBut hs ?_⟩
     rintro rfl
     exact hj (vI hN e1 (I.ok.inj _ _ _ e hc▸hi))
  ·by_cases hcc:c'=c
   ·subst hcc;exact⟨_,hc'⟩
   ·obtain⟨w2,z2⟩:=I.cell y c' e
    exact⟨w2,z2.sameBut hs hcc⟩
  ·obtain⟨e,n,ne,nf,d⟩:=I.pin p hp
   refine⟨(hs.2 p.1 ?_).trans e,n,ne,nf,d⟩
   intro q
   rw[q,hoc] at e
   have q':oc=p.2:=Option.some.inj e
   exact d w' (by rw[<-q'];exact hocd)
def wo {M:Model}{A:Around}{E:Value->Shared->Prop}{i:Nat}{x:Str}{v:V}{u:Value}{Q:Unit->Shared->Prop}(I:Inv X pins σ H s)(hN:X.N.Nodup)(hi:X.N[i]? =some x)(hx:Loc X.env.scope x)(r:RelV v u)
  (h:∀s',Inv X pins (σ.set i (some v)) H s'->Q () s') (hf:X.fn x=true\/X.env.scope.names.lookup x=some .local:=by first |exact .inl rfl |exact .inr rfl |assumption):wpAny M A (storeName X.env x u) Q E s:=
 su I hN hi hx r (λs' I' _=>h s' I') hf
def Inv.call' {s':Shared}{ch:List Addr}(I:Inv X pins σ H s)(ho:s'.os=s.os)(u:Un (jD X.stack) ch H H' s.heap s'.heap)(hok:mS X.prog X.w H' s'.heap)(hg:AllBare s'.gens)
  (hch:∀b∈ch,(b∈X.ex\/X.s₀.heap.objs.size<=b)/\b≠X.env.locals/\(∀x c,X.env.cells.lookup x=some c->c≠b)/\∀p∈X.pn ++ pins,p.1≠b):Inv X pins σ H' s':=by
 obtain⟨h',g',d',t',o'⟩:=s'
 have e:o'=s.os:=ho
 subst e
 exact I.call (g':=g') (t':=t') (d':=d') u hok hg hch
end
abbrev XK:=Value->Option Addr->Hp->Prop
abbrev St:=List (Option V)
abbrev VK:=V->Hp->Prop
abbrev TE:=St->Hp->VK->Prop
abbrev TT:=St->Hp->(Bool->Hp->Prop)->Prop
abbrev TA:=St->Hp->(List V->Hp->Prop)->Prop
structure Ends where
 nx:St->Hp->Prop
 rt:VK
 bk:St->Hp->Prop:=λ_ _=>False
 ct:St->Hp->Prop:=λ_ _=>False
abbrev TS:=Ends->St->Hp->Prop
def EP (X:Cx)(pins:List (Addr×Obj))(σ:St)(Q:VK)(u:Value)(s':Shared):Prop:=∃v H',Inv X pins σ H' s'/\RelV v u/\Q v H'
def TP (X:Cx)(pins:List (Addr×Obj))(σ:St)(Q:Bool->Hp->Prop)(b:Bool)(s':Shared):Prop:=∃H',Inv X pins σ H' s'/\Q b H'
def AP (X:Cx)(pins:List (Addr×Obj))(σ:St)(Q:List V->Hp->Prop)(us:List Value)(s':Shared):Prop:=∃vs H',Inv X pins σ H' s'/\Vals vs us/\Q vs H'
def SP (X:Cx)(pins:List (Addr×Obj))(D:Ends)(f:Flow)(s':Shared):Prop:=
 match f with
 | .next=>∃σ' H',Inv X pins σ' H' s'/\D.nx σ' H'
 | .brk=>∃σ' H',Inv X pins σ' H' s'/\D.bk σ' H'
 | .cont=>∃σ' H',Inv X pins σ' H' s'/\D.ct σ' H'
 | .ret u=>∃v σ' H',Inv X pins σ' H' s'/\RelV v u/\D.rt v H'
def PE (X:Cx)(e:Expr)(t:TE):Prop:=
 ∀(pins:List (Addr×Obj)) (s:Shared) (σ:St) (H:Hp) (Q:VK),Inv X pins σ H s->t σ H Q->wpAny (model X.prog X.w) X.A (eval e X.env) (EP X pins σ Q) X.xe s
def PT (X:Cx)(e:Expr)(t:TT):Prop:=
 ∀(pins:List (Addr×Obj)) (s:Shared) (σ:St) (H:Hp) (Q:Bool->Hp->Prop),Inv X pins σ H s->t σ H Q->wpAny (model X.prog X.w) X.A (isTrue e X.env (eval e X.env)) (TP X pins σ Q) X.xe s
def PW (X:Cx)(e:Expr)(t:TT):Prop:=
 ∀(whole:Sem Value) (pins:List (Addr×Obj)) (s:Shared) (σ:St) (H:Hp) (Q:Bool->Hp->Prop),Inv X pins σ H s->t σ H Q->wpAny (model X.prog X.w) X.A (isTrue e X.env whole) (TP X pins σ Q) X.xe s
def PW.pt {X:Cx}{e:Expr}{t:TT}(h:PW X e t):PT X e t:=h _
def PA (X:Cx)(es:List Expr)(t:TA):Prop:=
 ∀(pos:Pos) (pins:List (Addr×Obj)) (s:Shared) (σ:St) (H:Hp) (Q:List V->Hp->Prop),Inv X pins σ H s->t σ H Q->wpAny (model X.prog X.w) X.A (spliced (backTo pos (starEach es X.env))) (AP X pins σ Q) X.xe s
def PS (X:Cx)(st:Stmt)(t:TS):Prop:=
 ∀(pins:List (Addr×Obj)) (s:Shared) (σ:St) (H:Hp) (D:Ends),Inv X pins σ H s->t D σ H->wpAny (model X.prog X.w) X.A (exec st X.env) (SP X pins D) X.xe s
def sC (X:Cx)(st:List Stmt)(t:TS):Prop:=
 ∀(pins:List (Addr×Obj)) (s:Shared) (σ:St) (H:Hp) (D:Ends),Inv X pins σ H s->t D σ H->wpAny (model X.prog X.w) X.A (execs st X.env) (SP X pins D) X.xe s
def cM {α:Type}{t:Sem α}{Q Q':α->Shared->Prop}{M:Model}{A:Around}{E:Value->Shared->Prop}{s:Shared}(h:wpAny M A t Q E s)(hQ:∀a s,Q a s->Q' a s):wpAny M A t Q' E s:=Px h hQ λ_ _ x=>x
section
variable {X:Cx}
def bin {a b:Expr}{ta tb:TE}(ha:PE X a ta)(hb:PE X b tb){pins:List (Addr×Obj)}{s:Shared}{σ:St}{H:Hp}{R:V->V->Hp->Prop}(I:Inv X pins σ H s)(h:ta σ H λx H1=>tb σ H1 λy H2=>R x y H2)
  {α:Type} {Q:α->Shared->Prop} {f:Value->Value->Sem α}
  (hf:∀v u s2 x y H2,Inv X pins σ H2 s2->RelV x v->RelV y u->R x y H2->wpAny (model X.prog X.w) X.A (f v u) Q X.xe s2) :
  wpAny (model X.prog X.w) X.A (eval a X.env) (λv s₁=>wpAny (model X.prog X.w) X.A (eval b X.env) (λu s₂=>wpAny (model X.prog X.w) X.A (f v u) Q X.xe s₂) X.xe s₁) X.xe s:=by
 refine cM (ha pins s σ H _ I h) λv s1 ⟨x,H1,I1,r1,q1⟩=>?_
 refine cM (hb pins s1 σ H1 _ I1 q1) λu s2 ⟨y,H2,I2,r2,q2⟩=>?_
 exact hf v u s2 x y H2 I2 r1 r2 q2
def FN (i:Nat):TE:=λσ H Q=>∃v,σ[i]? =some (some v)/\Q v H
def tC (v:V):TE:=λ_ H Q=>Q v H
def jC {i:Nat}{x:Str}{pos:Pos}(hN:X.N[i]? =some x)(hv:AF X.env.scope x)(hd:(x == ("__debug__":Str))=false:=by decide)(hcd:(x == ("__classdict__":Str))=false:=by decide):PE X (.Name x pos) (FN i):=by
 intro pins s σ H Q I h
 obtain⟨v,e,h⟩:=h
 obtain⟨m,hn,hl⟩:=I.loc
 obtain⟨u,r,l⟩:=hl i x v hN e hv
 have fin:EP X pins σ Q u s:=⟨v,H,I,r,h⟩
 rcases l with⟨hk,hm⟩ | ⟨hk,c,hc,hcell⟩
 ·exact wpAny_Name (wpAny_loadName_local I.ok.kind hk hn hm fin) hd
 ·rcases hk with hk |hk
  ·exact wpAny_Name (wpAny_loadName_cell I.ok.kind hk hc hcell fin) hd
  ·exact wpAny_Name (wpAny_loadName_free I.ok.kind hk hc hcell fin hcd) hd
def x6 {i j pos}:PE X (.Constant (.int i) j pos) (tC (.int i)):=λ_ _ _ H _ I h=>wpAny_Constant_int ⟨.int i,H,I.tok _,⟨_,rfl⟩,h⟩
def zK {b j pos}:PE X (.Constant (.bool b) j pos) (tC (.bl b)):=λ_ _ _ H _ I h=>Constant_bool ⟨.bl b,H,I,rfl,h⟩
def IL {x j pos}:PE X (.Constant (.str x) j pos) (tC (.str x)):=λ_ _ _ H _ I h=>Calls.Constant_str ⟨.str x,H,I.tok _,⟨_,rfl⟩,h⟩
def Gl (X:Cx)(x:Str):Prop:=X.env.kindOf x=some .globalImplicit
def ve {E:Value->Shared->Prop}{pins:List (Addr×Obj)}{s:Shared}{σ:St}{H:Hp}{x:Str}{u:Value}{pos:Pos}{Q:Value->Shared->Prop}(I:Inv X pins σ H s)(hg:Gl X x)(hm:X.mg x=some u)(h:Q u s)
  (hd:(x == ("__debug__":Str))=false:=by decide):wpAny (model X.prog X.w) X.A (eval (.Name x pos) X.env) Q E s:=
 Calls.Name_function_global I.ok.kind hg (Calls.loadGlobal_global (by rw[I.ok.glob];exact I.mod.glob.keeps I.bk) hm h) hd
def lj {E:Value->Shared->Prop}{pins:List (Addr×Obj)}{s:Shared}{σ:St}{H:Hp}{x:Str}{u:Value}{pos:Pos}{Q:Value->Shared->Prop}(I:Inv X pins σ H s)(hg:Gl X x)(hm:X.mg x=none)(hv:bootBuiltins x=some u)(h:Q u s)
  (hn:x≠"__name__":=by decide) (hd:(x == ("__debug__":Str))=false:=by decide):wpAny (model X.prog X.w) X.A (eval (.Name x pos) X.env) Q E s:=by
 obtain⟨mb,h1,h2⟩:=I.mod.blt
 exact Calls.Name_function_global I.ok.kind hg (Calls.loadGlobal_builtin (by rw[I.ok.glob];exact I.mod.glob.keeps I.bk) hm (by rw[I.ok.blt];exact h1.keeps I.bk) ((h2 x hn).trans hv) h) hd
def Gh {x:Str}{v:V}{u:Value}{pos:Pos}(hg:Gl X x)(hm:X.mg x=some u)(r:RelV v u)(hd:(x == ("__debug__":Str))=false:=by decide):PE X (.Name x pos) (tC v):=
 λ_ _ _ H _ I h=>ve I hg hm ⟨v,H,I,r,h⟩ hd
def FX {x:Str}{v:V}{u:Value}{pos:Pos}(hg:Gl X x)(hm:X.mg x=none)(hv:bootBuiltins x=some u)(r:RelV v u)(hn:x≠"__name__":=by decide)(hd:(x == ("__debug__":Str))=false:=by decide):PE X (.Name x pos) (tC v):=
 λ_ _ _ H _ I h=>lj I hg hm hv ⟨v,H,I,r,h⟩ hn hd
variable {a b:Expr}{ta tb:TE}{pos:Pos}
def PC (X:Cx)(op:CmpOp)(a b:Expr)(t:TE):Prop:=
 ∀(pins:List (Addr×Obj)) (s:Shared) (σ:St) (H:Hp) (Q:VK),Inv X pins σ H s->t σ H Q->
  wpAny (model X.prog X.w) X.A (eval a X.env) (λv s₁=>wpAny (model X.prog X.w) X.A (eval b X.env) (λu s₂=>wpAny (model X.prog X.w) X.A (compareOp op v u) (EP X pins σ Q) X.xe s₂) X.xe s₁) X.xe s
def DP (b:Expr){op:CmpOp}(h:op≠.In)(h2:op≠.NotIn):behindInMarks op b=false:=by
 have e1:(op == CmpOp.In)=false:=by cases op <;> first |rfl |exact absurd rfl h
 have e2:(op == CmpOp.NotIn)=false:=by cases op <;> first |rfl |exact absurd rfl h2
 cases b <;> simp[behindInMarks,e1,e2]
def tB (t:TE):TT:=λσ H Q=>t σ H λx H1=>∃c,x=.bl c/\Q c H1
def LZ {op:CmpOp}{t:TE}(h:PC X op a b t)(h1:behindInMarks op b=false:=by first |exact DP _ (by decide) (by decide) |rfl):PT X (.Compare a [op] [b] pos) (tB t):=by
 intro pins s σ H Q I hw
 refine wpAny_isTrue_Compare1 (cM (h pins s σ H _ I hw) λv s1 h1=>cM h1 λu s2 h2=>cM h2 λc s3 ⟨x,H1,I1,r1,q1⟩=>?_) h1
 obtain⟨d,rfl,q⟩:=q1
 cases r1
 exact Pa ⟨H1,I1,q⟩
def xK {e:Expr}{t:TE}(h:PE X e t)(he:∀whole,isTrue e X.env whole=(do let v <-whole;standAt e.pos;holding [v] (truthy v)):=by intro _;rfl):PT X e (tB t):=by
 intro pins s σ H Q I hw
 refine isTrue_plain (cM (h pins s σ H _ I hw) λv s1 ⟨x,H1,I1,r1,q1⟩=>?_) (he _)
 obtain⟨d,rfl,q⟩:=q1
 cases r1
 exact Pa ⟨H1,I1,q⟩
variable {tA tB':TT}{rest:List Expr}
def LW (t u:TT):TT:=λσ H Q=>t σ H λc H1=>if c=true then u σ H1 Q else Q false H1
def Nw (t u:TT):TT:=λσ H Q=>t σ H λc H1=>if c=true then Q true H1 else u σ H1 Q
def Mb (t:TT):TT:=λσ H Q=>t σ H λc H1=>Q (!c) H1
theorem ze (ha:PT X a tA):PW X (.BoolOp .And [a] pos) tA:=by
 intro wh pins s σ H Q I h
 refine isTrue_and (cM (ha pins s σ H Q I h) λc s1 e=>?_)
 cases c with
 |true=>exact isTrue_and_nil e
 |false=>exact e
theorem Jl (ha:PT X a tA):PW X (.BoolOp .Or [a] pos) tA:=by
 intro wh pins s σ H Q I h
 refine isTrue_or (cM (ha pins s σ H Q I h) λc s1 e=>?_)
 cases c with
 |false=>exact isTrue_or_nil e
 |true=>exact e
theorem Eh (ha:PT X a tA)(hb:PW X (.BoolOp .And (b :: rest) pos) tB'):PW X (.BoolOp .And (a :: b :: rest) pos) (LW tA tB'):=by
 intro wh pins s σ H Q I h
 refine isTrue_and (cM (ha pins s σ H _ I h) λc s1 ⟨H1,I1,q1⟩=>?_)
 cases c with
 |true=>exact hb wh pins s1 σ H1 Q I1 q1
 |false=>exact⟨H1,I1,q1⟩
theorem KQ (ha:PT X a tA)(hb:PW X (.BoolOp .Or (b :: rest) pos) tB'):PW X (.BoolOp .Or (a :: b :: rest) pos) (Nw tA tB'):=by
 intro wh pins s σ H Q I h
 refine isTrue_or (cM (ha pins s σ H _ I h) λc s1 ⟨H1,I1,q1⟩=>?_)
 cases c with
 |true=>exact⟨H1,I1,q1⟩
 |false=>exact hb wh pins s1 σ H1 Q I1 q1
def HI (ha:PT X a tA):PT X (.UnaryOp .Not a pos) (Mb tA):=by
 intro pins s σ H Q I h
 exact isTrue_not (ha pins s σ H (λc H1=>Q (!c) H1) I h)
def KY (ta tb:TE):TE:=λσ H Q=>ta σ H λx H1=>∃c,x=.bl c/\if c=true then tb σ H1 Q else Q (.bl false) H1
def LX (ta tb:TE):TE:=λσ H Q=>ta σ H λx H1=>∃c,x=.bl c/\if c=true then Q (.bl true) H1 else tb σ H1 Q
def Ky (ta:TE):TE:=λσ H Q=>ta σ H λx H1=>∃c,x=.bl c/\Q (.bl (!c)) H1
def IV {op}{t:TE}(h:PE X a t):PE X (.BoolOp op [a] pos) t:=λpins s σ H Q I hw=>BoolOp_one (h pins s σ H Q I hw)
theorem Ia (ha:PE X a ta)(hb:PE X (.BoolOp .And (b :: rest) pos) tb):PE X (.BoolOp .And (a :: b :: rest) pos) (KY ta tb):=by
 intro pins s σ H Q I h
 refine BoolOp_and (cM (ha pins s σ H _ I h) λv s1 ⟨x,H1,I1,r1,q1⟩=>?_)
 obtain⟨c,rfl,q1⟩:=q1
 cases r1
 refine Pa ?_
 cases c with
 |true=>exact hb pins s1 σ H1 Q I1 q1
 |false=>exact⟨.bl false,H1,I1,rfl,q1⟩
theorem Kv (ha:PE X a ta)(hb:PE X (.BoolOp .Or (b :: rest) pos) tb):PE X (.BoolOp .Or (a :: b :: rest) pos) (LX ta tb):=by
 intro pins s σ H Q I h
 refine BoolOp_or (cM (ha pins s σ H _ I h) λv s1 ⟨x,H1,I1,r1,q1⟩=>?_)
 obtain⟨c,rfl,q1⟩:=q1
 cases r1
 refine Pa ?_
 cases c with
 |false=>exact hb pins s1 σ H1 Q I1 q1
 |true=>exact⟨.bl true,H1,I1,rfl,q1⟩
def Ik (ha:PE X a ta):PE X (.UnaryOp .Not a pos) (Ky ta):=by
 intro pins s σ H Q I h
 refine UnaryOp_ (cM (ha pins s σ H _ I h) λv s1 ⟨x,H1,I1,r1,q1⟩=>?_)
 obtain⟨c,rfl,q1⟩:=q1
 cases r1
 exact not_of (Pa ⟨.bl (!c),H1,I1,rfl,q1⟩)
def NI (t:TT)(ta tb:TE):TE:=λσ H Q=>t σ H λc H1=>if c=true then ta σ H1 Q else tb σ H1 Q
theorem Dv {c:Expr}(hc:PT X c tA)(ha:PE X a ta)(hb:PE X b tb):PE X (.IfExp c a b pos) (NI tA ta tb):=by
 intro pins s σ H Q I h
 refine wpAny_IfExp (cM (hc pins s σ H _ I h) λd s1 ⟨H1,I1,q1⟩=>?_)
 cases d with
 |true=>exact ha pins s1 σ H1 Q I1 q1
 |false=>exact hb pins s1 σ H1 Q I1 q1
end
def gY (K:Frag)(H:Hp)(a:Addr)(xs:List V):Prop:=
 Rd H a (.lst xs)\/
  ∃(o:Obj) (its:Array Value) (n:Nat),K.lookup a=some o/\o.cls=.type "list"/\o.dict=none/\o.data=.seq its n/\its.size<=sizeLine/\Vals xs its.toList
def fV (K:Frag)(H:Hp)(a:Addr)(xs:List V):Prop:=
 Rd H a (.tup xs)\/
  ∃(o:Obj) (its:Array Value) (n:Nat),K.lookup a=some o/\o.cls=.type "tuple"/\o.data=.seq its n/\its.size<=sizeLine/\Vals xs its.toList/\o.dict=none
def Ml:Value->Option V
 | .none=>some .non
 | .bool b=>some (.bl b)
 | .int i _=>some (.int i)
 | .str x _=>some (.str x)
 | .bytes b _=>some (.byt b)
 | .float b _=>some (.flt b)
 | .ref a=>some (.ref a)
 | .type n=>some (.ty n)
 |_=>none
theorem RelV.abs {x:V}{u:Value}(r:RelV x u):Ml u=some x:=by
 cases x with
 |non=>cases r;rfl
 |bl _=>cases r;rfl
 |int _=>obtain⟨t,rfl⟩:=r;rfl
 |str _=>obtain⟨t,rfl⟩:=r;rfl
 |byt _=>obtain⟨t,rfl⟩:=r;rfl
 |flt _=>obtain⟨t,rfl⟩:=r;rfl
 |ref _=>cases r;rfl
 |ty _=>cases r;rfl
def RelV.inj {x y:V}{u:Value}(r:RelV x u)(q:RelV y u):x=y:=Option.some.inj (r.abs.symm.trans q.abs)
theorem Vals.inj:∀{xs ys:List V} {us:List Value},Vals xs us->Vals ys us->xs=ys
 |_,_,_,.nil,.nil=>rfl
 |_,_,_,.cons r t,.cons r' t'=>by rw[r.inj r',Vals.inj t t']
section
variable {X:Cx}{pins:List (Addr×Obj)}{σ:St}{H:Hp}{s:Shared}{a:Addr}{xs ys:List V}
def Inv.list (I:Inv X pins σ H s)(h:gY X.K H a xs):∃its:List Value,Vals xs its/\PlainL s.heap a its.toArray/\xs.length<=sizeLine:=by
 rcases h with h | ⟨o,its,n,hk,hc,hd,hs,hz,r⟩
 ·obtain⟨z,its,n,r,e⟩:=h.ok I.hok
  exact⟨its,r,⟨_,n,e,rfl,rfl,rfl⟩,z⟩
 ·refine⟨its.toList,r,⟨o,n,I.kIn a o hk,hc,hd,by simpa using hs⟩,?_⟩
  have e:=r.length
  simp only[Qu] at e
  omega
def Inv.tuple (I:Inv X pins σ H s)(h:fV X.K H a xs):∃its:List Value,Vals xs its/\IsTup s.heap a its.toArray/\xs.length<=sizeLine:=by
 rcases h with h | ⟨o,its,n,hk,hc,hs,hz,r,_⟩
 ·obtain⟨z,its,r,p⟩:=h.ok I.hok
  exact⟨its,r,p.isTup,z⟩
 ·refine⟨its.toList,r,⟨o,I.kIn a o hk,hc,n,by simpa using hs⟩,?_⟩
  have e:=r.length
  simp only[Qu] at e
  omega
def Inv.list_inj (I:Inv X pins σ H s)(h:gY X.K H a xs)(h':gY X.K H a ys):xs=ys:=by
 obtain⟨its,r,⟨o,n,e,_,_,d⟩,_⟩:=I.list h
 obtain⟨its',r',⟨o',n',e',_,_,d'⟩,_⟩:=I.list h'
 rw[e] at e';cases e'
 rw[d] at d'
 injection d' with d1 _
 have:its=its':=by simpa using congrArg Array.toList d1
 subst this
 exact r.inj r'
def Inv.tuple_inj (I:Inv X pins σ H s)(h:fV X.K H a xs)(h':fV X.K H a ys):xs=ys:=by
 obtain⟨its,r,⟨o,e,_,n,d⟩,_⟩:=I.tuple h
 obtain⟨its',r',⟨o',e',_,n',d'⟩,_⟩:=I.tuple h'
 rw[e] at e';cases e'
 rw[d] at d'
 injection d' with d1 _
 have:its=its':=by simpa using congrArg Array.toList d1
 subst this
 exact r.inj r'
end
abbrev Cx.wish (X:Cx)(E:Value->Shared->Prop):Cx:={X with xe:=E}
abbrev Cx.nox (X:Cx):Cx:=X.wish λ_ _=>False
def Cx.Ok.wish {X:Cx}(ok:X.Ok)(E:Value->Shared->Prop):(X.wish E).Ok:=
 ⟨ok.mod,ok.kind,ok.glob,ok.blt,ok.above,ok.inj,ok.has,ok.cab,ok.hd,ok.frames,ok.stk,ok.exf,ok.bs,ok.bsz,ok.noex,ok.exfs,ok.funs,ok.frf⟩
def Cx.Ok.unwish {X:Cx}{E:Value->Shared->Prop}(ok:(X.wish E).Ok):X.Ok:=
 ⟨ok.mod,ok.kind,ok.glob,ok.blt,ok.above,ok.inj,ok.has,ok.cab,ok.hd,ok.frames,ok.stk,ok.exf,ok.bs,ok.bsz,ok.noex,ok.exfs,ok.funs,ok.frf⟩
section
variable {X:Cx}{pins:List (Addr×Obj)}{σ:St}{H:Hp}{s:Shared}{E:Value->Shared->Prop}
def Inv.wish (I:Inv X pins σ H s)(E:Value->Shared->Prop):Inv (X.wish E) pins σ H s:=⟨I.ok.wish E,I.os,I.bare,I.base,I.loc,I.cell,I.free,I.freeC,I.pin,I.hok,I.len⟩
def Inv.unwish (I:Inv (X.wish E) pins σ H s):Inv X pins σ H s:=⟨I.ok.unwish,I.os,I.bare,I.base,I.loc,I.cell,I.free,I.freeC,I.pin,I.hok,I.len⟩
theorem SP.unwish {D:Ends}{f:Flow}{s':Shared}(h:SP (X.wish E) pins D f s'):SP X pins D f s':=by
 cases f with
 |next=>obtain⟨σ',H',I,q⟩:=h;exact⟨σ',H',I.unwish,q⟩
 |brk=>obtain⟨σ',H',I,q⟩:=h;exact⟨σ',H',I.unwish,q⟩
 |cont=>obtain⟨σ',H',I,q⟩:=h;exact⟨σ',H',I.unwish,q⟩
 |ret u=>obtain⟨v,σ',H',I,r,q⟩:=h;exact⟨v,σ',H',I.unwish,r,q⟩
def sC.nox {st:List Stmt}{t:TS}(h:sC X.nox st t):sC X st t:=λpins s σ H D I hw=>
 Px (h pins s σ H D (I.wish _) hw) (λ_ _ q=>q.unwish) λ_ _ z=>False.elim z
end
section
variable {X:Cx}{st:Stmt}{rest:List Stmt}{t u:TS}{e:Expr}{te:TE}{pos:Pos}
def KS:TS:=λD σ H=>D.nx σ H
def Mt (t u:TS):TS:=λD σ H=>t {D with nx:=u D} σ H
def z7:sC X [] KS:=λ_ _ σ H _ I h=>wpAny_execs_nil ⟨σ,H,I,h⟩
theorem iE (h1:PS X st t)(h2:sC X rest u):sC X (st :: rest) (Mt t u):=by
 intro pins s σ H D I h
 refine wpAny_execs_cons (cM (h1 pins s σ H {D with nx:=u D} I h) λf s1 q=>?_)
 cases f with
 |next=>
  obtain⟨σ',H',I',q⟩:=q
  exact h2 pins s1 σ' H' D I' q
 |ret v=>exact q
 |brk=>exact q
 |cont=>exact q
theorem jg (h1:PS X st t):sC X [st] t:=by
 intro pins s σ H D I h
 refine wpAny_execs_cons (cM (h1 pins s σ H D I h) λf s1 q=>?_)
 cases f with
 |next=>exact wpAny_execs_nil q
 |ret v=>exact q
 |brk=>exact q
 |cont=>exact q
def Inv.quiet {pins:List (Addr×Obj)}{σ:St}{H:Hp}{s:Shared}(I:Inv X pins σ H s):interactive X.env=false:=by simp[interactive,I.ok.kind]
def JY (te:TE):TS:=λD σ H=>te σ H λ_ H1=>D.nx σ H1
def pC (he:PE X e te)(hs:swapsWith e none pos.line X.env=pure false:=by rfl):PS X (.Expr e pos) (JY te):=by
 intro pins s σ H D I h
 exact wpAny_Expr_any (cM (he pins s σ H _ I h) λv s1 ⟨x,H1,I1,r1,q1⟩=>⟨σ,H1,I1,q1⟩) I.quiet hs
def Mq (te:TE):TS:=λD σ H=>te σ H D.rt
def oC (he:PE X e te):PS X (.Return (some e) pos) (Mq te):=by
 intro pins s σ H D I h
 exact wpAny_Return_some (cM (he pins s σ H _ I h) λv s1 ⟨x,H1,I1,r1,q1⟩=>⟨x,σ,H1,I1,r1,q1⟩)
def MK (c:TT)(t u:TS):TS:=λD σ H=>c σ H λb H1=>if b=true then t D σ H1 else u D σ H1
theorem Hg {c:Expr}{a b:List Stmt}{tc:TT}(hc:PT X c tc)(ha:sC X a t)(hb:sC X b u):PS X (.If c a b pos) (MK tc t u):=by
 intro pins s σ H D I h
 refine wpAny_If (cM (hc pins s σ H _ I h) λd s1 ⟨H1,I1,q1⟩=>?_)
 cases d with
 |true=>exact ha pins s1 σ H1 D I1 q1
 |false=>exact hb pins s1 σ H1 D I1 q1
end
abbrev TG:=V->St->Hp->(St->Hp->Prop)->Prop
abbrev IF:=List V->St->Hp->(St->Hp->Prop)->Prop
def PG (X:Cx)(target:Expr)(t:TG):Prop:=
 ∀(pins:List (Addr×Obj)) (s:Shared) (σ:St) (H:Hp) (v:V) (u:Value) (Q:St->Hp->Prop),Inv X pins σ H s->RelV v u->t v σ H Q->
  wpAny (model X.prog X.w) X.A (assign target X.env u) (λ_ s'=>∃σ' H',Inv X pins σ' H' s'/\Q σ' H') X.xe s
def Lz (X:Cx)(ts:List Expr)(t:IF):Prop:=
 ∀(pins:List (Addr×Obj)) (s:Shared) (σ:St) (H:Hp) (vs:List V) (us:List Value) (Q:St->Hp->Prop),Inv X pins σ H s->Vals vs us->t vs σ H Q->
  wpAny (model X.prog X.w) X.A (assignInOrder ((assignEach ts X.env).map (·.2)) us) (λ_ s'=>∃σ' H',Inv X pins σ' H' s'/\Q σ' H') X.xe s
abbrev HJ:=V->V->V->Hp->(Hp->Prop)->Prop
def tI (X:Cx)(t:HJ):Prop:=
 ∀(pins:List (Addr×Obj)) (s:Shared) (σ:St) (H:Hp) (o i v:V) (ov iv u:Value) (Q:Hp->Prop),Inv X pins σ H s->RelV o ov->RelV i iv->RelV v u->t o i v H Q->
  wpAny (model X.prog X.w) X.A (setItem ov iv u) (λ_ s'=>∃H',Inv X pins σ H' s'/\Q H') X.xe s
section
variable {X:Cx}{pos:Pos}
def mE (i:Nat):TG:=λv σ H Q=>Q (σ.set i (some v)) H
def di {i:Nat}{x:Str}(hN:X.N.Nodup)(hi:X.N[i]? =some x)(hx:Loc X.env.scope x)(hf:X.fn x=true\/X.env.scope.names.lookup x=some .local:=by first |exact .inl rfl |exact .inr rfl |assumption):PG X (.Name x pos) (mE i):=by
 intro pins s σ H v u Q I r h
 exact wpAny_assign_Name (wo I hN hi hx r (λs' I'=>⟨_,H,I',h⟩) hf)
def Gi:IF:=λvs σ H Q=>vs= []/\Q σ H
def qK (t:TG)(u:IF):IF:=λvs σ H Q=>∃v r,vs=v :: r/\t v σ H λσ' H'=>u r σ' H' Q
def nS:Lz X [] Gi:=by
 intro pins s σ H vs us Q I r h
 obtain⟨e,h⟩:=h
 subst e
 cases r
 exact assignInOrder_nil ⟨σ,H,I,h⟩
theorem dR {e:Expr}{es:List Expr}{t:TG}{u:IF}(h1:PG X e t)(h2:Lz X es u)
  (hs:(assignEach (e :: es) X.env).map (·.2)=assign e X.env :: (assignEach es X.env).map (·.2):=by rfl):Lz X (e :: es) (qK t u):=by
 intro pins s σ H vs us Q I r h
 obtain⟨v,vr,e1,h⟩:=h
 subst e1
 cases r with
 |cons r rr=>
  rw[hs]
  refine assignInOrder_cons (cM (h1 pins s σ H _ _ _ I r h) λ_ s1 ⟨σ1,H1,I1,q1⟩=>?_)
  exact h2 pins s1 σ1 H1 _ _ Q I1 rr q1
def FA (K:Frag)(n:Nat)(t:IF):TG:=λv σ H Q=>∃a xs,v=.ref a/\fV K H a xs/\xs.length=n/\t xs σ H Q
def p7 {es:List Expr}{k:Nat}{t:IF}{n:Nat}(hc:X.calm=true)(h:Lz X es t)
  (hn:(assignEach es X.env).length=n:=by rfl) (hst:(assignEach es X.env).findIdx? (·.1)=none:=by rfl):PG X (.Tuple es k pos) (FA X.K n t):=by
 intro pins s σ H v u Q I r hw
 obtain⟨a,xs,e1,hq,hl,hw⟩:=hw
 subst e1
 cases r
 obtain⟨its,rv,ht,hz⟩:=I.tuple hq
 refine assign_Tuple_tuple (I.ok.hd hc) ht (by simp[hn,<-hl,rv.length]) hst λh' hx=>?_
 have I1:Inv X pins σ H {s with heap:=h'}:=I.kept (t':=s.toks) λb o e=>hx b o (Oz (N1 e)) e
 exact h pins _ σ H xs _ Q I1 (by simpa using rv) hw
def ME (to ti:TE)(t:HJ):TG:=λv σ H Q=>to σ H λo H1=>ti σ H1 λi H2=>t o i v H2 λH3=>Q σ H3
def u7 {o i:Expr}{to ti:TE}{t:HJ}(ho:PE X o to)(hi:PE X i ti)(hs:tI X t)
  (ha:∀v,assign (.Subscript o i pos) X.env v=(do
   let ov <-holding [v] (eval o X.env)
   let iv <-holding [v,ov] (eval i X.env)
   standAt pos
   holding [v,ov,iv] (setItem ov iv v)
   release [v,ov,iv] []):=by intro _;rfl):PG X (.Subscript o i pos) (ME to ti t):=by
 intro pins s σ H v u Q I r h
 rw[ha]
 refine NL (Py (cM (ho pins s σ H _ I h) λov s1 ⟨x,H1,I1,r1,q1⟩=>?_))
 refine NL (Py (cM (hi pins s1 σ H1 _ I1 q1) λiv s2 ⟨y,H2,I2,r2,q2⟩=>?_))
 refine NL (wpAny_standAt (NL (Py (cM (hs pins s2 σ H2 x y v ov iv u _ I2 r1 r2 r q2) λ_ s3 ⟨H3,I3,q3⟩=>?_))))
 exact wpAny_release ⟨σ,H3,I3,q3⟩
def Km (te:TE)(g:TG):TS:=λD σ H=>te σ H λx H1=>g x σ H1 D.nx
def n9 {tg e:Expr}{te:TE}{g:TG}(he:PE X e te)(hg:PG X tg g)(hs:swapsWithSole [tg] e pos.line X.env=pure false:=by rfl)(hw:swappedStores [tg] e X.env=pure none:=by rfl)
  (h1:(assignEach [tg] X.env).map (·.2)= [assign tg X.env]:=by rfl):PS X (.Assign [tg] e pos) (Km te g):=by
 intro pins s σ H D I h
 refine wpAny_Assign_stores (cM (he pins s σ H _ I h) λv s1 ⟨x,H1,I1,r1,q1⟩=>?_) hs hw
 rw[h1]
 exact cM (hg pins s1 σ H1 x v _ I1 r1 q1) λ_ s2 q=>q
def rf {i:Nat}{x:Str}{e:Expr}{te:TE}{pos':Pos}(hN:X.N.Nodup)(hi:X.N[i]? =some x)(hx:Loc X.env.scope x)(he:PE X e te)(hs:swapsWith e (some (.Name x pos')) pos.line X.env=pure false:=by rfl)(hf:X.fn x=true\/X.env.scope.names.lookup x=some .local:=by first |exact .inl rfl |exact .inr rfl |assumption) :
  PS X (.Assign [.Name x pos'] e pos) (Km te (mE i)):=by
 intro pins s σ H D I h
 refine wpAny_Assign_Name (cM (he pins s σ H _ I h) λv s1 ⟨y,H1,I1,r1,q1⟩=>?_) hs
 exact wo I1 hN hi hx r1 (λs2 I2=>⟨_,H1,I2,q1⟩) hf
end
section
variable {X:Cx}{pos:Pos}
def JF (c:TT)(tb:TS):TS:=λD σ H=>∃W:Nat->St->Hp->Prop,(∃m,W m σ H)/\∀m σ H,W m σ H->
 c σ H λb H1=>if b=true then ∃N:St->Hp->Prop,(∀σ' H',N σ' H'->∃m',m' < m/\W m' σ' H')/\tb {D with nx:=N,ct:=N,bk:=D.nx} σ H1 else D.nx σ H1
theorem Cb {c:Expr}{body:List Stmt}{tc:TT}{tb:TS}(hp:PassesOwn (model X.prog X.w) X.A X.env X.xe)(hc:PT X c tc)(hb:sC X body tb):PS X (.While c body [] pos) (JF tc tb):=by
 intro pins s σ H D I h
 obtain⟨W,⟨m0,w0⟩,turn⟩:=h
 refine wpAny_While (codeAny_whileLoop (λn s'=>∃σ' H',Inv X pins σ' H' s'/\W n σ' H') ?_ m0 ⟨σ,H,I,w0⟩)
 rintro n s1 ⟨σ1,H1,I1,w1⟩
 refine PU hp (cM (hc pins s1 σ1 H1 _ I1 (turn n σ1 H1 w1)) λb s2 ⟨H2,I2,q2⟩=>?_)
 cases b with
 |true=>
  obtain⟨N,hN,q2⟩:=q2
  rw[NN rfl]
  refine PU hp (cM (hb pins s2 σ1 H2 _ I2 q2) λf s3 q3=>?_)
  cases f with
  |next=>
   obtain⟨σ3,H3,I3,n3⟩:=q3
   obtain⟨m',hm,w3⟩:=hN σ3 H3 n3
   exact⟨m',hm,σ3,H3,I3,w3⟩
  |cont=>
   obtain⟨σ3,H3,I3,n3⟩:=q3
   obtain⟨m',hm,w3⟩:=hN σ3 H3 n3
   exact⟨m',hm,σ3,H3,I3,w3⟩
  |brk=>exact q3
  |ret v=>exact q3
 |false=>
  rw[NV Og]
  exact wpAny_execs_nil ⟨σ1,H2,I2,q2⟩
end
structure It where
 go:Nat->Hp->Prop
 yld:Nat->Hp->V->Hp->Prop
 stop:Nat->Hp->Prop
def oz (X:Cx)(pins:List (Addr×Obj))(H:Hp)(b:Addr):Prop:=
 H b=none/\b≠X.env.locals/\b∉X.fs/\(b∈X.ex\/X.s₀.heap.objs.size<=b)/\(∀x c,X.env.cells.lookup x=some c->c≠b)/\∀p∈X.pn ++ pins,p.1≠b
def Inv.fpOk {X:Cx}{pins:List (Addr×Obj)}{σ:St}{H H':Hp}{s:Shared}{b:Addr}(I:Inv X pins σ H s)(hb:s.heap.objs.size<=b)(hn:H' b=none):oz X pins H' b:=by
 refine⟨hn,Nat.ne_of_gt (Oi I.lt hb),I.nofs hb,.inr (OU I.sz hb),λx c e z=>?_,λp hp z=>?_⟩
 ·obtain⟨v,q⟩:=I.cell x c e
  exact absurd (Oi q.lt (by rw[z];exact hb)) (OA _)
 ·exact absurd (Oi (N1 (I.pin p hp).1) (by rw[z];exact hb)) (OA _)
structure Turn (P:Program)(w:World)(K:Frag)(tg:Expr)(J:It)(fp:List Addr)(it:Addr)(tn:Nat->Heap->Prop):Prop where
 mem:it∈fp
 obj:∀i h,tn i h->∀b∈fp,∃o,h.get? b=some o/\∀v,o.data≠.cell v
 keep:∀i h h',tn i h->(∀b∈fp,∀o,h.get? b=some o->h'.get? b=some o)->tn i h'
 item:∀(X:Cx),X.prog=P->X.w=w->X.K=K->X.calm=true->∀(i:Nat) (pins:List (Addr×Obj)) (s:Shared) (σ:St) (H:Hp) (E:Value->Shared->Prop),Inv X pins σ H s->(∀b∈fp,oz X pins H b)->tn i s.heap->J.go i H->
  wpAny (model P w) X.A (pyNext (.ref it)) (λr s1=>∃u,r=some u/\
   wpAny (model P w) X.A (letOwnedTupleGo tg (.ref it) u) (λ_ s2=>∃x H',Inv X pins σ H' s2/\RelV x u/\J.yld i H x H'/\tn (i + 1) s2.heap/\∀b∈fp,H' b=none) E s1) E s
 done:∀(X:Cx),X.prog=P->X.w=w->X.K=K->X.calm=true->∀(i:Nat) (pins:List (Addr×Obj)) (s:Shared) (σ:St) (H:Hp) (E:Value->Shared->Prop),Inv X pins σ H s->(∀b∈fp,oz X pins H b)->tn i s.heap->J.stop i H->
  wpAny (model P w) X.A (pyNext (.ref it)) (λr s1=>r=none/\Inv X pins σ H s1) E s
 self:∀(A:Around) (i:Nat) (s:Shared) (Q:Value->Shared->Prop) (E:Value->Shared->Prop),tn i s.heap->Q (.ref it) s->wpAny (model P w) A (pyIter (.ref it)) Q E s
abbrev TI:=St->Hp->(It->Hp->Prop)->Prop
def Me (X:Cx)(pins:List (Addr×Obj))(σ:St)(tg:Expr)(R:It->Hp->Prop)(itv:Value)(s2:Shared):Prop:=
 ∃(it:Addr) (fp:List Addr) (tn:Nat->Heap->Prop) (J:It) (H':Hp),itv=.ref it/\Inv X pins σ H' s2/\Turn X.prog X.w X.K tg J fp it tn/\tn 0 s2.heap/\(∀b∈fp,oz X pins H' b)/\R J H'
def PI (X:Cx)(tg iter:Expr)(wi:TI):Prop:=
 ∀(pins:List (Addr×Obj)) (s:Shared) (σ:St) (H:Hp) (R:It->Hp->Prop),Inv X pins σ H s->wi σ H R->
  wpAny (model X.prog X.w) X.A (eval iter X.env) (λv s1=>wpAny (model X.prog X.w) X.A (pyIter v) (Me X pins σ tg R) X.xe s1) X.xe s
def zY {M:Model}{A:Around}{E:Value->Shared->Prop}{s:Shared}{tg:Expr}{it:Addr}{u:Value}{o:Obj}{n:String}{vs:Array Value}{Q:Unit->Shared->Prop}(ho:s.heap.get? it=some o)(hc:o.cls=.type n)(hd:o.data=.fields vs)
  (hn: ["enumerate","zip","dict_itemiterator","dict_reverseitemiterator","odict_iterator","itertools.zip_longest","itertools.pairwise"].contains n=false) (hQ:Q () s):wpAny M A (letOwnedTupleGo tg (.ref it) u) Q E s:=by
 unfold letOwnedTupleGo
 cases tg <;> first
  |exact NU hQ
  | (cases u <;> first
    |exact NU hQ
    | (refine NL (wpAny_load ho ?_)
       rw[hc,hd]
       show wpAny M A (if (["enumerate","zip","dict_itemiterator","dict_reverseitemiterator","odict_iterator","itertools.zip_longest","itertools.pairwise"].contains n && vs[0]? == some (rawInt _))=true then _ else _) Q E s
       rw[NV (by intro h;rw[hn,Bool.false_and] at h;cases h)]
       exact NU hQ))
def BA (K:Frag)(a:Addr):It:=
 ⟨λi H=>∃xs x,gY K H a xs/\xs[i]? =some x,λi H x H'=>H'=H/\∀xs,gY K H a xs->xs[i]? =some x,λi H=>∃xs,gY K H a xs/\xs.length<=i⟩
def Hl (K:Frag)(a:Addr):It:=
 ⟨λi H=>∃xs x,fV K H a xs/\xs[i]? =some x,λi H x H'=>H'=H/\∀xs,fV K H a xs->xs[i]? =some x,λi H=>∃xs,fV K H a xs/\xs.length<=i⟩
def BF (lo:Int)(n:Nat):It:=⟨λi _=>i < n,λi H x H'=>H'=H/\x=.int (lo + i),λi _=>n<=i⟩
def oJ {P:Program}{w:World}{K:Frag}{tg:Expr}(a it:Addr):Turn P w K tg (BA K a) [it] it (λi h=>h.IsListIter it a i) where
 mem:=by simp
 obj:=λi h st b hb=>by
  have e:b=it:=by simpa using hb
  subst e
  obtain⟨o,e,c,d⟩:=st
  exact⟨o,e,λv z=>by rw[d] at z;cases z⟩
 keep:=λi h h' st k=>st.at λo e=>k it (by simp) o e
 item:=by
  intro X hP hw hK hc i pins s σ H E I hf st hg
  subst hP hw hK
  obtain⟨xs,x,hq,hx⟩:=hg
  obtain⟨its,rv,p,hz⟩:=I.list hq
  obtain⟨u,hu,ru⟩:=rv.get hx
  obtain⟨f0,f1,f2,f3,f4,f5⟩:=hf it (by simp)
  refine wpAny_pyNext_list_item st p.isList (x:=u) (by simpa using hu) λh' st' sb=>?_
  have I1:Inv X pins σ H {s with heap:=h'}:=I.turned (t':=s.toks) (λb o hb e=>(sb.2 b hb).trans e) f0 f1 f3 f4 f5
  obtain⟨o,e,c,d⟩:=id st'
  exact⟨u,rfl,zY (s:={s with heap:=h'}) e c d (by decide) ⟨x,H,I1,ru,⟨rfl,λys hy=>by rw[I.list_inj hy hq];exact hx⟩,st',λb hb=>(hf b hb).1⟩⟩
 done:=by
  intro X hP hw hK hc i pins s σ H E I hf st hg
  subst hP hw hK
  obtain⟨xs,hq,hx⟩:=hg
  obtain⟨its,rv,p,hz⟩:=I.list hq
  obtain⟨f0,f1,f2,f3,f4,f5⟩:=hf it (by simp)
  have hl:=rv.length
  exact wpAny_pyNext_list_end (I.ok.hd hc) st p.isList (by simp;omega) λh' eb=>⟨rfl,I.turned (t':=s.toks) (λb o hb e=>eb b o hb e) f0 f1 f3 f4 f5⟩
 self:=λ_ _ _ _ _ st h=>wpAny_pyIter_listiter st h
def qF {P:Program}{w:World}{K:Frag}{tg:Expr}(a it:Addr):Turn P w K tg (Hl K a) [it] it (λi h=>h.IsTupleIter it a i) where
 mem:=by simp
 obj:=λi h st b hb=>by
  have e:b=it:=by simpa using hb
  subst e
  obtain⟨o,e,c,d⟩:=st
  exact⟨o,e,λv z=>by rw[d] at z;cases z⟩
 keep:=λi h h' st k=>st.at λo e=>k it (by simp) o e
 item:=by
  intro X hP hw hK hc i pins s σ H E I hf st hg
  subst hP hw hK
  obtain⟨xs,x,hq,hx⟩:=hg
  obtain⟨its,rv,p,hz⟩:=I.tuple hq
  obtain⟨u,hu,ru⟩:=rv.get hx
  obtain⟨f0,f1,f2,f3,f4,f5⟩:=hf it (by simp)
  refine wpAny_pyNext_tuple_item st (show s.heap.IsTuple a its.toArray from p) (x:=u) (by simpa using hu) λh' st' sb=>?_
  have I1:Inv X pins σ H {s with heap:=h'}:=I.turned (t':=s.toks) (λb o hb e=>(sb.2 b hb).trans e) f0 f1 f3 f4 f5
  obtain⟨o,e,c,d⟩:=id st'
  exact⟨u,rfl,zY (s:={s with heap:=h'}) e c d (by decide) ⟨x,H,I1,ru,⟨rfl,λys hy=>by rw[I.tuple_inj hy hq];exact hx⟩,st',λb hb=>(hf b hb).1⟩⟩
 done:=by
  intro X hP hw hK hc i pins s σ H E I hf st hg
  subst hP hw hK
  obtain⟨xs,hq,hx⟩:=hg
  obtain⟨its,rv,p,hz⟩:=I.tuple hq
  obtain⟨f0,f1,f2,f3,f4,f5⟩:=hf it (by simp)
  have hl:=rv.length
  exact wpAny_pyNext_tuple_end (I.ok.hd hc) st (show s.heap.IsTuple a its.toArray from p) (by simp;omega) λh' eb=>⟨rfl,I.turned (t':=s.toks) (λb o hb e=>eb b o hb e) f0 f1 f3 f4 f5⟩
 self:=λ_ _ _ _ _ st h=>wpAny_pyIter_tupleiter st h
def yN {P:Program}{w:World}{K:Frag}{tg:Expr}(it:Addr)(lo:Int)(n:Nat):Turn P w K tg (BF lo n) [it] it (λi h=>IsRangeIter h it (lo + (i:Nat) * 1) ((n:Int) - (i:Nat)) 1) where
 mem:=by simp
 obj:=λi h st b hb=>by
  have e:b=it:=by simpa using hb
  subst e
  exact⟨_,st,λv z=>by
   have z':Data.fields _=Data.cell v:=z
   cases z'⟩
 keep:=λi h h' st k=>k it (by simp) _ st
 item:=by
  intro X hP hw hK hc i pins s σ H E I hf st hg
  subst hP hw hK
  obtain⟨f0,f1,f2,f3,f4,f5⟩:=hf it (by simp)
  have W:=Walks.range (prog:=X.prog) (w:=X.w) (I.ok.hd hc) it lo 1 n
  refine W.item i s _ _ hg st λv h' tk hv st' kk=>?_
  obtain⟨t,rfl⟩:=hv
  have I1:Inv X pins σ H {s with heap:=h',toks:=tk}:=I.turned (λb o hb e=>kk b o (by simpa using hb) e) f0 f1 f3 f4 f5
  refine⟨_,rfl,zY (s:={s with heap:=h',toks:=tk}) (n:="range_iterator") st' rfl rfl (by decide) ⟨.int (lo + i),H,I1,⟨t,?_⟩,⟨rfl,rfl⟩,st',λb hb=>(hf b hb).1⟩⟩
  rw[Int.mul_one]
 done:=by
  intro X hP hw hK hc i pins s σ H E I hf st hg
  subst hP hw hK
  obtain⟨f0,f1,f2,f3,f4,f5⟩:=hf it (by simp)
  exact wpAny_pyNext_range_end (I.ok.hd hc) st (by have:n<=i:=hg;omega) λh' eb=>⟨rfl,I.turned (t':=s.toks) (λb o hb e=>eb b o hb e) f0 f1 f3 f4 f5⟩
 self:=λ_ _ _ _ _ st h=>wpAny_pyIter_rangeiter st h
section
variable {X:Cx}{tg:Expr}
def Kb (K:Frag)(tl:TE):TI:=λσ H R=>tl σ H λx H1=>∃a,x=.ref a/\(∃xs,gY K H1 a xs)/\R (BA K a) H1
def zN {l:Expr}{tl:TE}(hl:PE X l tl):PI X tg l (Kb X.K tl):=by
 intro pins s σ H R I h
 refine cM (hl pins s σ H _ I h) λv s1 ⟨x,H1,I1,r1,q1⟩=>?_
 obtain⟨a,e,⟨xs,hq⟩,q⟩:=q1
 subst e
 cases r1
 obtain⟨its,rv,p,hz⟩:=I1.list hq
 refine Qm p.isList ?_
 refine⟨s1.heap.objs.size,[s1.heap.objs.size],_,_,H1,rfl,I1.kept (t':=s1.toks) λb o e=>NM _ e,oJ a _,⟨_,N3 _ rfl,rfl,rfl⟩,λb hb=>?_,q⟩
 have e:b=s1.heap.objs.size:=by simpa using hb
 subst e
 exact I1.fpOk (NQ _) (I1.hok.fresh (NQ _))
def wR {pins:List (Addr×Obj)}{σ:St}{H:Hp}{s:Shared}{R:It->Hp->Prop}{E:Value->Shared->Prop}{lo hi:Int}{t u v:Tok}{tk:Nat}(I:Inv X pins σ H s)(h1: -(2 ^ 62)<=lo)(h2:lo < 2 ^ 62)(h3: -(2 ^ 62)<=hi)(h4:hi < 2 ^ 62)
  (q:R (BF lo (hi - lo).toNat) H):wpAny (model X.prog X.w) X.A (pyIter (.ref s.heap.objs.size)) (Me X pins σ tg R) E {s with heap:=s.heap.push {cls:=.type "range",data:=.fields #[.int lo t,.int hi u,.int 1 v]},toks:=tk}:=by
 refine wpAny_pyIter_range (IsRange.new ..) (small_one h1 h2 h3 h4) ?_
 have I1:Inv X pins σ H {s with heap:=s.heap.push {cls:=.type "range",data:=.fields #[.int lo t,.int hi u,.int 1 v]},toks:=tk}:=I.kept λb o e=>NM _ e
 refine⟨(s.heap.push {cls:=.type "range",data:=.fields #[.int lo t,.int hi u,.int 1 v]}).objs.size,[(s.heap.push {cls:=.type "range",data:=.fields #[.int lo t,.int hi u,.int 1 v]}).objs.size],_,_,H,rfl,
  I1.kept (t':=tk) λb o e=>NM _ e,yN _ lo (hi - lo).toNat,?_,λb hb=>?_,q⟩
 ·have e1:lo + ((0:Nat):Int) * 1=lo:=by simp
  have e2:(((hi - lo).toNat:Nat):Int) - ((0:Nat):Int)=Builtin.Range.rangeSize lo hi 1:=by rw[rangeSize_one];split <;> omega
  show IsRangeIter _ _ (lo + ((0:Nat):Int) * 1) ((((hi - lo).toNat:Nat):Int) - ((0:Nat):Int)) 1
  rw[e1,e2]
  exact N3 _ rfl
 ·have e:b=(s.heap.push {cls:=.type "range",data:=.fields #[.int lo t,.int hi u,.int 1 v]}).objs.size:=by simpa using hb
  subst e
  exact I1.fpOk (NQ _) (I1.hok.fresh (NQ _))
def Lq (ta:TA):TI:=λσ H R=>ta σ H λvs H1=>∃j:Int,vs= [.int j]/\ -(2 ^ 62)<=j/\j < 2 ^ 62/\R (BF 0 j.toNat) H1
def Lr (ta:TA):TI:=λσ H R=>ta σ H λvs H1=>∃i j:Int,vs= [.int i,.int j]/\(-(2 ^ 62)<=i/\i < 2 ^ 62/\ -(2 ^ 62)<=j/\j < 2 ^ 62)/\R (BF i (j - i).toNat) H1
theorem l7 {a:Expr}{ta:TA}{p pos:Pos}(hg:Gl X "range")(hm:X.mg "range"=none)(ha:PA X [a] ta)(hs:starEach [a] X.env= [(false,eval a X.env)]:=by rfl):PI X tg (.Call (.Name "range" p) [a] [] pos) (Lq ta):=by
 intro pins s σ H R I h
 refine Call_ (lj I hg hm boot_range (O6 (cM (ha pos pins s σ H _ I h) λus s1 ⟨vs,H1,I1,r1,q1⟩=>?_) hs rfl))
 obtain⟨j,e,q1,q2,q⟩:=q1
 subst e
 cases r1 with
 |cons r rr=>
  cases rr
  obtain⟨t,rfl⟩:=r
  exact call_range_1 (wR I1 (by omega) (by omega) q1 q2 (by simpa using q))
theorem AA {a b:Expr}{ta:TA}{p pos:Pos}(hg:Gl X "range")(hm:X.mg "range"=none)(ha:PA X [a,b] ta)(hs:starEach [a,b] X.env= [(false,eval a X.env),(false,eval b X.env)]:=by rfl)(hs2:starEach [b] X.env= [(false,eval b X.env)]:=by rfl) :
  PI X tg (.Call (.Name "range" p) [a,b] [] pos) (Lr ta):=by
 intro pins s σ H R I h
 refine Call_ (lj I hg hm boot_range (O6 (cM (ha pos pins s σ H _ I h) λus s1 ⟨vs,H1,I1,r1,q1⟩=>?_) (by rw[hs,hs2]) (by rw[hs2];rfl)))
 obtain⟨i,j,e,⟨q1,q2,q3,q4⟩,q⟩:=q1
 subst e
 cases r1 with
 |cons r rr=>
  cases rr with
  |cons r' rr=>
   cases rr
   obtain⟨t,rfl⟩:=r
   obtain⟨t',rfl⟩:=r'
   exact call_range_2 (wR I1 q1 q2 q3 q4 q)
def Mo (wi:TI)(g:TG)(tb:TS):TS:=λD σ H=>wi σ H λJ H1=>∃W:Nat->Nat->St->Hp->Prop,(∃m,W 0 m σ H1)/\∀i m σ H,W i m σ H->
 (J.stop i H/\D.nx σ H)\/(J.go i H/\∃N:St->Hp->Prop,(∀σ' H',N σ' H'->∃m',m' < m/\W (i + 1) m' σ' H')/\∀x H',J.yld i H x H'->g x σ H' λσ2 H2=>tb {D with nx:=N,ct:=N,bk:=D.nx} σ2 H2)
def qc (fp:List Addr)(h:Heap):List (Addr×Obj):=fp.filterMap λb=>(h.get? b).map λo=>(b,o)
def ku {fp:List Addr}{h:Heap}{b:Addr}{o:Obj}(hb:b∈fp)(e:h.get? b=some o):(b,o)∈qc fp h:=Pz.mpr ⟨b,hb,by rw[e];rfl⟩
theorem BB {fp:List Addr}{h:Heap}{p:Addr×Obj}(hp:p∈qc fp h):p.1∈fp/\h.get? p.1=some p.2:=by
 obtain⟨b,hb,e⟩:=Pz.mp hp
 cases q:h.get? b with
 |none=>rw[q] at e;cases e
 |some o=>
  rw[q] at e
  have e':(b,o)=p:=Option.some.inj e
  subst e'
  exact⟨hb,q⟩
def Inv.pinned {pins:List (Addr×Obj)}{σ:St}{H:Hp}{s:Shared}{fp:List Addr}(I:Inv X pins σ H s)(hf:∀b∈fp,oz X pins H b)(ho:∀b∈fp,∃o,s.heap.get? b=some o/\∀v,o.data≠.cell v):Inv X (pins ++ qc fp s.heap) σ H s:=
 I.pins_of λp hp=>(Ob.mp hp).elim (λz=>I.pin p (Ow _ z)) λz=>by
  obtain⟨hb,e⟩:=BB z
  obtain⟨f0,f1,f2,_⟩:=hf p.1 hb
  obtain⟨o,e',d⟩:=ho p.1 hb
  rw[e] at e';cases e'
  exact⟨e,f0,f1,f2,d⟩
def Inv.unpinned {pins pl:List (Addr×Obj)}{σ:St}{H:Hp}{s:Shared}(I:Inv X (pins ++ pl) σ H s):Inv X pins σ H s:=I.pins_of λp hp=>I.pin p (Ow _ (OV _ hp))
def uU {iter:Expr}{body:List Stmt}{wi:TI}{g:TG}{tb:TS}{pos:Pos}(hp:PassesOwn (model X.prog X.w) X.A X.env X.xe)(hc:X.calm=true)(hi:PI X tg iter wi)(hg:PG X tg g)(hb:sC X body tb)
  (hs:∀x,foldedSetIterable iter X.env x=pure x:=by intro _;rfl):PS X (.For tg iter body [] pos) (Mo wi g tb):=by
 intro pins s σ H D I h
 refine wpAny_For (cM (hi pins s σ H _ I h) λv s1 h1=>cM h1 λitv s2 h2=>?_) hs
 obtain⟨it,fp,tn,J,H2,e,I2,T,st2,f2,W,⟨m0,w0⟩,turn⟩:=h2
 subst e
 have stat:∀{H':Hp},(∀b∈fp,H' b=none)->∀b∈fp,oz X pins H' b:=λhn b hb=>⟨hn b hb,(f2 b hb).2⟩
 refine codeAny_forLoop_any (λn s'=>∃i σ' H',Inv X pins σ' H' s'/\tn i s'.heap/\(∀b∈fp,H' b=none)/\W i n σ' H') ?_ m0 ⟨0,σ,H2,I2,st2,λb hb=>(f2 b hb).1,w0⟩
 rintro n s3 ⟨i,σ3,H3,I3,st3,fr3,w3⟩
 rcases turn i n σ3 H3 w3 with⟨stop,qn⟩ | ⟨go,N,hN,step⟩
 ·refine PU hp (cM (T.done X rfl rfl rfl hc i pins s3 σ3 H3 X.xe I3 (stat fr3) st3 stop) λr s4 ⟨hr,I4⟩=>?_)
  subst hr
  exact wpAny_execs_nil ⟨σ3,H3,I4,qn⟩
 ·refine PU hp (cM (T.item X rfl rfl rfl hc i pins s3 σ3 H3 X.xe I3 (stat fr3) st3 go) λr s4 ⟨u,hr,h4⟩=>?_)
  subst hr
  refine PU hp (cM h4 λ_ s5 ⟨x,H5,I5,r5,y5,st5,fr5⟩=>?_)
  have I5':=I5.pinned (stat fr5) (T.obj _ _ st5)
  refine PU hp (cM (hg _ s5 σ3 H5 x u _ I5' r5 (step x H5 y5)) λ_ s6 ⟨σ6,H6,I6,q6⟩=>?_)
  refine PU hp (cM (hb _ s6 σ6 H6 _ I6 q6) λf s7 q7=>?_)
  have again:∀{σ7:St} {H7:Hp},Inv X (pins ++ qc fp s5.heap) σ7 H7 s7->N σ7 H7->∃m,m < n/\∃i σ' H',Inv X pins σ' H' s7/\tn i s7.heap/\(∀b∈fp,H' b=none)/\W i m σ' H':=λ{σ7 H7} I7 n7=>by
   obtain⟨m',hm,w7⟩:=hN σ7 H7 n7
   refine⟨m',hm,i + 1,σ7,H7,I7.unpinned,T.keep _ _ _ st5 λb hb o e=>(I7.pin (b,o) (Ow _ (Ow _ (ku hb e)))).1,λb hb=>?_,w7⟩
   obtain⟨o,e,d⟩:=T.obj _ _ st5 b hb
   exact (I7.pin (b,o) (Ow _ (Ow _ (ku hb e)))).2.1
  cases f with
  |next=>obtain⟨σ7,H7,I7,n7⟩:=q7;exact again I7 n7
  |cont=>obtain⟨σ7,H7,I7,n7⟩:=q7;exact again I7 n7
  |brk=>obtain⟨σ7,H7,I7,q7⟩:=q7;exact⟨σ7,H7,I7.unpinned,q7⟩
  |ret v=>obtain⟨x7,σ7,H7,I7,r7,q7⟩:=q7;exact⟨x7,σ7,H7,I7.unpinned,r7,q7⟩
end
def xm {K:Frag}{a:Addr}{xs:List V}{g:TG}{tb:TS}{D:Ends}{σ:St}{H:Hp}(Pv:Nat->St->Hp->Prop)(h0:Pv 0 σ H)(hl:∀i σ H,i<=xs.length->Pv i σ H->gY K H a xs)
  (hs:∀i x σ H,xs[i]? =some x->Pv i σ H->g x σ H λσ2 H2=>tb {D with nx:=Pv (i + 1),ct:=Pv (i + 1),bk:=D.nx} σ2 H2) (hd:∀σ H,Pv xs.length σ H->D.nx σ H) :
  ∃W:Nat->Nat->St->Hp->Prop,(∃m,W 0 m σ H)/\∀i m σ H,W i m σ H->
   ((BA K a).stop i H/\D.nx σ H)\/((BA K a).go i H/\∃N:St->Hp->Prop,(∀σ' H',N σ' H'->∃m',m' < m/\W (i + 1) m' σ' H')/\∀x H',(BA K a).yld i H x H'->g x σ H' λσ2 H2=>tb {D with nx:=N,ct:=N,bk:=D.nx} σ2 H2):=by
 refine⟨λi m σ H=>m=xs.length - i/\i<=xs.length/\Pv i σ H,⟨xs.length,by simp,Ov _,h0⟩,?_⟩
 rintro i m σ H ⟨rfl,hi,p⟩
 have q:=hl i σ H hi p
 by_cases hlt:i < xs.length
 ·refine .inr ⟨⟨xs,xs[i],q,by simp[hlt]⟩,Pv (i + 1),λσ' H' p'=>⟨xs.length - (i + 1),by omega,rfl,hlt,p'⟩,λx H' y=>?_⟩
  obtain⟨e,y⟩:=y
  subst e
  exact hs i x σ _ (y xs q) p
 ·have e:i=xs.length:=by omega
  subst e
  exact .inl ⟨⟨xs,q,NQ _⟩,hd σ H p⟩
def EU {K:Frag}{a:Addr}{xs:List V}{g:TG}{tb:TS}{D:Ends}{σ:St}{H:Hp}(Pv:Nat->St->Hp->Prop)(h0:Pv 0 σ H)(hl:∀i σ H,i<=xs.length->Pv i σ H->fV K H a xs)
  (hs:∀i x σ H,xs[i]? =some x->Pv i σ H->g x σ H λσ2 H2=>tb {D with nx:=Pv (i + 1),ct:=Pv (i + 1),bk:=D.nx} σ2 H2) (hd:∀σ H,Pv xs.length σ H->D.nx σ H) :
  ∃W:Nat->Nat->St->Hp->Prop,(∃m,W 0 m σ H)/\∀i m σ H,W i m σ H->
   ((Hl K a).stop i H/\D.nx σ H)\/((Hl K a).go i H/\∃N:St->Hp->Prop,(∀σ' H',N σ' H'->∃m',m' < m/\W (i + 1) m' σ' H')/\∀x H',(Hl K a).yld i H x H'->g x σ H' λσ2 H2=>tb {D with nx:=N,ct:=N,bk:=D.nx} σ2 H2):=by
 refine⟨λi m σ H=>m=xs.length - i/\i<=xs.length/\Pv i σ H,⟨xs.length,by simp,Ov _,h0⟩,?_⟩
 rintro i m σ H ⟨rfl,hi,p⟩
 have q:=hl i σ H hi p
 by_cases hlt:i < xs.length
 ·refine .inr ⟨⟨xs,xs[i],q,by simp[hlt]⟩,Pv (i + 1),λσ' H' p'=>⟨xs.length - (i + 1),by omega,rfl,hlt,p'⟩,λx H' y=>?_⟩
  obtain⟨e,y⟩:=y
  subst e
  exact hs i x σ _ (y xs q) p
 ·have e:i=xs.length:=by omega
  subst e
  exact .inl ⟨⟨xs,q,NQ _⟩,hd σ H p⟩
def Bu {lo:Int}{n:Nat}{g:TG}{tb:TS}{D:Ends}{σ:St}{H:Hp}(Pv:Nat->St->Hp->Prop)(h0:Pv 0 σ H)
  (hs:∀i σ H,i < n->Pv i σ H->g (.int (lo + i)) σ H λσ2 H2=>tb {D with nx:=Pv (i + 1),ct:=Pv (i + 1),bk:=D.nx} σ2 H2) (hd:∀σ H,Pv n σ H->D.nx σ H) :
  ∃W:Nat->Nat->St->Hp->Prop,(∃m,W 0 m σ H)/\∀i m σ H,W i m σ H->
   ((BF lo n).stop i H/\D.nx σ H)\/((BF lo n).go i H/\∃N:St->Hp->Prop,(∀σ' H',N σ' H'->∃m',m' < m/\W (i + 1) m' σ' H')/\∀x H',(BF lo n).yld i H x H'->g x σ H' λσ2 H2=>tb {D with nx:=N,ct:=N,bk:=D.nx} σ2 H2):=by
 refine⟨λi m σ H=>m=n - i/\i<=n/\Pv i σ H,⟨n,by simp,Ov _,h0⟩,?_⟩
 rintro i m σ H ⟨rfl,hi,p⟩
 by_cases hlt:i < n
 ·refine .inr ⟨hlt,Pv (i + 1),λσ' H' p'=>⟨n - (i + 1),by omega,rfl,hlt,p'⟩,λx H' y=>?_⟩
  obtain⟨e,y⟩:=y
  subst e y
  exact hs i σ _ hlt p
 ·have e:i=n:=by omega
  subst e
  exact .inl ⟨NQ _,hd σ H p⟩
abbrev R2:=V->V->Hp->VK->Prop
def mD (X:Cx)(f:Value->Value->Sem Value)(r:R2):Prop:=
 ∀(pins:List (Addr×Obj)) (s:Shared) (σ:St) (H:Hp) (x y:V) (v u:Value) (Q:VK),Inv X pins σ H s->RelV x v->RelV y u->r x y H Q->
  wpAny (model X.prog X.w) X.A (f v u) (EP X pins σ Q) X.xe s
def LM (X:Cx)(f:Value->Sem Value)(r:V->Hp->VK->Prop):Prop:=
 ∀(pins:List (Addr×Obj)) (s:Shared) (σ:St) (H:Hp) (x:V) (v:Value) (Q:VK),Inv X pins σ H s->RelV x v->r x H Q->
  wpAny (model X.prog X.w) X.A (f v) (EP X pins σ Q) X.xe s
def dm (X:Cx)(f:Value)(r:List V->Hp->VK->Prop):Prop:=
 ∀(pins:List (Addr×Obj)) (s:Shared) (σ:St) (H:Hp) (xs:List V) (us:List Value) (Q:VK),Inv X pins σ H s->Vals xs us->r xs H Q->
  wpAny (model X.prog X.w) X.A (call f us) (EP X pins σ Q) X.xe s
def L5 (X:Cx)(r:V->Hp->(Bool->Hp->Prop)->Prop):Prop:=
 ∀(pins:List (Addr×Obj)) (s:Shared) (σ:St) (H:Hp) (x:V) (v:Value) (Q:Bool->Hp->Prop),Inv X pins σ H s->RelV x v->r x H Q->
  wpAny (model X.prog X.w) X.A (truthy v) (TP X pins σ Q) X.xe s
def Lx (r:R2)(ta tb:TE):TE:=λσ H Q=>ta σ H λx H1=>tb σ H1 λy H2=>r x y H2 Q
def NA (r:V->Hp->VK->Prop)(ta:TE):TE:=λσ H Q=>ta σ H λx H1=>r x H1 Q
def rI (C:Int->Int->Prop)(g:Int->Int->V):R2:=λx y H Q=>∃i j,x=.int i/\y=.int j/\C i j/\Q (g i j) H
def tL (g:Int->Int->V):R2:=λx y H Q=>∃i j,x=.int i/\y=.int j/\Q (g i j) H
def rU (g:Int->V):V->Hp->VK->Prop:=λx H Q=>∃i,x=.int i/\Q (g i) H
section
variable {X:Cx}{a b c:Expr}{ta tb tc:TE}{pos:Pos}
def IM (ha:PE X a ta)(hb:PE X b tb){pins:List (Addr×Obj)}{s:Shared}{σ:St}{H:Hp}{R:V->V->Hp->Prop}(I:Inv X pins σ H s)
  (h:ta σ H λx H1=>tb σ H1 λy H2=>R x y H2) {Q:Value->Shared->Prop} {f:Value->Value->Sem Value}
  (hf:∀v u s2 x y H2,Inv X pins σ H2 s2->RelV x v->RelV y u->R x y H2->wpAny (model X.prog X.w) X.A (f v u) Q X.xe s2) :
  wpAny (model X.prog X.w) X.A (eval a X.env) (λv s₁=>wpAny (model X.prog X.w) X.A (eval b X.env) (λu s₂=>wpAny (model X.prog X.w) X.A (f v u) Q X.xe s₂) X.xe s₁) X.xe s:=by
 refine cM (ha pins s σ H _ I h) λv s1 ⟨x,H1,I1,r1,q1⟩=>?_
 refine cM (hb pins s1 σ H1 _ I1 q1) λu s2 ⟨y,H2,I2,r2,q2⟩=>?_
 exact hf v u s2 x y H2 I2 r1 r2 q2
def sP {op:Operator}{r:R2}(ho:mD X (binaryOp op) r)(ha:PE X a ta)(hb:PE X b tb):PE X (.BinOp a op b pos) (Lx r ta tb):=by
 intro pins s σ H Q I h
 exact wpAny_BinOp (IM ha hb I h λv u s2 x y H2 I2 rx ry q=>ho pins s2 σ H2 x y v u Q I2 rx ry q)
def Kt {op:UnaryOp}{r:V->Hp->VK->Prop}(ho:LM X (unaryOp op) r)(ha:PE X a ta):PE X (.UnaryOp op a pos) (NA r ta):=by
 intro pins s σ H Q I h
 exact UnaryOp_ (cM (ha pins s σ H _ I h) λv s1 ⟨x,H1,I1,r1,q1⟩=>ho pins s1 σ H1 x v Q I1 r1 q1)
def Lw {f:Value->Value->Sem Value}{C:Int->Int->Prop}{g:Int->Int->Int}
  (rule:∀(i j:Int) (t u:Tok) (s:Shared) (Q:Value->Shared->Prop) (E:Value->Shared->Prop),C i j->Q (.int (g i j) s.toks) {s with toks:=s.toks + 1}->wpAny (model X.prog X.w) X.A (f (.int i t) (.int j u)) Q E s) :
  mD X f (rI C λi j=>.int (g i j)):=by
 intro pins s σ H x y v u Q I rx ry h
 obtain⟨i,j,rfl,rfl,hc,q⟩:=h
 obtain⟨t,rfl⟩:=rx
 obtain⟨t',rfl⟩:=ry
 exact rule i j t t' s _ _ hc ⟨.int (g i j),H,I.tok _,⟨_,rfl⟩,q⟩
def FI {f:Value->Value->Sem Value}{g:Int->Int->Int}
  (rule:∀(i j:Int) (t u:Tok) (s:Shared) (Q:Value->Shared->Prop) (E:Value->Shared->Prop),Q (.int (g i j) s.toks) {s with toks:=s.toks + 1}->wpAny (model X.prog X.w) X.A (f (.int i t) (.int j u)) Q E s) :
  mD X f (tL λi j=>.int (g i j)):=by
 intro pins s σ H x y v u Q I rx ry h
 obtain⟨i,j,rfl,rfl,q⟩:=h
 obtain⟨t,rfl⟩:=rx
 obtain⟨t',rfl⟩:=ry
 exact rule i j t t' s _ _ ⟨.int (g i j),H,I.tok _,⟨_,rfl⟩,q⟩
def FT {f:Value->Value->Sem Value}{g:Int->Int->Bool}
  (rule:∀(i j:Int) (t u:Tok) (s:Shared) (Q:Value->Shared->Prop) (E:Value->Shared->Prop),Q (.bool (g i j)) s->wpAny (model X.prog X.w) X.A (f (.int i t) (.int j u)) Q E s) :
  mD X f (tL λi j=>.bl (g i j)):=by
 intro pins s σ H x y v u Q I rx ry h
 obtain⟨i,j,rfl,rfl,q⟩:=h
 obtain⟨t,rfl⟩:=rx
 obtain⟨t',rfl⟩:=ry
 exact rule i j t t' s _ _ ⟨.bl (g i j),H,I,rfl,q⟩
def GI (i j:Int):Prop:=0 < j/\j < 1073741824
def Hy (i j:Int):Prop:=0<=j/\j<=1000000/\i.natAbs < 2 ^ 64
def CI (i j:Int):Prop:=(-(2 ^ 64) < i/\i < 2 ^ 64)\/(-(2 ^ 64) < j/\j < 2 ^ 64)
def CI.ok {i j:Int}(h:CI i j):IntMulOk i j:=by
 rcases h with⟨h1,h2⟩ | ⟨h1,h2⟩
 ·exact .of_left (intBits_le_64 h1 h2)
 ·exact .of_right (intBits_le_64 h1 h2)
def j4:mD X (binaryOp .Add) (tL λi j=>.int (i + j)):=FI λ_ _ _ _ _ _ _ q=>add_int q
def uJ:mD X (binaryOp .Sub) (tL λi j=>.int (i - j)):=FI λ_ _ _ _ _ _ _ q=>sub_int q
def kK:mD X (binaryOp .Mult) (rI CI λi j=>.int (i * j)):=Lw λ_ _ _ _ _ _ _ hc q=>mul_int q hc.ok
def nh:mD X (binaryOp .FloorDiv) (rI GI λi j=>.int (i / j)):=Lw λi j _ _ _ _ _ hc q=>by
 have h1:(0:Int) < j:=hc.1
 have h2:j < 1073741824:=hc.2
 exact floordiv_int (by omega) (by rw[Int.fdiv_eq_ediv_of_nonneg i (by omega)];exact q) (.inl (PyProof.noPylong_small (by omega)))
def mX:mD X (binaryOp .Mod) (rI (λ_ j=>0 < j) λi j=>.int (i % j)):=Lw λi j _ _ _ _ _ hc q=>by
 have h1:(0:Int) < j:=hc
 exact mod_int' (by omega) (by rw[Int.fmod_eq_emod_of_nonneg i (by omega)];exact q)
def Dg:mD X (binaryOp .LShift) (rI Hy λi j=>.int (i * 2 ^ j.toNat)):=Lw λ_ _ _ _ _ _ _ hc q=>lshift_int_small hc.1 hc.2.1 hc.2.2 q
def Hw:mD X (binaryOp .BitAnd) (tL λi j=>.int (Builtin.bitAnd i j)):=FI λ_ _ _ _ _ _ _ q=>and_int q
def Ha:mD X (binaryOp .BitOr) (tL λi j=>.int (Builtin.bitOr i j)):=FI λ_ _ _ _ _ _ _ q=>or_int q
def NH {f:Value->Sem Value}{g:Int->Int}
  (rule:∀(i:Int) (t:Tok) (s:Shared) (Q:Value->Shared->Prop) (E:Value->Shared->Prop),Q (.int (g i) s.toks) {s with toks:=s.toks + 1}->wpAny (model X.prog X.w) X.A (f (.int i t)) Q E s) :
  LM X f (rU λi=>.int (g i)):=by
 intro pins s σ H x v Q I rx h
 obtain⟨i,rfl,q⟩:=h
 obtain⟨t,rfl⟩:=rx
 exact rule i t s _ _ ⟨.int (g i),H,I.tok _,⟨_,rfl⟩,q⟩
def oE:LM X (unaryOp .USub) (rU λi=>.int (-i)):=NH λ_ _ _ _ _ q=>neg_int q
end
section
variable {X:Cx}{a b c:Expr}{ta tb tc:TE}{pos:Pos}
def ID {pins:List (Addr×Obj)}{σ:St}{H:Hp}{s:Shared}{Q:VK}{k k':Bool}(I:Inv X pins σ H s)(q:Q (.bl k) H)(e:k=k'):EP X pins σ Q (.bool k') s:=by
 subst e
 exact⟨.bl k,H,I,rfl,q⟩
def vV:mD X (compareOp .Lt) (tL λi j=>.bl (decide (i < j))):=FT λ_ _ _ _ _ _ _ q=>lt_int q
def C4:mD X (compareOp .LtE) (tL λi j=>.bl (decide (i<=j))):=FT λ_ _ _ _ _ _ _ q=>le_int q
def Lk:mD X (compareOp .Gt) (tL λi j=>.bl (decide (j < i))):=FT λ_ _ _ _ _ _ _ q=>gt_int q
def KW:mD X (compareOp .GtE) (tL λi j=>.bl (decide (j<=i))):=FT λ_ _ _ _ _ _ _ q=>ge_int q
def bc (b:Expr){op:CmpOp}(h:op≠.In:=by decide)(h2:op≠.NotIn:=by decide):behindInMarks op b=false:=by
 have e1:(op == CmpOp.In)=false:=by cases op <;> first |rfl |exact absurd rfl h
 have e2:(op == CmpOp.NotIn)=false:=by cases op <;> first |rfl |exact absurd rfl h2
 cases b <;> simp[behindInMarks,e1,e2]
def EA {op:CmpOp}{r:R2}(ho:mD X (compareOp op) r)(ha:PE X a ta)(hb:PE X b tb)(hm:behindInMarks op b=false):PE X (.Compare a [op] [b] pos) (Lx r ta tb):=by
 intro pins s σ H Q I h
 exact wpAny_Compare1 (IM ha hb I h λv u s2 x y H2 I2 rx ry q=>ho pins s2 σ H2 x y v u Q I2 rx ry q) hm
def KC (t:TE):TT:=λσ H Q=>t σ H λx H'=>∃k,x=.bl k/\Q k H'
def FE {op:CmpOp}{r:R2}(ho:mD X (compareOp op) r)(ha:PE X a ta)(hb:PE X b tb)(hm:behindInMarks op b=false):PT X (.Compare a [op] [b] pos) (KC (Lx r ta tb)):=by
 intro pins s σ H Q I h
 refine wpAny_isTrue_Compare1 (cM (ha pins s σ H _ I h) λv s1 ⟨x,H1,I1,r1,q1⟩=>cM (hb pins s1 σ H1 _ I1 q1) λu s2 ⟨y,H2,I2,r2,q2⟩=>
  cM (ho pins s2 σ H2 x y v u _ I2 r1 r2 q2) λc s3 ⟨z,H3,I3,r3,k,e,q3⟩=>?_) hm
 subst e
 cases r3
 exact Pa ⟨H3,I3,q3⟩
def Jb (r r':R2)(ta tb tc:TE):TE:=λσ H Q=>ta σ H λx H1=>tb σ H1 λy H2=>r x y H2 λz H3=>∃k,z=.bl k/\
 (if k=true then tc σ H3 λw' H4=>r' y w' H4 Q else Q (.bl false) H3)
theorem Cu {op op':CmpOp}{r r':R2}(ho:mD X (compareOp op) r)(ho':mD X (compareOp op') r')(ha:PE X a ta)(hb:PE X b tb)(hc:PE X c tc)
  (hm:lastMarks [op,op'] [b,c]=false:=by with_unfolding_all rfl):PE X (.Compare a [op,op'] [b,c] pos) (Jb r r' ta tb tc):=by
 intro pins s σ H Q I h
 refine Compare_chain (cM (ha pins s σ H _ I h) λv s1 ⟨x,H1,I1,r1,q1⟩=>chain_link (cM (hb pins s1 σ H1 _ I1 q1) λu s2 ⟨y,H2,I2,r2,q2⟩=>
  cM (ho pins s2 σ H2 x y v u _ I2 r1 r2 q2) λd s3 ⟨z,H3,I3,r3,k,e,q3⟩=>?_)) hm
 subst e
 cases r3
 refine Pa ?_
 cases k with
 |false=>exact ite_ff ⟨.bl false,H3,I3,rfl,q3⟩
 |true=>exact ite_tt (chain_last (cM (hc pins s3 σ H3 _ I3 q3) λw' s4 ⟨z',H4,I4,r4,q4⟩=>ho' pins s4 σ H4 y z' u w' Q I4 r2 r4 q4))
def KH (K:Frag)(x:V)(H:Hp)(k:Bool):Prop:=
 match x with
 | .non=>k=false
 | .bl b=>k=b
 | .int i=>k=(i != 0)
 | .str y=>y.length<=sizeLine/\k=((y.length:Int) != 0)
 | .byt y=>y.size<=sizeLine/\k=((y.size:Int) != 0)
 | .ref p=>(∃xs,gY K H p xs/\k= !xs.isEmpty)\/(∃xs,fV K H p xs/\k= !xs.isEmpty)\/∃kvs,H p=some (.dK kvs)/\k= !kvs.isEmpty
 |_=>False
def yf {κ:Type}{kvs:List (κ×V)}{vs:List (κ×Value)}(r:KV kvs vs):(!vs.isEmpty)= !kvs.isEmpty:=by
 cases r <;> rfl
def q8 {xs:List V}{its:List Value}(r:Vals xs its):(!its.toArray.isEmpty)= !xs.isEmpty:=by
 cases r <;> simp
def oB:(sizeLine:Nat) < 2 ^ 63:=by rw[Ot];decide
theorem JH:L5 X (λx H Q=>∃k,KH X.K x H k/\Q k H):=by
 intro pins s σ H x v Q I rx h
 obtain⟨k,e,q⟩:=h
 have hl:=oB
 have hs:sizeLine=16777216:=Ot
 cases x with
 |non=>
  cases rx
  have e':k=false:=e
  subst e'
  exact truthy_none ⟨H,I,q⟩
 |bl b=>
  cases rx
  have e':k=b:=e
  subst e'
  exact Pa ⟨H,I,q⟩
 |int i=>
  obtain⟨t,rfl⟩:=rx
  have e':k=(i != 0):=e
  subst e'
  exact PySem.P.truthy_int ⟨H,I,q⟩
 |str y=>
  obtain⟨t,rfl⟩:=rx
  obtain⟨hy,e'⟩:y.length<=sizeLine/\k=((y.length:Int) != 0):=e
  subst e'
  exact PySem.P.truthy_str (by omega) ⟨H,I.tok _,q⟩
 |byt y=>
  obtain⟨t,rfl⟩:=rx
  obtain⟨hy,e'⟩:y.size<=sizeLine/\k=((y.size:Int) != 0):=e
  subst e'
  exact PySem.W.truthy_bytes (by omega) ⟨H,I.tok _,q⟩
 |ref p=>
  cases rx
  have e':(∃xs,gY X.K H p xs/\k= !xs.isEmpty)\/(∃xs,fV X.K H p xs/\k= !xs.isEmpty)\/∃kvs,H p=some (.dK kvs)/\k= !kvs.isEmpty:=e
  rcases e' with⟨xs,hx,e'⟩ | ⟨xs,hx,e'⟩ | ⟨kvs,hx,e'⟩
  ·subst e'
   obtain⟨its,r,pl,hz⟩:=I.list hx
   have hlen:=r.length
   exact wpAny_truthy_list pl.isList (by simp only[Od];omega) ⟨H,I.tok _,by rw[q8 r];exact q⟩
  ·subst e'
   obtain⟨its,r,pl,hz⟩:=I.tuple hx
   have hlen:=r.length
   exact truthy_tuple pl (by simp only[Od];omega) ⟨H,I.tok _,by rw[q8 r];exact q⟩
  ·subst e'
   obtain⟨hz,hS,vs,r,m⟩:kvs.length<=sizeLine/\(p == sysModules)=false/\∃vs,KV kvs vs/\s.heap.DictOf (tV X.prog X.w) p vs:=I.hok p _ hx
   have hlen:kvs.length=vs.length:=Paired.length r
   exact wpAny_truthy_dict hS m (by omega) ⟨H,I.tok _,by rw[yf r];exact q⟩
 |_=>exact (show False from e).elim
def Dq (ha:PE X a ta)(he:∀whole,isTrue a X.env whole=(do let v <-whole;standAt a.pos;holding [v] (truthy v))) :
  PT X a (λσ H Q=>ta σ H λx H'=>∃k,KH X.K x H' k/\Q k H'):=by
 intro pins s σ H Q I h
 exact isTrue_plain (cM (ha pins s σ H _ I h) λv s1 ⟨x,H1,I1,r1,q1⟩=>JH pins s1 σ H1 x v Q I1 r1 q1) (he _)
theorem vals1 {x:V}{us:List Value}(r:Vals [x] us):∃u,us= [u]/\RelV x u:=by
 cases r with
 |cons r1 r2=>cases r2;exact⟨_,rfl,r1⟩
theorem vals2 {x y:V}{us:List Value}(r:Vals [x,y] us):∃u w',us= [u,w']/\RelV x u/\RelV y w':=by
 cases r with
 |cons r1 r2=>
  cases r2 with
  |cons r3 r4=>cases r4;exact⟨_,_,rfl,r1,r3⟩
def Ej:dm X (.builtin "abs") (λxs H Q=>∃i,xs= [.int i]/\Q (.int (if i < 0 then -i else i)) H):=by
 intro pins s σ H xs us Q I r h
 obtain⟨i,rfl,q⟩:=h
 obtain⟨u,rfl,t,rfl⟩:=vals1 r
 exact call_abs_int λu tk=>⟨.int (if i < 0 then -i else i),H,I.tok _,⟨_,rfl⟩,q⟩
def A3 (hc:X.calm=true):dm X (.builtin "max") (λxs H Q=>∃i j,xs= [.int i,.int j]/\Q (.int (if j > i then j else i)) H):=by
 intro pins s σ H xs us Q I r h
 obtain⟨i,j,rfl,q⟩:=h
 obtain⟨u,w',rfl,⟨t,rfl⟩,⟨t',rfl⟩⟩:=vals2 r
 refine max_two_ints (I.ok.hd hc) λh' tk k=>⟨_,H,I.kept k,?_,q⟩
 by_cases hj:j > i
 ·rw[NN hj,NN hj];exact⟨_,rfl⟩
 ·rw[NV hj,NV hj];exact⟨_,rfl⟩
def AX (hc:X.calm=true):dm X (.builtin "min") (λxs H Q=>∃i j,xs= [.int i,.int j]/\Q (.int (if j < i then j else i)) H):=by
 intro pins s σ H xs us Q I r h
 obtain⟨i,j,rfl,q⟩:=h
 obtain⟨u,w',rfl,⟨t,rfl⟩,⟨t',rfl⟩⟩:=vals2 r
 refine min_two_ints (I.ok.hd hc) λh' tk k=>⟨_,H,I.kept k,?_,q⟩
 by_cases hj:j < i
 ·rw[NN hj,NN hj];exact⟨_,rfl⟩
 ·rw[NV hj,NV hj];exact⟨_,rfl⟩
def Af:dm X (.type "int") (λxs H Q=>(∃i,xs= [.int i]/\Q (.int i) H)\/∃k,xs= [.bl k]/\Q (.int (if k then 1 else 0)) H):=by
 intro pins s σ H xs us Q I r h
 rcases h with⟨i,rfl,q⟩ | ⟨k,rfl,q⟩
 ·obtain⟨u,rfl,t,rfl⟩:=vals1 r
  exact call_int_int ⟨.int i,H,I,⟨_,rfl⟩,q⟩
 ·obtain⟨u,rfl,r1⟩:=vals1 r
  cases r1
  exact call_int_bool ⟨.int (if k then 1 else 0),H,I.tok _,⟨_,rfl⟩,q⟩
def JU (K:Frag)(x:V)(H:Hp)(n:Nat):Prop:=
 match x with
 | .str y=>y.length<=sizeLine/\n=y.length
 | .byt y=>y.size<=sizeLine/\n=y.size
 | .ref p=>(∃xs,gY K H p xs/\n=xs.length)\/∃xs,fV K H p xs/\n=xs.length
 |_=>False
theorem bY:dm X (.builtin "len") (λxs H Q=>∃x n,xs= [x]/\JU X.K x H n/\Q (.int n) H):=by
 intro pins s σ H xs us Q I r h
 obtain⟨x,n,rfl,e,q⟩:=h
 obtain⟨u,rfl,rx⟩:=vals1 r
 have hl:=oB
 have hs:sizeLine=16777216:=Ot
 cases x with
 |str y=>
  obtain⟨t,rfl⟩:=rx
  obtain⟨hy,e'⟩:y.length<=sizeLine/\n=y.length:=e
  subst e'
  exact len_str (by omega) ⟨.int _,H,I.tok _,⟨_,rfl⟩,q⟩
 |byt y=>
  obtain⟨t,rfl⟩:=rx
  obtain⟨hy,e'⟩:y.size<=sizeLine/\n=y.size:=e
  subst e'
  exact PySem.W.len_bytes (by omega) ⟨.int _,H,I.tok _,⟨_,rfl⟩,q⟩
 |ref p=>
  cases rx
  have e':(∃xs,gY X.K H p xs/\n=xs.length)\/∃xs,fV X.K H p xs/\n=xs.length:=e
  rcases e' with⟨xs,hx,e'⟩ | ⟨xs,hx,e'⟩
  ·subst e'
   obtain⟨its,r',pl,hz⟩:=I.list hx
   have hlen:=r'.length
   exact Calls.call_len_list pl.isList (by simp only[Od];omega) ⟨.int xs.length,H,I.tok _,⟨_,by simp only[Od];rw[hlen]⟩,q⟩
  ·subst e'
   obtain⟨its,r',pl,hz⟩:=I.tuple hx
   have hlen:=r'.length
   exact len_tuple pl (by simp only[Od];omega) ⟨.int xs.length,H,I.tok _,⟨_,by simp only[Od];rw[hlen]⟩,q⟩
 |_=>exact (show False from e).elim
def vp:dm X (.builtin "divmod") (λxs H Q=>∃i j,xs= [.int i,.int j]/\GI i j/\∀p,H p=none->Q (.ref p) (upd H p (.tup [.int (i / j),.int (i % j)]))):=by
 intro pins s σ H xs us Q I r h
 obtain⟨i,j,rfl,⟨h1,h2⟩,q⟩:=h
 obtain⟨u,w',rfl,⟨t,rfl⟩,⟨t',rfl⟩⟩:=vals2 r
 refine divmod_int (by omega) ?_ (.inl (PyProof.noPylong_small (by omega)))
 rw[Int.fdiv_eq_ediv_of_nonneg i (by omega),Int.fmod_eq_emod_of_nonneg i (by omega)]
 have hn:H s.heap.objs.size=none:=I.hok.fresh (NQ _)
 refine⟨.ref s.heap.objs.size,_,?_,rfl,q _ hn⟩
 refine I.laid (λb o e=>NM _ e) (NQ _) ⟨by simp only[N5,length_nil];rw[Ot];decide,[.int (i / j) s.toks,.int (i % j) (s.toks + 1)],.cons ⟨_,rfl⟩ (.cons ⟨_,rfl⟩ .nil),?_⟩
 exact⟨_,N3 s.heap rfl,rfl,0,rfl,rfl⟩
end
structure JJ (h:Heap)(x dx C:Addr)(mA:Str->Option Value):Prop where
 obj:h.get? x=some (PySem.W.instObj C dx)
 ns:h.Ns1 dx mA
 ne:dx≠x
def A4 {h:Heap}{dx:Addr}{mA:Str->Option Value}(n:h.Ns1 dx mA):∃od,h.get? dx=some od/\∀name,PySem.W.lookIn name od=some (mA name):=by
 obtain⟨o,es,ep,ho,hd,hk,_,hm⟩:=n
 refine⟨o,ho,λname=>?_⟩
 have e:=hm name
 unfold nsFind findBy at e
 rw[<-Array.find?_toList] at e
 unfold PySem.W.lookIn
 rw[hd]
 dsimp only
 split
 ·rename_i y q
  rw[q] at e
  exact congrArg some e
 ·rename_i q
  rw[q] at e
  have a:es.toList.any (·.refKey)=false:=by
   rw[List.any_eq_false]
   intro y hy
   obtain⟨z,t,hkey⟩:=hk y (P5.mp hy)
   simp[DictEntry.refKey,hkey]
  have a':¬es.toList.any (·.refKey)=true:=by rw[a];exact Og
  rw[NV a']
  exact congrArg some e
def JJ.look {h:Heap}{x dx C:Addr}{mA:Str->Option Value}(I:JJ h x dx C mA):∃od,PySem.W.InstAt h x (PySem.W.instObj C dx) C (some od)/\∀name,PySem.W.lookIn name od=some (mA name):=
 let ⟨od,ho,hl⟩:=A4 I.ns
 ⟨od,⟨I.obj,rfl,rfl,ho⟩,hl⟩
section
variable {P:Program}{w:World}{H H':Hp}{h h':Heap}{a C dx:Addr}{fs fs':List (Str×V)}
def Fy (hok:mS P w H h)(e:H a=some (.ins C dx fs)):∃mA,JJ h a dx C mA/\(∀f,IG (fs.lookup f) (mA f))/\PySem.Within mA (fs.map (·.1))/\fs.length<=1000/\H dx=some (.own a):=by
 obtain⟨d,z,ne,ob,mA,n,r,q⟩:=(show c4 P w H h a (.ins C dx fs) from hok a _ e)
 exact⟨mA,⟨ob,n,ne⟩,r,q,z,d⟩
end
structure MJ (K:Frag)(C:Addr):Prop where
 pg:PySem.W.plainGet K C Str.empty=true
 hd:PySem.W.hasDictIn K C=true
 po:PySem.W.plainOver K C=true
 sa:PySem.W.findIn K (.ref C) "__setattr__"=some (some (.builtin "object.__setattr__"))
def MJ.get {K:Frag}{C:Addr}(c:MJ K C)(f:Str):PySem.W.plainGet K C f=true:=c.pg
section
variable {X:Cx}{pins:List (Addr×Obj)}{σ:St}{H:Hp}{s:Shared}{A:Around}{E:Value->Shared->Prop}{Q:Value->Shared->Prop}{c:Value}{b:Bool}
inductive pB (K:Frag)(H:Hp):V->Value->Prop where
 |non:pB K H .non (.type "NoneType")
 |bl (x:Bool):pB K H (.bl x) (.type "bool")
 |int (i:Int):pB K H (.int i) (.type "int")
 |str (x:Str):pB K H (.str x) (.type "str")
 |flt (x:UInt64):pB K H (.flt x) (.type "float")
 |lst {a:Addr} {xs:List V} (e:H a=some (.lst xs)):pB K H (.ref a) (.type "list")
 |bp {a:Addr} {o:Obj} {xs:List V} (e:H a=some (.bp o (.lst xs))):pB K H (.ref a) (.type "list")
 |tup {a:Addr} {xs:List V} (e:H a=some (.tup xs)):pB K H (.ref a) (.type "tuple")
 |dK {a:Addr} {kvs:List (Key×V)} (e:H a=some (.dK kvs)):pB K H (.ref a) (.type "dict")
 |dT {a:Addr} {kvs:List (List Key×V)} (e:H a=some (.dT kvs)):pB K H (.ref a) (.type "dict")
 |ins {a C dx:Addr} {fs:List (Str×V)} (e:H a=some (.ins C dx fs)) (cl:MJ K C) (ha:PySem.W.findIn K (.ref C) "__class__"=some (some (.builtin "object.__class__")))
   (hn:PySem.W.specialIn K (.builtin "object.__class__") "__get__"=some (some (.builtin "getset_descriptor.__get__"))) (htk:PySem.W.takesIn K (.builtin "object.__class__")=some true)
   (hm:PySem.W.mroIn K C (.type "object")=some true):pB K H (.ref a) (.ref C)
theorem jZ {x:V}{u t:Value}(I:Inv X pins σ H s)(rx:RelV x u)(ty:pB X.K H x t)(e:PySem.W.kitOne X.K t c=some b)(h:∀tk,Q (.bool b) {s with toks:=tk}) :
  wpAny (model X.prog X.w) A (call (.builtin "isinstance") [u,c]) Q E s:=by
 cases ty with
 |non=>cases (show u=Value.none from rx);exact OJ PySem.W.kitx_none I.kIn True.intro e (λz=>nomatch z) h
 |bl y=>cases (show u=Value.bool y from rx);exact OJ PySem.W.kitx_bool I.kIn True.intro e (λz=>nomatch z) h
 |int i=>obtain⟨t,q⟩:=(show ∃t,u=Value.int i t from rx);cases q;exact OJ PySem.W.kitx_int I.kIn True.intro e (λz=>nomatch z) h
 |str y=>obtain⟨t,q⟩:=(show ∃t,u=Value.str y t from rx);cases q;exact OJ PySem.W.kitx_str I.kIn True.intro e (λz=>nomatch z) h
 |flt y=>obtain⟨t,q⟩:=(show ∃t,u=Value.float y t from rx);cases q;exact OJ PySem.W.kitx_float I.kIn True.intro e (λz=>nomatch z) h
 | @lst a xs ea=>
  cases (show u=Value.ref a from rx)
  obtain⟨_,_,n,_,h1⟩:=(show c4 X.prog X.w H s.heap a (.lst xs) from I.hok a _ ea)
  exact OJ PySem.W.kitx_list I.kIn ⟨_,h1,rfl⟩ e (λz=>nomatch z) h
 | @bp a ob xs ea=>
  cases (show u=Value.ref a from rx)
  obtain⟨_,_,_,n,_,h1⟩:=(show c4 X.prog X.w H s.heap a (.bp ob (.lst xs)) from I.hok a _ ea)
  exact OJ PySem.W.kitx_list I.kIn ⟨_,h1,rfl⟩ e (λz=>nomatch z) h
 | @tup a xs ea=>
  cases (show u=Value.ref a from rx)
  obtain⟨_,_,_,p⟩:=(show c4 X.prog X.w H s.heap a (.tup xs) from I.hok a _ ea)
  obtain⟨o,h1,h2,_⟩:=p
  exact OJ PySem.W.kitx_tuple I.kIn ⟨o,h1,h2⟩ e (λz=>nomatch z) h
 | @dK a kvs ea=>
  cases (show u=Value.ref a from rx)
  obtain⟨_,_,vs,_,p⟩:=(show c4 X.prog X.w H s.heap a (.dK kvs) from I.hok a _ ea)
  obtain⟨o,es,ep,h1,h2,_⟩:=p
  exact OJ PySem.W.kitx_dict I.kIn ⟨o,h1,h2.1⟩ e (λz=>nomatch z) h
 | @dT a kvs ea=>
  cases (show u=Value.ref a from rx)
  obtain⟨_,_,xs,_,o,es,ep,h1,h2,_⟩:=(show c4 X.prog X.w H s.heap a (.dT kvs) from I.hok a _ ea)
  exact OJ PySem.W.kitx_dict I.kIn ⟨o,h1,h2.1⟩ e (λz=>nomatch z) h
 | @ins a C dx fs ea cl ha hn htk hm=>
  cases (show u=Value.ref a from rx)
  obtain⟨mA,O,_⟩:=Fy I.hok ea
  obtain⟨od,J,_⟩:=O.look
  exact OJ (PySem.W.kitx_own (cl.get _) cl.hd ha hn htk hm) I.kIn J e (λz=>nomatch z) h
end
structure fX (k:Nat)(A:Around):Prop where
 hd:A.handled=none
 dp:A.depth + 3 * k + 5 < recursionLimit
 un:A.units + 16 * k + 200 < cLine
 gd:A.guards=some []
def fX.mono {j k:Nat}{A:Around}(r:fX k A)(h:j<=k):fX j A:=⟨r.hd,by have:=r.dp;omega,by have:=r.un;omega,r.gd⟩
def fX.deeper {k:Nat}{A:Around}(r:fX (k + 1) A)(env:Env):fX k (A.deeper env):=
 ⟨r.hd,by have:=r.dp;show A.depth + 1 + 3 * k + 5 < _;omega,by have:=r.un;show A.units + 3 + 16 * k + 200 < _;omega,r.gd⟩
def fX.depth {k:Nat}{A:Around}(r:fX k A):A.depth < recursionLimit:=by have:=r.dp;omega
def fX.units {k:Nat}{A:Around}(r:fX k A):A.units + 64 < cLine:=by have:=r.un;omega
def Mj:TA:=λ_ H Q=>Q [] H
def Lf (ta:TE)(tr:TA):TA:=λσ H Q=>ta σ H λx H1=>tr σ H1 λxs H2=>Q (x :: xs) H2
section
variable {X:Cx}{e:Expr}{es:List Expr}{te:TE}{t:TA}{pos:Pos}
def bJ:PA X [] Mj:=λ_ _ _ _ H Q I h=>Calls.spliced_nil ⟨[],H,I,.nil,h⟩
def aS (ha:PE X e te)(hr:PA X es t)(hs:starEach (e :: es) X.env=(false,eval e X.env) :: starEach es X.env:=by rfl):PA X (e :: es) (Lf te t):=by
 intro pos pins s σ H Q I h
 rw[hs]
 show wpAny _ _ (spliced ((false,eval e X.env) :: backTo pos (starEach es X.env))) _ _ s
 refine Calls.spliced_cons (cM (ha pins s σ H _ I h) λu s1 ⟨x,H1,I1,r1,q1⟩=>?_)
 exact cM (hr pos pins s1 σ H1 _ I1 q1) λus s2 ⟨xs,H2,I2,r2,q2⟩=>⟨x :: xs,H2,I2,.cons r1 r2,q2⟩
def M7 (t:TA):TE:=λσ H Q=>t σ H λxs H1=>xs.length<=sizeLine/\∀p,H1 p=none->Q (.ref p) (upd H1 p (.tup xs))
def M4 (t:TA):TE:=λσ H Q=>t σ H λxs H1=>xs.length<=sizeLine/\∀p,H1 p=none->Q (.ref p) (upd H1 p (.lst xs))
def yS {x1}(h:PA X es t):PE X (.Tuple es x1 pos) (M7 t):=by
 intro pins s σ H Q I hq
 refine wpAny_Tuple_spliced (cM (h pos pins s σ H _ I hq) λus s1 ⟨xs,H1,I1,r,z,q⟩=>⟨by rw[<-r.length];exact z,?_⟩)
 have hf:H1 s1.heap.objs.size=none:=I1.hok.fresh (NQ _)
 refine⟨.ref s1.heap.objs.size,upd H1 s1.heap.objs.size (.tup xs),I1.laid (t':=s1.toks) (λb u e=>NM _ e) (NQ _) ?_,rfl,q _ hf⟩
 exact⟨z,us,r,tQ.new _ _⟩
def D8 (h:PA X es t):PE X (.List es pos) (M4 t):=by
 intro pins s σ H Q I hq
 refine wpAny_List_spliced (cM (h pos pins s σ H _ I hq) λus s1 ⟨xs,H1,I1,r,z,q⟩=>⟨by rw[<-r.length];exact z,?_⟩)
 have hf:H1 s1.heap.objs.size=none:=I1.hok.fresh (NQ _)
 refine⟨.ref s1.heap.objs.size,upd H1 s1.heap.objs.size (.lst xs),I1.laid (t':=s1.toks) (λb u e=>NM _ e) (NQ _) ?_,rfl,q _ hf⟩
 exact⟨z,us,0,r,N3 _ rfl⟩
end
abbrev Sp:=List V->Hp->VK->XK->Prop
abbrev A0:=List Env->Hp->Shared->XK->Value->Shared->Prop
structure EG (P:Program)(w:World)(K:Frag)(mg:Str->Option Value)(base:Heap)(A:Around)(outer:List Env)(s:Shared)(H:Hp):Prop where
 frames:A.frames=some outer
 mod:Mod K mg base
 bs:∀b o,base.get? b=some o->s.heap.get? b=some o/\H b=none
 bsz:base.objs.size<=s.heap.objs.size
 funs:s.heap.FunFrames base outer
 frf:∀b∈jD outer,H b=none
 hok:mS P w H s.heap
 bare:AllBare s.gens
def CE (outer:List Env)(P:Program)(w:World)(H:Hp)(s:Shared)(Q:VK)(u:Value)(s':Shared):Prop:=
 ∃v H',s'.os=s.os/\AllBare s'.gens/\Un (jD outer) [] H H' s.heap s'.heap/\mS P w H' s'.heap/\RelV v u/\Q v H'
def CR (CX:A0)(outer:List Env)(P:Program)(w:World)(H:Hp)(s:Shared)(Q:VK)(E:XK)(r:Result)(s':Shared):Prop:=
 match r with
 | .ok (.ret u)=>CE outer P w H s Q u s'
 | .ok _=>False
 | .error e=>CX outer H s E e s'
structure gN (P:Program)(w:World)(K:Frag)(mg:Str->Option Value)(base:Heap)(CX:A0)(k:Nat)(f:Addr)(fd:FuncData)(ps:List Str)(sp:Sp):Prop where
 len:∀vs H Q E,sp vs H Q E->vs.length=ps.length
 run:∀(A:Around) (outer:List Env) (s:Shared) (H:Hp) (args:Args) (us:List Value) (vs:List V) (Q:VK) (E:XK),fX k A->EG P w K mg base A outer s H->BindsTo s fd args (ps.zip us)->Vals vs us->sp vs H Q E->
  codeAny (model P w) A (.call (.ref f) args) (CR CX outer P w H s Q E) s
def gN.mono {P:Program}{w:World}{K:Frag}{mg:Str->Option Value}{base:Heap}{CX:A0}{j k:Nat}{f:Addr}{fd:FuncData}{ps:List Str}{sp:Sp}(F:gN P w K mg base CX j f fd ps sp)(h:j<=k) :
  gN P w K mg base CX k f fd ps sp:=⟨F.len,λA outer s H args us vs Q E hr=>F.run A outer s H args us vs Q E (hr.mono h)⟩
def gN.imp {P:Program}{w:World}{K:Frag}{mg:Str->Option Value}{base:Heap}{CX:A0}{k:Nat}{f:Addr}{fd:FuncData}{ps:List Str}{sp sp':Sp}(F:gN P w K mg base CX k f fd ps sp)
  (h:∀vs H Q E,sp' vs H Q E->sp vs H Q E):gN P w K mg base CX k f fd ps sp':=
 ⟨λvs H Q E q=>F.len vs H Q E (h _ _ _ _ q),λA outer s H args us vs Q E hr he hb hv hs=>F.run A outer s H args us vs Q E hr he hb hv (h _ _ _ _ hs)⟩
section
variable {X:Cx}{pins:List (Addr×Obj)}{σ:St}{H:Hp}{s s':Shared}
def Inv.env0 (I:Inv X pins σ H s):EG X.prog X.w X.K X.mg X.base X.A X.stack s H:=
 ⟨I.ok.frames,I.ok.mod,I.bs,OU I.ok.bsz I.sz,I.stack,I.stkFree,I.hok,I.bare⟩
def Inv.after {Q:VK}{u:Value}(I:Inv X pins σ H s)(h:CE X.stack X.prog X.w H s Q u s'):EP X pins σ Q u s':=by
 obtain⟨v,H',os,bare,un,hok,r,q⟩:=h
 obtain⟨hh,g,d,t,os'⟩:=s'
 obtain rfl:os'=s.os:=os
 exact⟨v,H',I.call (h':=hh) (g':=g) (d':=d) (t':=t) (ch:=[]) un hok bare (λb z=>absurd z (by simp)),r,q⟩
end
def Ld (sp:Sp)(dvs:List V)(E:XK)(t:TA):TE:=λσ H Q=>t σ H λvs H1=>sp (vs ++ dvs) H1 Q E
def Binds (K:Frag)(fd:FuncData)(ps:List Str)(ds:List Value):Prop:=
 ∀(s:Shared) (us:List Value),K.In s.heap->(us ++ ds).length=ps.length->BindsTo s fd ⟨us,[]⟩ (ps.zip (us ++ ds))
def Binds.all {K:Frag}{fd:FuncData}{ps:List Str}(h:∀us:List Value,us.length=ps.length->bindArgs fd ⟨us,[]⟩=pure (ps.zip us)):Binds K fd ps []:=λs us _ hl=>by
 rw[PD] at hl ⊢
 exact .of_eq (h us hl)
def Passes (CX:A0)(X:Cx)(E:XK):Prop:=∀(pins:List (Addr×Obj)) (σ:St) (H:Hp) (s:Shared) (e:Value) (s':Shared),Inv X pins σ H s->CX X.stack H s E e s'->X.xe e s'
section
variable {X:Cx}{CX:A0}{k:Nat}{f C:Addr}{fd:FuncData}{ps:List Str}{sp:Sp}{dvs:List V}{ds:List Value}{E:XK}{x m:Str}{p pos apos:Pos}{e o:Expr}{es:List Expr}{ta:TE}{t:TA}
theorem Ic {pins:List (Addr×Obj)}{σ:St}{H:Hp}{s:Shared}{Q:VK}{us:List Value}{vs:List V}(F:gN X.prog X.w X.K X.mg X.base CX k f fd ps sp)(hr:fX k X.A)(hb:Binds X.K fd ps ds)(hd:Vals dvs ds)(hx:Passes CX X E)
  (I:Inv X pins σ H s) (r:Vals vs us) (h:sp (vs ++ dvs) H Q E):wpAny (model X.prog X.w) X.A (call (.ref f) us) (EP X pins σ Q) X.xe s:=by
 have r2:Vals (vs ++ dvs) (us ++ ds):=r.append hd
 have hl:(us ++ ds).length=ps.length:=by rw[<-r2.length];exact F.len _ _ _ _ h
 refine wpAny_call (Qa (F.run X.A X.stack s H ⟨us,[]⟩ (us ++ ds) (vs ++ dvs) Q E hr I.env0 (hb s us I.kIn hl) r2 h) λr s' hq=>?_)
 cases r with
 |error e=>exact hx pins σ H s e s' I hq
 |ok fl=>
  cases fl with
  |ret u=>exact I.after hq
  |next=>exact False.elim hq
  |brk=>exact False.elim hq
  |cont=>exact False.elim hq
def pN (F:gN X.prog X.w X.K X.mg X.base CX k f fd ps sp)(hr:fX k X.A)(hg:Gl X x)(hm:X.mg x=some (.ref f))(hk:PySem.W.keepIn X.K (.ref f)=true)(hb:Binds X.K fd ps ds)(hd:Vals dvs ds)(hx:Passes CX X E)
  (ha:PA X (e :: es) t) (hdb:(x == ("__debug__":Str))=false:=by decide) (he:starEach (e :: es) X.env=(false,eval e X.env) :: starEach es X.env:=by rfl) (hpl:(backTo pos (starEach es X.env)).any (·.1)=false:=by rfl) :
  PE X (.Call (.Name x p) (e :: es) [] pos) (Ld sp dvs E t):=by
 intro pins s σ H Q I h
 refine wpAny_Call_Name_kw (ve I hg hm ?_ hdb)
 refine PySem.W.callWith_K (h₀:=X.base) I.ok.mod.kin hk (cM (ha pos pins s σ H _ I h) λus s1 ⟨vs,H1,I1,r,q⟩=>⟨I1.kIn,?_⟩) he hpl
 exact Ic F hr hb hd hx I1 r q
end
structure aK (N P:List Str)(sc:Scope):Prop where
 kind:sc.kind=.function
 co:sc.isCoroutine=false
 gen:sc.isGenerator=false
 nd:N.Nodup
 pre:N.take P.length=P
 par:∀x∈P,sc.names.lookup x=some .local\/sc.names.lookup x=some .cell
 nofree:∀y∈sc.names,y.2≠.free
theorem tx {kindOf:Str->Option NameKind}{x:Str}:∀{binds:List (Str×Value)} {m:Str->Option Value},(∀v,(x,v)∉binds)->bindL kindOf binds m x=m x
 | [],_,_=>rfl
 | (n,v) :: r,m,h=>by
  unfold bindL
  rw[tx λw hw=>h w (NP _ hw)]
  split
  ·have:x≠n:=by rintro rfl;exact h v NR
   simp[this]
  ·rfl
theorem sr {kindOf:Str->Option NameKind}{x:Str}:∀{binds:List (Str×Value)} {m:Str->Option Value},(∀v,(x,v)∉binds)->bindC kindOf binds m x=m x
 | [],_,_=>rfl
 | (n,v) :: r,m,h=>by
  unfold bindC
  rw[sr λw hw=>h w (NP _ hw)]
  split
  ·rfl
  ·have:x≠n:=by rintro rfl;exact h v NR
   simp[this]
theorem tE {kindOf:Str->Option NameKind}{x:Str}{v:Value}:∀{P:List Str} {vs:List Value} {i:Nat} {m:Str->Option Value},P.Nodup->P[i]? =some x->vs[i]? =some v->kindOf x=some .local->
  bindL kindOf (P.zip vs) m x=some v
 | [],_,_,_,_,h,_,_=>by simp at h
 |_ :: _,[],_,_,_,_,h,_=>by simp at h
 |p :: P,w :: vs,0,m,nd,h1,h2,hk=>by
  simp at h1 h2;subst h1;subst h2
  show bindL kindOf ((p,w) :: P.zip vs) m p=_
  unfold bindL
  rw[tx λv hv=>(Om.mp nd).1 (List.of_mem_zip hv).1,NN hk]
  simp
 |p :: P,w :: vs,i + 1,m,nd,h1,h2,hk=>by
  show bindL kindOf ((p,w) :: P.zip vs) m x=_
  unfold bindL
  exact tE (i:=i) (Om.mp nd).2 (by simpa using h1) (by simpa using h2) hk
theorem sJ {kindOf:Str->Option NameKind}{x:Str}{v:Value}:∀{P:List Str} {vs:List Value} {i:Nat} {m:Str->Option Value},P.Nodup->P[i]? =some x->vs[i]? =some v->kindOf x≠some .local->
  bindC kindOf (P.zip vs) m x=some v
 | [],_,_,_,_,h,_,_=>by simp at h
 |_ :: _,[],_,_,_,_,h,_=>by simp at h
 |p :: P,w :: vs,0,m,nd,h1,h2,hk=>by
  simp at h1 h2;subst h1;subst h2
  show bindC kindOf ((p,w) :: P.zip vs) m p=_
  unfold bindC
  rw[sr λv hv=>(Om.mp nd).1 (List.of_mem_zip hv).1,NV hk]
  simp
 |p :: P,w :: vs,i + 1,m,nd,h1,h2,hk=>by
  show bindC kindOf ((p,w) :: P.zip vs) m x=_
  unfold bindC
  exact sJ (i:=i) (Om.mp nd).2 (by simpa using h1) (by simpa using h2) hk
def start (N:List Str)(vs:List V):St:=vs.map some ++ List.replicate (N.length - vs.length) none
def ml (CX:A0)(P:Program)(w:World)(K:Frag)(mg:Str->Option Value)(base:Heap)(N:List Str)(qual:Str)(scope:Scope)(f:Addr)(cd:Value)(A:Around)(outer:List Env)(s:Shared)(H:Hp)(E:XK):Cx where
 prog:=P
 w:=w
 K:=K
 mg:=mg
 base:=base
 A:=A.deeper (envOfC qual scope s.heap.objs.size f cd)
 N:=N
 s₀:=s
 H₀:=H
 env:=envOfC qual scope s.heap.objs.size f cd
 outer:=outer
 stack:=envOfC qual scope s.heap.objs.size f cd :: outer
 ex:=[]
 calm:=true
 fn:=λ_=>true
 pn:=[]
 xe:=λe s'=>wpAny (model P w) (A.deeper (envOfC qual scope s.heap.objs.size f cd)) (leaving (envOfC qual scope s.heap.objs.size f cd) e) (λ_ s''=>CX outer H s E e s'') (λe' s''=>CX outer H s E e' s'') s'
def v9 {sc:Scope}{n:Nat}{x:Str}(h:sc.names.lookup x=some .cell):∃c,(cellsFrom n sc.names []).lookup x=some c:=by
 have q:=PySem.W.cellsFrom_some sc.names n [] (.inl h)
 exact Option.isSome_iff_exists.mp q
def Ai {CX:A0}{P:Program}{w:World}{K:Frag}{mg:Str->Option Value}{base:Heap}{N ps:List Str}{qual:Str}{scope:Scope}{f:Addr}{cd:Value}{A:Around}{outer:List Env}{s s1:Shared}{H:Hp}{E:XK}{us:List Value}{vs:List V}
  (S:aK N ps scope) (hd:A.handled=none) (e0:EG P w K mg base A outer s H) (hl:vs.length=ps.length) (r:Vals vs us)
  (x:InCallC s s.heap.objs.size (bindL (envOfC qual scope s.heap.objs.size f cd).kindOf (ps.zip us) λ_=>none) (cellsFrom (s.heap.objs.size + 1) scope.names []) (bindC (envOfC qual scope s.heap.objs.size f cd).kindOf (ps.zip us) λ_=>none) s1) :
  Inv (ml CX P w K mg base N qual scope f cd A outer s H E) [] (start N vs) H s1:=by
 have hpl:ps.length<=N.length:=by have:=congrArg List.length S.pre;rw[Pe] at this;omega
 obtain⟨h1,tk,rfl,hk⟩:=x.done
 have noA:∀b:Addr,b∉(ml CX P w K mg base N qual scope f cd A outer s H E).ex:=λb z=>absurd (show b∈([]:List Addr) from z) (by simp)
 refine⟨⟨e0.mod,S.kind,rfl,rfl,NQ _,λy z c h1 h2=>?_,λy hy=>?_,λy c _ h=>?_,λ_=>hd,Around.frames_deeper e0.frames,.inr ⟨rfl,rfl⟩,λb z=>absurd z (noA b),e0.bs,e0.bsz,λb _ _=>noA b,λb z=>absurd z (noA b),e0.funs,e0.frf⟩,
  rfl,e0.bare,Un.kept hk,⟨_,x.toInCall.ns,λi y v h1 h2 h3=>?_⟩,λy c h=>⟨_,x.cell y c h⟩,e0.hok.fresh (NQ _),λy c h=>?_,λp hp=>absurd (show p∈([]:List (Addr×Obj)) from hp) (by simp),e0.hok.kept hk,?_⟩
 ·exact name_of_addr x.apart (PM h1) (PM h2)
 ·have hy:scope.names.lookup y=some .cell\/scope.names.lookup y=some .free:=hy
  rcases hy with hy |hy
  ·exact v9 hy
  ·exact absurd rfl (S.nofree _ (PM hy))
 ·exact Qq (x.above y c (PM h))
 ·have hi:i < vs.length:=by
   unfold start at h2
   by_cases hi:i < vs.length
   ·exact hi
   ·rw[Ol (by simpa using hi)] at h2
    rw[Pk] at h2
    split at h2 <;> cases h2
  have ha:vs[i]? =some v:=by
   unfold start at h2
   rw[Oh (by simpa using hi),NW] at h2
   cases e:vs[i]? with
   |none=>rw[e] at h2;cases h2
   |some a=>rw[e] at h2;cases h2;rfl
  obtain⟨u,hu,rv⟩:=r.get ha
  have hp:ps[i]? =some y:=by
   rw[<-S.pre,List.getElem?_take_of_lt (by omega)];exact h1
  have ndP:ps.Nodup:=by rw[<-S.pre];exact S.nd.sublist (List.take_sublist _ _)
  refine⟨u,rv,?_⟩
  rcases S.par y (N6 hp) with k |k
  ·exact .inl ⟨k,tE ndP hp hu k⟩
  ·obtain⟨c,e⟩:=v9 (n:=s.heap.objs.size + 1) k
   refine .inr ⟨.inl k,c,e,?_⟩
   have q:=x.cell y c e
   rw[sJ ndP hp hu (by show scope.names.lookup y≠_;rw[k];decide)] at q
   exact q
 ·exact e0.hok.fresh (Qq (x.above y c (PM h)))
 ·unfold start
  show _=N.length
  rw[Of,NT,PV]
  omega
theorem Hm {CX:A0}{P:Program}{w:World}{K:Frag}{mg:Str->Option Value}{base:Heap}{k:Nat}{f:Addr}{name qual:Str}{params:Arguments}{body:List Stmt}{scope:Scope}{dV kV doc pm cdv ct oc:Value}{an od:Option Addr}
  {osl:Array (Option Value)} {N ps:List Str} {sp:Sp} (lk:K.lookup f=some ⟨oc,od,.func (PySem.W.fnOf name qual params body scope dV kV doc pm an cdv ct),osl⟩) (hcd:PySem.W.codeIn K cdv qual=true) (S:aK N ps scope)
  (len:∀vs H Q E,sp vs H Q E->vs.length=ps.length)
  (hbody:∀(A:Around) (outer:List Env) (s:Shared) (H:Hp) (vs:List V) (Q:VK) (E:XK),fX k (A.deeper (envOfC qual scope s.heap.objs.size f cdv))->sp vs H Q E->
   ∃t,sC (ml CX P w K mg base N qual scope f cdv A outer s H E) body t/\t {nx:=λ_ H'=>Q .non H',rt:=Q} (start N vs) H) :
  gN P w K mg base CX (k + 1) f (PySem.W.fnOf name qual params body scope dV kV doc pm an cdv ct) ps sp:=by
 refine⟨len,λA outer s H args us vs Q E hr e0 hb r hsp=>?_⟩
 have hl:=len _ _ _ _ hsp
 have KX:K.In s.heap:=e0.mod.kin.keeps λb o e=>(e0.bs b o e).1
 have lim:s.heap.NoLimit:=e0.mod.nolimit.keeps λb o e=>(e0.bs b o e).1
 have hkind:∀y∈ps.zip us,scope.names.lookup y.1=some .local\/(scope.names.lookup y.1=some .cell/\((cellsFrom (s.heap.objs.size + 1) scope.names []).lookup y.1).isSome=true):=λ⟨n,v⟩ hy=>by
  rcases S.par n (List.of_mem_zip hy).1 with q |q
  ·exact .inl q
  ·exact .inr ⟨q,PySem.W.cellsFrom_some _ _ _ (.inl q)⟩
 refine codeAny_call_function hr.depth (KX _ _ lk) rfl S.co S.gen rfl (PySem.W.codeRec_of KX hcd) (hb _ _ _ _ ?_)
 refine wpAny_newFunctionEnv_cells S.kind hkind λenv he s1 x=>?_
 subst he
 refine⟨lim.keeps x.toInCall.keep,codeAny_func ?_⟩
 obtain⟨t,ht,hq⟩:=hbody A outer s H vs Q E (hr.deeper _) hsp
 have I:Inv (ml CX P w K mg base N qual scope f cdv A outer s H E) [] (start N vs) H s1:=Ai S hr.hd e0 hl r x
 refine Px (ht [] s1 (start N vs) H _ I hq) (λfl s' hs=>?_) λe s' hs=>hs
 have fin:∀{σ':St} {H':Hp} {v:V} {u:Value},Inv (ml CX P w K mg base N qual scope f cdv A outer s H E) [] σ' H' s'->RelV v u->Q v H'->CE outer P w H s Q u s':=
  λ{σ' H' v u} J rv q=>⟨v,H',J.os,J.bare,J.base,J.hok,rv,q⟩
 cases fl with
 |ret u=>
  obtain⟨v,σ',H',J,rv,q⟩:=hs
  exact fin J rv q
 |next=>
  obtain⟨σ',H',J,q⟩:=hs
  exact fin (v:=V.non) (u:=Value.none) J rfl q
 |brk=>
  obtain⟨_,_,_,q⟩:=hs
  exact False.elim q
 |cont=>
  obtain⟨_,_,_,q⟩:=hs
  exact False.elim q
section
variable {X:Cx}{x:Str}{p pos:Pos}{e:Expr}{es:List Expr}{t:TA}{id T:String}{r:List V->Hp->VK->Prop}
def Nq (r:List V->Hp->VK->Prop)(t:TA):TE:=λσ H Q=>t σ H λvs H1=>r vs H1 Q
def jI (hc:dm X (.builtin id) r)(hg:Gl X x)(hm:X.mg x=none)(hv:bootBuiltins x=some (.builtin id))(ha:PA X (e :: es) t)(hn:x≠"__name__":=by decide)(hdb:(x == ("__debug__":Str))=false:=by decide)
  (he:starEach (e :: es) X.env=(false,eval e X.env) :: starEach es X.env:=by rfl) (hpl:(backTo pos (starEach es X.env)).any (·.1)=false:=by rfl):PE X (.Call (.Name x p) (e :: es) [] pos) (Nq r t):=by
 intro pins s σ H Q I h
 refine wpAny_Call_Name_kw (lj I hg hm hv ?_ hn hdb)
 exact PyProof.Rows.callWith_builtin1 (cM (ha pos pins s σ H _ I h) λus s1 ⟨vs,H1,I1,r1,q1⟩=>hc pins s1 σ H1 vs us Q I1 r1 q1) he hpl
def iy (hc:dm X (.type T) r)(hg:Gl X x)(hm:X.mg x=none)(hv:bootBuiltins x=some (.type T))(ha:PA X (e :: es) t)(hn:x≠"__name__":=by decide)(hdb:(x == ("__debug__":Str))=false:=by decide)
  (he:starEach (e :: es) X.env=(false,eval e X.env) :: starEach es X.env:=by rfl) (hpl:(backTo pos (starEach es X.env)).any (·.1)=false:=by rfl):PE X (.Call (.Name x p) (e :: es) [] pos) (Nq r t):=by
 intro pins s σ H Q I h
 refine wpAny_Call_Name_kw (lj I hg hm hv ?_ hn hdb)
 exact O6 (cM (ha pos pins s σ H _ I h) λus s1 ⟨vs,H1,I1,r1,q1⟩=>hc pins s1 σ H1 vs us Q I1 r1 q1) he hpl
end
end L2
namespace HT
open PySem PyProof.Rows
section
open PySem.SeqAt
open PySem.AutoSeq1 (wpAny_loadPart')
open PySem.MeetsSeq PySem.MeetsSeq2 PySem.MeetsSeq3
end
section
variable {prog:Program}{w:World}{A:Around}{E:Value->Shared->Prop}{s:Shared}
def sR (n d:Nat):Option Int->Nat
 |none=>d
 |some v=>if v < 0 then (v + (n:Int)).toNat else min v.toNat n
def vn (n d:Nat):sR n d none=d:=rfl
def zM (n d k:Nat):sR n d (some (k:Int))=min k n:=by
 show (if (k:Int) < 0 then ((k:Int) + (n:Int)).toNat else min (k:Int).toNat n)=min k n
 rw[NV (by omega),Oj]
end
end HT
namespace L2
open PySem PySem.Spec PyProof.Rows
abbrev TO:=St->Hp->(Option Int->Hp->Prop)->Prop
def PO (X:Cx)(e:Option Expr)(t:TO):Prop:=
 ∀(pins:List (Addr×Obj)) (s:Shared) (σ:St) (H:Hp) (Q:Option Int->Hp->Prop),Inv X pins σ H s->t σ H Q->
  wpAny (model X.prog X.w) X.A (evalPart e X.env) (λu s'=>∃o H',Inv X pins σ H' s'/\IsPart u o/\Q o H') X.xe s
def F0:TO:=λ_ H Q=>Q none H
def K3 (t:TE):TO:=λσ H Q=>t σ H λx H1=>∃i,x=.int i/\Q (some i) H1
theorem intsAre_of {ns:List Int}:∀{us:List Value},Vals (ns.map V.int) us->IntsAre us ns:=by
 induction ns with
 |nil=>intro us r;rw[List.map_nil] at r;cases r;exact .nil
 |cons n ns ih=>
  intro us r
  rw[OE] at r
  cases r with
  |cons r1 r2=>
   obtain⟨t,e⟩:=r1
   subst e
   exact .cons n t (ih r2)
section
variable {X:Cx}{e:Expr}{te:TE}{lo hi:Option Expr}{tl th:TO}{pos p2:Pos}
def GG:PO X none F0:=by
 intro pins s σ H Q I h
 rw[evalPart_none]
 exact NU ⟨none,H,I,.none,h⟩
def Ff (h:PE X e te):PO X (some e) (K3 te):=by
 intro pins s σ H Q I hw
 rw[evalPart_some]
 refine cM (h pins s σ H _ I hw) λu s1 ⟨x,H1,I1,r1,q1⟩=>?_
 obtain⟨i,rfl,q⟩:=q1
 obtain⟨t,rfl⟩:=r1
 exact⟨some i,H1,I1,.int i t,q⟩
def Nk (X:Cx)(r:V->Option Int->Option Int->Hp->VK->Prop):Prop:=
 ∀(pins:List (Addr×Obj)) (s:Shared) (σ:St) (H:Hp) (x:V) (v vl vu:Value) (lo hi:Option Int) (sl:Addr) (Q:VK),Inv X pins σ H s->RelV x v->s.heap.IsSliceOf sl vl vu .none->IsPart vl lo->IsPart vu hi->r x lo hi H Q->
  ∃T id,typeLookup (.type T) "__getitem__"=pure (some (.builtin id))/\s.TypeIs v T/\wpAny (model X.prog X.w) X.A (getItem v (.ref sl)) (EP X pins σ Q) X.xe s
def NC (r:V->Option Int->Option Int->Hp->VK->Prop)(te:TE)(tl th:TO):TE:=λσ H Q=>te σ H λx H1=>tl σ H1 λl H2=>th σ H2 λu H3=>r x l u H3 Q
def De {r:V->Option Int->Option Int->Hp->VK->Prop}(hr:Nk X r)(he:PE X e te)(hl:PO X lo tl)(hu:PO X hi th):PE X (.Subscript e (.Slice lo hi none p2) pos) (NC r te tl th):=by
 intro pins s σ H Q I h
 refine Subscript_ (cM (he pins s σ H _ I h) λv s1 ⟨x,H1,I1,r1,q1⟩=>?_)
 refine wpAny_Slice (cM (hl pins s1 σ H1 _ I1 q1) λvl s2 ⟨l,H2,I2,pl,q2⟩=>cM (hu pins s2 σ H2 _ I2 q2) λvu s3 ⟨u,H3,I3,pu,q3⟩=>?_)
 rw[evalPart_none]
 refine NU ?_
 have I4:Inv X pins σ H3 {s3 with heap:=s3.heap.push {cls:=.type "slice",data:=.fields #[vl,vu,.none]}}:=I3.kept (t':=s3.toks) λb ob q=>NM _ q
 obtain⟨T,id,hT,ht,hg⟩:=hr pins {s3 with heap:=s3.heap.push {cls:=.type "slice",data:=.fields #[vl,vu,.none]}} σ H3 x v vl vu l u s3.heap.objs.size Q I4 r1 (Heap.IsSliceOf.new ..) pl pu q3
 show wpAny (model X.prog X.w) X.A (subscriptTail e (.Slice lo hi none p2) v (.ref s3.heap.objs.size)) (EP X pins σ Q) X.xe {s3 with heap:=s3.heap.push {cls:=.type "slice",data:=.fields #[vl,vu,.none]}}
 exact tail_any (ops:=[.ref s3.heap.objs.size,v]) ht hT hg (by with_unfolding_all rfl)
def yA (xs:List V)(lo hi:Option Int):List V:=(xs.drop (HT.sR xs.length 0 lo)).take (HT.sR xs.length xs.length hi - HT.sR xs.length 0 lo)
def wa (xs:List V)(lo hi:Option Int):(yA xs lo hi).length<=xs.length:=by
 unfold yA
 rw[Pe,List.length_drop]
 omega
end
def pQ (n:Nat)(i:Int):Option Nat:=if 0<=i then (if i < n then some i.toNat else none) else if -(n:Int)<=i then some (i + n).toNat else none
def ik {α:Type}(xs:List α)(i:Int):Option α:=(pQ xs.length i).bind λj=>xs[j]?
def zF {n:Nat}{i:Int}{j:Nat}(h:pQ n i=some j):seqIndex? i n=some j/\j < n/\ -(n:Int)<=i/\i < n:=by
 unfold pQ at h
 by_cases h0:0<=i
 ·rw[NN h0] at h
  by_cases h1:i < n
  ·rw[NN h1] at h
   have e:i.toNat=j:=Option.some.inj h
   exact⟨by rw[seqIndex_of h0 h1,e],by omega,by omega,h1⟩
  ·rw[NV h1] at h;cases h
 ·rw[NV h0] at h
  by_cases h1: -(n:Int)<=i
  ·rw[NN h1] at h
   have e:(i + n).toNat=j:=Option.some.inj h
   exact⟨by rw[seqIndex_neg (by omega) h1,e],by omega,h1,by omega⟩
  ·rw[NV h1] at h;cases h
theorem ur {α:Type}{xs:List α}{i:Int}{v:α}(h:ik xs i=some v):∃j,seqIndex? i xs.length=some j/\xs[j]? =some v/\j < xs.length/\ -(xs.length:Int)<=i/\i < xs.length:=by
 unfold ik at h
 cases e:pQ xs.length i with
 |none=>rw[e] at h;cases h
 |some j=>
  rw[e] at h
  obtain⟨h1,h2,h3,h4⟩:=zF e
  exact⟨j,h1,h,h2,h3,h4⟩
def ko {α:Type}{xs:List α}{j:Nat}{v:α}(h:xs[j]? =some v):ik xs (j:Int)=some v:=by
 have hj:j < xs.length:=(N0.mp h).1
 have e:pQ xs.length (j:Int)=some j:=by
  unfold pQ
  rw[NN (by omega),NN (by omega)];simp
 unfold ik;rw[e];exact h
def zf (b:Expr):Prop:=∀o i,subscripted b false o i=operate [o,i] (getItem o i)
def CQ (X:Cx)(r:R2):Prop:=
 ∀(value slice:Expr) (pins:List (Addr×Obj)) (s:Shared) (σ:St) (H:Hp) (x y:V) (v u:Value) (Q:VK),Inv X pins σ H s->RelV x v->RelV y u->r x y H Q->
  subscripted slice false v u=operate [v,u] (getItem v u)->wpAny (model X.prog X.w) X.A (subscriptTail value slice v u) (EP X pins σ Q) X.xe s
def Nx (X:Cx)(id:String)(r:V->List V->Hp->VK->Prop):Prop:=
 ∀(pins:List (Addr×Obj)) (s:Shared) (σ:St) (H:Hp) (x:V) (xs:List V) (v:Value) (us:List Value) (Q:VK),Inv X pins σ H s->RelV x v->Vals xs us->r x xs H Q->
  wpAny (model X.prog X.w) X.A (call (.builtin id) (v :: us)) (EP X pins σ Q) X.xe s
section
variable {X:Cx}{a b:Expr}{ta tb:TE}{pos:Pos}
def CQ.or {r r':R2}(h:CQ X r)(h':CQ X r'):CQ X (λx y H Q=>r x y H Q\/r' x y H Q):=by
 intro value slice pins s σ H x y v u Q I rx ry q hs
 rcases q with q |q
 ·exact h value slice pins s σ H x y v u Q I rx ry q hs
 ·exact h' value slice pins s σ H x y v u Q I rx ry q hs
def mr {r:R2}(hr:CQ X r)(ha:PE X a ta)(hb:PE X b tb)(hs:zf b):PE X (.Subscript a b pos) (Lx r ta tb):=by
 intro pins s σ H Q I h
 exact Subscript_ (IM ha hb I h λv u s2 x y H2 I2 rx ry q=>hr a b pins s2 σ H2 x y v u Q I2 rx ry q (hs _ _))
def Ih (K:Frag):R2:=λx y H Q=>∃p xs i v,x=.ref p/\y=.int i/\gY K H p xs/\ik xs i=some v/\Q v H
def JW (K:Frag):R2:=λx y H Q=>∃p xs i v,x=.ref p/\y=.int i/\fV K H p xs/\ik xs i=some v/\Q v H
def K7:R2:=λx y H Q=>∃z i c,x=.str z/\y=.int i/\z.length<=sizeLine/\ik z.cps.toList i=some c/\Q (.str ⟨#[c]⟩) H
def hZ:CQ X (Ih X.K):=by
 intro value slice pins s σ H x y v u Q I rx ry h hs
 obtain⟨p,xs,i,z,rfl,rfl,hq,he,q⟩:=h
 cases rx
 obtain⟨t,rfl⟩:=ry
 obtain⟨its,r,pl,hz⟩:=I.list hq
 obtain⟨j,h1,h2,h3,h4,h5⟩:=ur he
 obtain⟨w,ew,rw'⟩:=r.get h2
 have hl:=r.length
 have hn:=oB
 have fin:EP X pins σ Q w s:=⟨z,H,I,rw',q⟩
 by_cases h0:0<=i
 ·have hj:i.toNat=j:=by
   rw[seqIndex_of h0 h5] at h1
   exact Option.some.inj h1
  exact item_listR pl.isList h0 (by omega) (by rw[hj];simpa using ew) fin hs
 ·have hj:(i + (its.toArray.size:Int)).toNat=j:=by
   rw[seqIndex_neg (by omega) h4] at h1
   rw[Od,<-hl]
   exact Option.some.inj h1
  exact subscriptTail_builtinR (x:=w) pl.isList.typeIs slot_list_getitem.lookup
   (wpAny_getItem_list_neg (Q:=λr s'=>r=w/\EP X pins σ Q r s') pl.isList (by omega) (by rw[Od] <;> omega) (by omega) (by rw[hj];simpa using ew) ⟨rfl,fin⟩) hs
def IB:CQ X (JW X.K):=by
 intro value slice pins s σ H x y v u Q I rx ry h hs
 obtain⟨p,xs,i,z,rfl,rfl,hq,he,q⟩:=h
 cases rx
 obtain⟨t,rfl⟩:=ry
 obtain⟨its,r,pl,hz⟩:=I.tuple hq
 obtain⟨j,h1,h2,h3,h4,h5⟩:=ur he
 obtain⟨w,ew,rw'⟩:=r.get h2
 have hl:=r.length
 have hn:=oB
 have fin:EP X pins σ Q w s:=⟨z,H,I,rw',q⟩
 exact subscriptTail_builtinR (x:=w) pl.typeIs slot_tuple_getitem.lookup
  (getItem_tuple (j:=j) (Q:=λr s'=>r=w/\EP X pins σ Q r s') pl (by omega) (by omega) (by rw[Od,<-hl];exact h1) (by simpa using ew) ⟨rfl,fin⟩) hs
def Hz:CQ X K7:=by
 intro value slice pins s σ H x y v u Q I rx ry h hs
 obtain⟨z,i,c,rfl,rfl,hz,he,q⟩:=h
 obtain⟨t,rfl⟩:=rx
 obtain⟨t',rfl⟩:=ry
 obtain⟨j,h1,h2,h3,h4,h5⟩:=ur he
 have hl:z.cps.toList.length=z.length:=by simp[Str.length]
 rw[hl] at h1 h4 h5
 have hn:=oB
 exact tail_any (typeIs_str s z t) slot_str_getitem.lookup (getItem_str (c:=c) (by
  have e1:decide (i < -(2 ^ 63:Int))=false:=NZ (by omega)
  have e2:decide (i>=2 ^ 63)=false:=NZ (by omega)
  rw[e1,e2,Bool.or_false]) (by rw[h1];simpa using h2) ⟨.str ⟨#[c]⟩,H,I.tok _,⟨_,rfl⟩,q⟩) hs
def Ng (K:Frag):R2:=λx y H Q=>Ih K x y H Q\/JW K x y H Q\/K7 x y H Q
def aJ:CQ X (Ng X.K):=hZ.or (IB.or Hz)
def xB (its:List Value)(n j:Nat)(u:Value):Obj.mapSeq (·.setIfInBounds j u) {cls:=.type "list",data:=.seq its.toArray n}={cls:=.type "list",data:=.seq (its.set j u).toArray n}:=by
 simp[Obj.mapSeq]
def Inv.lst {pins:List (Addr×Obj)}{σ:St}{H:Hp}{s:Shared}{p:Addr}{xs:List V}(I:Inv X pins σ H s)(h:H p=some (.lst xs)) :
  ∃(its:List Value) (n:Nat),Vals xs its/\s.heap.get? p=some {cls:=.type "list",data:=.seq its.toArray n}/\xs.length<=sizeLine:=by
 obtain⟨z,its,n,r,e⟩:=I.hok p _ h
 exact⟨its,n,r,e,z⟩
def Inv.lstUpd {pins:List (Addr×Obj)}{σ:St}{H:Hp}{s:Shared}{p:Addr}{xs ys:List V}{its its':List Value}{n n':Nat}{f:Obj->Obj}(I:Inv X pins σ H s)(h:H p=some (.lst xs))
  (ho:s.heap.get? p=some {cls:=.type "list",data:=.seq its.toArray n}) (hf:f {cls:=.type "list",data:=.seq its.toArray n}={cls:=.type "list",data:=.seq its'.toArray n'}) (r:Vals ys its') (hz:ys.length<=sizeLine) (t:Nat) :
  Inv X pins σ (upd H p (.lst ys)) {s with heap:=s.heap.update p f,toks:=t}:=by
 have e:(s.heap.update p f).get? p=some {cls:=.type "list",data:=.seq its'.toArray n'}:=by
  rw[OK f ho (by rw[hf] <;> rfl),hf]
 refine I.write (x:=p) (e:=p) (by rw[h];trivial) (.inl rfl) (λb u hb q=>(OZ _ _ (Ne.symm hb)).trans q) ⟨_,e⟩ ?_
 exact⟨hz,its',n',r,e⟩
def JV:V->V->V->Hp->(Hp->Prop)->Prop:=λo i v H Q=>∃p xs k j,o=.ref p/\i=.int k/\H p=some (.lst xs)/\pQ xs.length k=some j/\Q (upd H p (.lst (xs.set j v)))
def set_list:tI X JV:=by
 intro pins s σ H o i v ov iv u Q I ro ri rv h
 obtain⟨p,xs,k,j,rfl,rfl,hp,hj,q⟩:=h
 cases ro
 obtain⟨t,rfl⟩:=ri
 obtain⟨its,n,r,ho,hz⟩:=I.lst hp
 obtain⟨h1,h2,h3,h4⟩:=zF hj
 have hl:=r.length
 have hn:=oB
 have I':Inv X pins σ (upd H p (.lst (xs.set j v))) {s with heap:=s.heap.update p (Obj.mapSeq (·.setIfInBounds j u))}:=
  I.lstUpd hp ho (xB its n j u) (r.set rv j) (by rw[OW];exact hz) s.toks
 by_cases h0:0<=k
 ·have hk:k.toNat=j:=by
   rw[seqIndex_of h0 h4] at h1
   exact Option.some.inj h1
  exact PySem.W.ki_setAt ho h0 (by omega) (by rw[Od,<-hl];exact h4) (by rw[hk];exact⟨_,I',q⟩)
 ·have hk:(k + (its.toArray.size:Int)).toNat=j:=by
   rw[seqIndex_neg (by omega) h3] at h1
   rw[Od,<-hl]
   exact Option.some.inj h1
  exact PySem.W.ki_setBack ho (by omega) (by rw[Od,<-hl];exact h3) (by omega) (by rw[hk];exact⟨_,I',q⟩)
def tY (lo hi:Option Int)(n:Nat):(sliceBounds lo hi none n).1=((HT.sR n 0 lo:Nat):Int)/\(sliceBounds lo hi none n).2.1=((HT.sR n n hi:Nat):Int)/\(sliceBounds lo hi none n).2.2=1:=by
 refine⟨?_,?_,rfl⟩
 ·cases lo with
  |none=>simp[sliceBounds,HT.sR]
  |some i=>
   simp only[sliceBounds,HT.sR,Option.getD_none,show (1:Int) > 0 by decide,OP]
   by_cases h:i < 0
   ·simp only[h,OP] <;> omega
   ·simp only[h,OC] <;> omega
 ·cases hi with
  |none=>simp[sliceBounds,HT.sR]
  |some i=>
   simp only[sliceBounds,HT.sR,Option.getD_none,show (1:Int) > 0 by decide,OP]
   by_cases h:i < 0
   ·simp only[h,OP] <;> omega
   ·simp only[h,OC] <;> omega
def rA (its:List Value)(lo hi:Option Int):slicePick its.toArray lo hi none=((its.drop (HT.sR its.length 0 lo)).take (HT.sR its.length its.length hi - HT.sR its.length 0 lo)).toArray:=by
 obtain⟨h1,h2,h3⟩:=tY lo hi its.toArray.size
 unfold slicePick
 rw[h1,h2,h3]
 simp only[sliceRange_one,pick_run,Od] <;> rfl
def MB (K:Frag):V->Option Int->Option Int->Hp->VK->Prop:=λx lo hi H Q=>∃a xs,x=.ref a/\gY K H a xs/\∀p,H p=none->Q (.ref p) (upd H p (.lst (yA xs lo hi)))
def FQ:Nk X (MB X.K):=by
 intro pins s σ H x v vl vu lo hi sl Q I rx hs pl pu h
 obtain⟨a,xs,rfl,hx,q⟩:=h
 cases rx
 obtain⟨its,r,ht,hz⟩:=I.list hx
 have hlen:=r.length
 refine⟨"list",_,slot_list_getitem.lookup,ht.isList.typeIs,?_⟩
 refine wpAny_getItem_list_slice ht.isList hs pl pu .none (by simp) ?_ (by rw[Od] <;> omega)
 rw[rA,<-hlen]
 refine⟨.ref s.heap.objs.size,_,I.laid (t':=s.toks) (o:=.lst (yA xs lo hi)) (λb ob q=>NM _ q) (NQ _) ?_,rfl,q _ (I.hok.fresh (NQ _))⟩
 exact⟨OU (wa xs lo hi) hz,_,0,(r.drop (HT.sR xs.length 0 lo)).take (HT.sR xs.length xs.length hi - HT.sR xs.length 0 lo),N3 _ rfl⟩
def ux:dm X (.type "list") (λxs H Q=>∃p ys,xs= [.ref p]/\(gY X.K H p ys\/fV X.K H p ys)/\∀l,H l=none->Q (.ref l) (upd H l (.lst ys))):=by
 intro pins s σ H xs us Q I r h
 obtain⟨p,ys,rfl,hq,q⟩:=h
 obtain⟨u,rfl,rx⟩:=vals1 r
 cases rx
 have fin:∀(its:List Value),Vals ys its->ys.length<=sizeLine->∀(h':Heap) (c':Nat),(∀b o',s.heap.get? b=some o'->h'.get? b=some o')->
   h'.get? s.heap.objs.size=some {cls:=.type "list",dict:=none,data:=.seq its.toArray c',slots:=#[]}->EP X pins σ Q (.ref s.heap.objs.size) {s with heap:=h'}:=λits r' hz h' c' kp e=>
  ⟨.ref s.heap.objs.size,_,I.laid (t':=s.toks) kp (NQ _) (show c4 X.prog X.w _ h' _ (.lst ys) from⟨hz,its,c',r',e⟩),rfl,q _ (I.hok.fresh (NQ _))⟩
 rcases hq with hq |hq
 ·obtain⟨its,r',pl,hz⟩:=I.list hq
  have hlen:=r'.length
  obtain⟨o,ho,hc,n,hd⟩:=pl.isList
  exact call_list_seq p (.inl rfl) ho hc hd (λh' c' kp e=>fin its r' hz h' c' kp e) (by simp only[Od] <;> omega)
 ·obtain⟨its,r',pl,hz⟩:=I.tuple hq
  have hlen:=r'.length
  obtain⟨o,ho,hc,n,hd⟩:=pl
  exact call_list_seq p (.inr rfl) ho hc hd (λh' c' kp e=>fin its r' hz h' c' kp e) (by simp only[Od] <;> omega)
def c9:dm X (.type "tuple") (λxs H Q=>∃p ys,xs= [.ref p]/\((gY X.K H p ys/\∀l,H l=none->Q (.ref l) (upd H l (.tup ys)))\/(fV X.K H p ys/\Q (.ref p) H))):=by
 intro pins s σ H xs us Q I r h
 obtain⟨p,ys,rfl,h⟩:=h
 obtain⟨u,rfl,rx⟩:=vals1 r
 cases rx
 rcases h with⟨hq,q⟩ | ⟨hq,q⟩
 ·obtain⟨its,r',pl,hz⟩:=I.list hq
  have hlen:=r'.length
  refine call_tuple_list pl.isList (λh' kp=>?_) (by simp only[Od] <;> omega)
  have I1:Inv X pins σ H {s with heap:=h'}:=I.kept (t':=s.toks) kp
  have I2:Inv X pins σ (upd H h'.objs.size (.tup ys)) {s with heap:=h'.push {cls:=.type "tuple",data:=.seq its.toArray}}:=
   I1.laid (t':=s.toks) (λb o e=>NM _ e) (NQ _) (show c4 X.prog X.w _ _ _ (.tup ys) from⟨hz,its,r',tQ.new _ _⟩)
  exact⟨.ref h'.objs.size,_,I2,rfl,q _ (I1.hok.fresh (NQ _))⟩
 ·obtain⟨its,r',pl,hz⟩:=I.tuple hq
  exact call_tuple_same pl ⟨.ref p,H,I,rfl,q⟩
def Nj (K:Frag)(T:String)(x:V)(H:Hp):Prop:=match x with
 | .str _=>T="str"
 | .int _=>T="int"
 | .ref p=>(T="list"/\∃xs,gY K H p xs)\/(T="tuple"/\∃o,K.lookup p=some o/\o.cls=.type "tuple"/\o.dict=none)\/
   (T="dict"/\((∃kvs,H p=some (.dK kvs))\/∃kvs,H p=some (.dT kvs)))\/(T="set"/\∃S n,H p=some (.set S n))
 |_=>False
theorem Jq {pins:List (Addr×Obj)}{σ:St}{H:Hp}{s:Shared}{T:String}{x:V}{v:Value}(I:Inv X pins σ H s)(r:RelV x v)(ty:Nj X.K T x H) :
  s.TypeIs v T/\∀a,v=.ref a->∃ob,s.heap.get? a=some ob/\ob.dict=none:=by
 cases x with
 |str z=>
  obtain⟨t,rfl⟩:=r
  cases (show T="str" from ty)
  exact⟨typeIs_str s z t,λ_ e=>nomatch e⟩
 |int i=>
  obtain⟨t,rfl⟩:=r
  cases (show T="int" from ty)
  exact⟨typeIs_int s i t,λ_ e=>nomatch e⟩
 |ref p=>
  cases r
  rcases ty with⟨rfl,xs,hq⟩ | ⟨rfl,o,hk,hc,hd⟩ | ⟨rfl,hk⟩ | ⟨rfl,S,n,hk⟩
  ·obtain⟨its,_,pl,_⟩:=I.list hq
   refine⟨pl.isList.typeIs,λa e=>?_⟩
   cases e
   obtain⟨o,n,e,c,hd,_⟩:=pl
   exact⟨o,e,hd⟩
  ·refine⟨⟨o,I.kIn p o hk,hc⟩,λa e=>?_⟩
   cases e
   exact⟨o,I.kIn _ o hk,hd⟩
  ·have z:∃o,s.heap.get? p=some o/\o.ExactDict:=by
    rcases hk with⟨kvs,hk⟩ | ⟨kvs,hk⟩
    ·obtain⟨_,_,_,_,o,_,_,e,ex,_⟩:=I.hok p _ hk
     exact⟨o,e,ex⟩
    ·obtain⟨_,_,_,_,o,_,_,e,ex,_⟩:=I.hok p _ hk
     exact⟨o,e,ex⟩
   obtain⟨o,e,ex⟩:=z
   refine⟨⟨o,e,ex.1⟩,λa e2=>?_⟩
   cases e2
   exact⟨o,e,ex.2.1⟩
  ·obtain⟨o,_,_,_,e,ex,_⟩:=I.hok p _ hk
   refine⟨⟨o,e,ex.1⟩,λa e2=>?_⟩
   cases e2
   exact⟨o,e,ex.2.1⟩
 |_=>exact False.elim ty
def ND (K:Frag)(T:String)(r:V->List V->Hp->VK->Prop)(to:TE)(t:TA):TE:=λσ H Q=>to σ H λx H1=>Nj K T x H1/\t σ H1 λxs H2=>r x xs H2 Q
variable {o e:Expr}{es:List Expr}{to:TE}{t:TA}{name:Str}{apos cpos:Pos}{T id:String}{r:V->List V->Hp->VK->Prop}
def zz (pa:PlainAttrs T)(slot:Slot T name id)(hty:typeOf (.builtin id)=pure (.type "method_descriptor"))(hm:Nx X id r)(ho:PE X o to)(ha:PA X (e :: es) t)
  (hbase:attributeBase o name X.env (eval o X.env)=eval o X.env:=by rfl)
  (hfew:((backTo cpos (starEach (e :: es) X.env)).all (λx=> !x.1) && (backToKw cpos (keywordEach [] X.env)).all (λx=>x.1.isSome)
   && decide ((e :: es).length + ([]:List Keyword).length + (if ([]:List Keyword).isEmpty then 0 else 1) < 30))=true:=by rfl)
  (hline:(apos.endLine == cpos.line)=true:=by rfl) (hs:starEach (e :: es) X.env=(false,eval e X.env) :: starEach es X.env:=by rfl) (hplain:(backTo cpos (starEach es X.env)).any (·.1)=false:=by rfl) :
  PE X (.Call (.Attribute o name apos) (e :: es) [] cpos) (ND X.K T r to t):=by
 intro pins s σ H Q I h
 refine wpAny_Call_method_late hbase hfew hline rfl (cM (ho pins s σ H _ I h) λv s1 ⟨x,H1,I1,r1,ty,q1⟩=>?_)
 obtain⟨h1,h2⟩:=Jq I1 r1 ty
 refine⟨T,id,pa,slot,hty,h1,h2,?_⟩
 have hA:=ha cpos pins s1 σ H1 _ I1 q1
 rw[hs] at hA ⊢
 refine Calls.callWith_builtin (by show (false || (backTo cpos (starEach es X.env)).any (·.1))=false;rw[hplain] <;> rfl) (Calls.evalArgs_plain ?_)
 exact cM hA λus s2 ⟨vs,H2,I2,r2,q2⟩=>hm pins s2 σ H2 x vs v us Q I2 r1 r2 q2
end
def Kz (X:Cx)(id:String)(r:V->List V->Hp->VK->Prop):Prop:=
 ∀(pins:List (Addr×Obj)) (s:Shared) (σ:St) (H:Hp) (x:V) (xs:List V) (v:Value) (us:List Value) (Q:VK),Inv X pins σ H s->RelV x v->Vals xs us->r x xs H Q->
  wpAny (model X.prog X.w) X.A (call (.builtin id) (v :: us)) (EP X pins σ Q) X.xe s
theorem Vals.one:∀{x:V} {us:List Value},Vals [x] us->∃u,us= [u]/\RelV x u
 |_,_,.cons r .nil=>⟨_,rfl,r⟩
theorem Vals.eraseIdx:∀{xs:List V} {us:List Value} (i:Nat),Vals xs us->Vals (xs.eraseIdx i) (us.eraseIdx i)
 |_,_,_,.nil=>.nil
 |_,_,0,.cons _ t=>t
 |_,_,i + 1,.cons r t=>.cons r (Vals.eraseIdx i t)
theorem Vals.rep {xs:List V}{us:List Value}(h:Vals xs us):∀k:Nat,Vals (List.replicate k xs).flatten (List.replicate k us).flatten
 | 0=>.nil
 |k + 1=>by
  rw[OH,OH,Pl,Pl]
  exact Vals.append h (Vals.rep h k)
theorem tv {α:Type}:∀(l:List α) (i:Nat),(l.eraseIdx i).length<=l.length
 | [],_=>NQ _
 |_ :: _,0=>Nat.le_succ _
 |_ :: r,i + 1=>Nat.succ_le_succ (tv r i)
theorem foldl_rep (its:List Value):∀(k:Nat) (acc:List Value),
  List.foldl (λx1 x2=>x1 ++ x2) acc.toArray (List.replicate k its.toArray)=(acc ++ (List.replicate k its).flatten).toArray
 | 0,acc=>by simp
 |k + 1,acc=>by
  have e:acc.toArray ++ its.toArray=(acc ++ its).toArray:=by simp
  have e2:(acc ++ its) ++ (List.replicate k its).flatten=acc ++ (List.replicate (k + 1) its).flatten:=by
   rw[OH,Pl,OS]
  rw[<-e2,<-foldl_rep its k (acc ++ its),<-e,OH,Qx]
section
variable {X:Cx}{pins:List (Addr×Obj)}{σ:St}{H:Hp}{s:Shared}{l b:Addr}{xs ys zs:List V}
def Inv.lset {its its':List Value}{n:Nat}{f:Array Value->Array Value}{t':Nat}(I:Inv X pins σ H s)(hH:H l=some (.lst xs))
  (e:s.heap.get? l=some {cls:=.type "list",data:=.seq its.toArray n}) (hf:f its.toArray=its'.toArray) (hv:Vals ys its') (hz:ys.length<=sizeLine) :
  Inv X pins σ (upd H l (.lst ys)) {s with heap:=s.heap.update l (Obj.mapSeq f),toks:=t'}:=by
 have q:=PySem.IsL.update e f
 rw[hf] at q
 refine I.write (x:=l) (e:=l) (by rw[hH];exact trivial) (.inl rfl) (λb' u hb hu=>(OZ s.heap (Obj.mapSeq f) (Ne.symm hb)).trans hu) ⟨_,q⟩ ?_
 exact⟨hz,its',_,hv,q⟩
def Inv.lnew {its:List Value}{t':Nat}(I:Inv X pins σ H s)(hv:Vals ys its)(hz:ys.length<=sizeLine) :
  Inv X pins σ (upd H s.heap.objs.size (.lst ys)) {s with heap:=s.heap.push {cls:=.type "list",data:=.seq its.toArray},toks:=t'}:=
 I.laid (λ_ _ q=>NM _ q) (NQ _) ⟨hz,its,0,hv,N3 _ rfl⟩
def Inv.fresh (I:Inv X pins σ H s):H s.heap.objs.size=none:=I.hok.fresh (NQ _)
def Inv.lstM (I:Inv X pins σ H s)(hH:H l=some (.lst xs)):xs.length<=sizeLine/\∃(its:List Value) (n:Nat),Vals xs its/\xs.length=its.length/\s.heap.get? l=some {cls:=.type "list",data:=.seq its.toArray n}:=by
 obtain⟨z,its,n,r,e⟩:=I.hok l _ hH
 exact⟨z,its,n,r,r.length,e⟩
def w8 {n:Nat}(h:n<=sizeLine):Builtin.List.listTooLong n=false:=by
 unfold Builtin.List.listTooLong
 exact NZ (by omega)
end
section
variable {X:Cx}
def Fl:V->List V->Hp->VK->Prop:=λx vs H Q=>∃l xs y,x=.ref l/\vs= [y]/\H l=some (.lst xs)/\xs.length < sizeLine/\Q .non (upd H l (.lst (xs ++ [y])))
def ot:Kz X "list.append" Fl:=by
 intro pins s σ H x vs v us Q I rx rv h
 obtain⟨l,xs,y,rfl,rfl,hH,hz,q⟩:=h
 cases rx
 obtain⟨u,rfl,ru⟩:=rv.one
 obtain⟨z,its,n,r,hl,e⟩:=I.lstM hH
 refine call_meets F.slot_list_append ⟨_,e,rfl⟩ F.entry_list_append (F.args_list_append_2 _ _) (PySem.list_append l its.toArray n u (by rw[Od];omega)) ⟨e,?_⟩
 refine⟨.non,_,I.lset (its':=its ++ [u]) hH e (by simp) (r.append (.cons ru .nil)) ?_,rfl,q⟩
 rw[Of,O3]
 omega
def Jy:V->List V->Hp->VK->Prop:=λx vs H Q=>∃l xs i k y,x=.ref l/\vs= [.int i]/\H l=some (.lst xs)/\ -(2 ^ 63)<=i/\i < 2 ^ 63/\seqIndex? i xs.length=some k/\xs[k]? =some y/\Q y (upd H l (.lst (xs.eraseIdx k)))
def Dc:Kz X "list.pop" Jy:=by
 intro pins s σ H x vs v us Q I rx rv h
 obtain⟨l,xs,i,k,y,rfl,rfl,hH,h1,h2,hk,hy,q⟩:=h
 cases rx
 obtain⟨u,rfl,ru⟩:=rv.one
 obtain⟨t,rfl⟩:=ru
 obtain⟨z,its,n,r,hl,e⟩:=I.lstM hH
 obtain⟨w,hw,rw'⟩:=r.get hy
 refine call_meets F.slot_list_pop ⟨_,e,rfl⟩ F.entry_list_pop (F.args_list_pop_2 _ _)
  (MeetsSeq.list_pop_at l its.toArray n i t k w (fitsIndex_both h1 h2) (by rw[Od,<-hl];exact hk) (by rw[<-PB];exact hw) (by rw[Od];omega)) ⟨e,?_⟩
 refine⟨y,_,I.lset (its':=its.eraseIdx k) hH e ?_ (r.eraseIdx k) ?_,rw',q⟩
 ·show its.toArray.eraseIdxIfInBounds k=(its.eraseIdx k).toArray
  rw[List.eraseIdxIfInBounds_toArray]
 ·have:=tv xs k
  omega
def L6:R2:=λx y H Q=>∃l k xs,x=.ref l/\y=.int k/\H l=some (.lst xs)/\ -(2 ^ 63)<=k/\k < 2 ^ 63/\xs.length * k.toNat<=sizeLine/\
 ∀p,H p=none->Q (.ref p) (upd H p (.lst (List.replicate k.toNat xs).flatten))
theorem len_rep {α:Type}(xs:List α)(k:Nat):(List.replicate k xs).flatten.length=k * xs.length:=by
 induction k with
 |zero=>simp
 |succ k ih=>rw[OH,Pl,Of,ih,Nat.succ_mul,Nat.add_comm]
def CF:mD X (binaryOp .Mult) L6:=by
 intro pins s σ H x y v u Q I rx ry h
 obtain⟨l,k,xs,rfl,rfl,hH,h1,h2,hz,q⟩:=h
 cases rx
 obtain⟨t,rfl⟩:=ry
 obtain⟨z,its,n,r,hl,e⟩:=I.lstM hH
 have hlen:its.toArray.size * k.toNat<=sizeLine:=by rw[Od,<-hl];exact hz
 have hcap:¬its.toArray.size * k.toNat > (2 ^ 63 - 1) / 8:=by
  have:(sizeLine:Nat)<=(2 ^ 63 - 1) / 8:=by decide
  omega
 have hfit:¬(!Builtin.List.listFitsIndex k)=true:=by
  rw[fitsIndex_both h1 h2]
  exact Og
 have hlong:¬Builtin.List.listTooLong (its.toArray.size * k.toNat)=true:=by
  rw[w8 hlen]
  exact Og
 have hnew:List.foldl (λx1 x2=>x1 ++ x2) #[] (List.replicate (if its.toArray.isEmpty=true then 0 else k.toNat) its.toArray)=(List.replicate k.toNat its).flatten.toArray:=by
  have f0:∀m:Nat,List.foldl (λx1 x2=>x1 ++ x2) #[] (List.replicate m its.toArray)=(List.replicate m its).flatten.toArray:=λm=>by
   have:=foldl_rep its m []
   rw[List.nil_append] at this
   exact this
  rw[f0]
  cases its with
  |nil=>simp
  |cons a r'=>rw[NV (by simp)]
 refine wpAny_binaryOp_repeat_ref (T:="list") (U:="int") (by decide) ⟨_,e,rfl⟩ (λs'=>typeIs_int s' k t) noFill_list_mul F.fills_int_mul F.slot_int_rmul repeat_list F.slot_int_index.lookup
  (call_meets F.slot_int_rmul (typeIs_int s k t) F.entry_int_rmul (F.args_int_rmul_2 _ _) (int___rmul___int_list k t l its.toArray n)
   ⟨e,rfl,⟨_,e,rfl⟩,call_meets F.slot_list_mul ⟨_,e,rfl⟩ F.entry_list_mul (F.args_list_mul_2 _ _) (AutoListH.list___mul___list_int_3 l its.toArray n k t hfit hcap hlong) ⟨e,?_⟩⟩)
 rw[hnew]
 exact⟨.ref _,_,I.lnew (t':=s.toks) (r.rep k.toNat) (by rw[len_rep,Nat.mul_comm];exact hz),rfl,q _ I.fresh⟩
end
end L2
namespace Att
open PySem PySem.W PySem.Calls PyProof.Rows
theorem pk {P:Params}{h:Heap}:∀(ns:List Int) (vs:List Value),WellAll P h vs (ns.map WData.int)->IntsAre vs ns:=by
 intro ns
 induction ns with
 |nil=>
  intro vs w
  rw[List.map_nil] at w
  cases w
  exact .nil
 |cons n ns ih=>
  intro vs w
  rw[OE] at w
  cases w with
  |cons a b=>
   cases a
   exact .cons _ _ (ih _ b)
theorem Bq {l:OpenLaw}{n:Nat}(hn:l.most=some n){P:Params}{h:Heap}{args:List WData}{vals:List Value}
  (hpre:l.row.toRowW.claim.pre args=true) (hwl:WellAll P h vals args) :
  ∃a vs ns,vals= [Value.ref a]/\args= [WData.list (ns.map WData.int)]/\h.get? a=some {cls:=.type "list",data:=.seq vs.toArray}/\IntsAre vs ns/\ns.length<=n:=by
 have hsh:WShape.hasAll [] args [.list .int]=true:=(pre_splitW hpre).1
 have hc:l.pre.holds [] {args:=args}=true:=(pre_splitW hpre).2
 obtain⟨d,r,rfl,h1,h2⟩:=hasAllW_cons hsh
 obtain rfl:=hasAllW_nil h2
 obtain⟨xs,rfl,h3⟩:=hasW_list h1
 obtain⟨ns,rfl⟩:=items_int h3
 have hlen:ns.length<=n:=by
  unfold OpenLaw.pre at hc
  have h4:(WTm.not (.lt (.lit (.int (n:Int))) (.len (.arg 0)))).holds [] {args:=[.list (ns.map .int)]}=true:=by
   have h4:=(holds_andW hc).1
   rw[hn] at h4
   exact h4
  have h5:=condW_of h4 (w_not (w_lt w_lit (w_len_list (w_arg rfl))))
  rw[NT] at h5
  refine Nat.le_of_not_lt λq=>?_
  have q':(n:Int) < ((ns.length:Nat):Int):=by omega
  first
   | (rw[NS q'] at h5;exact absurd h5 (by decide))
   | (simp at h5;omega)
 cases hwl with
 |cons w1 w2=>
  cases w2
  cases w1 with
  |list ho hall=>exact⟨_,_,ns,rfl,rfl,ho,pk ns _ hall,hlen⟩
def Ba (l:OpenLaw)(args:List WData):l.row.toRowW.claim.post args (.bool true) args=true:=
 postW_of (r:=l.row.toRowW) (X:=(true == true))
  (show WShape.has [] (.bool true) .bool=true by first |rfl |decide |simp[WShape.has,WShape.arms,WShape.armsAll])
  (show (WTm.eq .res (.lit (.bool true))).value [] {args:=args,res:=some (.bool true),after:=args}=some (.bool (true == true)) from w_eq_bool (w_res rfl) w_lit) rfl
def wA {l:OpenLaw}{n:Nat}{q:Program}{loose:List Str}{XP:(Str->Option Value)->Heap->Prop}{YP:World->Heap->Prop}{d:DefRec}
  (hn:l.most=some n) (hdf:d.params.defaults= [])
  (call:∀(w:World) (s₀ s₁:Shared) (mg mb:Str->Option Value) (fa:Addr) (o:Obj) (pm cd doc:Value) (a:Addr) (vs:List Value) (ns:List Int),
   Ground q loose [] XP w s₀ mg mb s₁.heap->YP w s₁.heap->
   s₁.heap.get? fa=some o->o.data=.func (docDef d.name d.params d.body d.scope pm cd doc)->s₁.heap.CodeRec cd d.name->mg d.name=some (.ref fa)->
   s₁.heap.get? a=some {cls:=.type "list",data:=.seq vs.toArray}->IntsAre vs ns->ns.length<=n->s₁.gens=#[]->
   codeAny (model l.prog w) callerA (.call (.ref fa) ⟨[.ref a],[]⟩) (λr s'=>r=.ok (.ret (.bool true))/\OldK s₁.heap s'.heap/\s'.os=s₁.os/\AllBare s'.gens) s₁) :
  WalkO q loose XP YP l.row.toRowW d [] (λf vs=>PySem.call f vs):=by
 intro w s₀ s₁ mg mb G Y fa o pm cd doc dV kV ho hd hcd hD hmg hg args vals as hpre hlay hrd hwl hlo
 obtain rfl:dV=.none:=Dflts.none hD hdf
 obtain rfl:kV=.none:=Dflts.noKw hD
 obtain⟨a,vs,ns,rfl,rfl,hobj,hints,hlen⟩:=Bq hn hpre hwl
 refine enter_call (Qa (call w s₀ s₁ mg mb fa o pm cd doc a vs ns G Y ho (fd_plain hd) hcd hmg hobj hints hlen hg) λr s' hq=>?_)
 obtain⟨rfl,h2,h3,h4⟩:=hq
 exact⟨.inl ⟨.bool true,.bool true,[],rfl,λ_=>rfl,.bool true,Ba l _,λ_=>⟨List.Pairwise.nil,λ_ hm=>(nomatch hm)⟩⟩,h2,h3,h4⟩
end Att
namespace L2
open PySem PySem.Spec PyProof.Rows
theorem tf:∀{vs:List Value} {ns:List Int},IntsAre vs ns->Vals (ns.map V.int) vs
 |_,_,.nil=>.nil
 |_,_,.cons n t h=>.cons ⟨t,rfl⟩ (tf h)
def Ji (H:Hp):Prop:=∀b,H b=none\/∃o xs,H b=some (.bp o (.lst xs))
theorem Ef {P:Program}{w:World}{K:Frag}{mg mb:Str->Option Value}{CX:A0}{k:Nat}{fa a:Addr}{fd:FuncData}{x:Str}{sp:Sp}{s₁:Shared}{vs:List Value}{ns:List Int}
  (KX:K.In s₁.heap) (hns:s₁.heap.Ns mainGlobals mg) (hb:s₁.heap.Ns builtinsNs mb) (hbb:∀x:Str,x≠"__name__"->mb x=bootBuiltins x) (hlim:s₁.heap.NoLimit) (hsys:∃mm,s₁.heap.Ns sysModules mm) (hg:s₁.gens=#[])
  (ha:s₁.heap.get? a=some {cls:=.type "list",data:=.seq vs.toArray}) (hi:IntsAre vs ns) (hl:ns.length<=sizeLine) (hr:fX k callerA)
  (F:∀base:Heap,K.In base->base.Ns mainGlobals mg->gN P w K mg base CX k fa fd [x] sp) (hbind:∀(s:Shared) (u:Value),BindsTo s fd ⟨[u],[]⟩ [(x,u)])
  (hsp:∀H:Hp,Ji H->gY K H a (ns.map V.int)->sp [.ref a] H (λv _=>v=.bl true) λ_ _ _=>False)
  (hCX:∀H e s',CX [] H s₁ (λ_ _ _=>False) e s'->False) :
  codeAny (model P w) callerA (.call (.ref fa) ⟨[.ref a],[]⟩) (λr s'=>r=.ok (.ret (.bool true))/\OldK s₁.heap s'.heap/\s'.os=s₁.os/\AllBare s'.gens) s₁:=by
 have rv:=tf hi
 have lenV:=hi.length
 have core:∀H:Hp,Ji H->gY K H a (ns.map V.int)->mS P w H s₁.heap->(∀b,H b≠none->b=a)->(H a≠none->K.lookup a=none)->
   codeAny (model P w) callerA (.call (.ref fa) ⟨[.ref a],[]⟩) (λr s'=>r=.ok (.ret (.bool true))/\OldK s₁.heap s'.heap/\s'.os=s₁.os/\AllBare s'.gens) s₁:=by
  intro H hO hS hok hA hK
  have base_of:∀{b:Addr} {o:Obj},s₁.heap.get? b=some o->H b=none->(uQ s₁.heap H).get? b=some o:=λe n=>Dx e n
  have noA:∀{b:Addr} {o:Obj} {es:Array DictEntry} {ep:Nat},s₁.heap.get? b=some o->o.data=.dict es ep->H b=none:=λ{b o es ep} e d=>by
   cases q:H b with
   |none=>rfl
   |some u=>
    have e':b=a:=hA b (by rw[q];simp)
    subst e'
    rw[ha] at e;cases e
    have d':Data.seq vs.toArray _=Data.dict es ep:=d
    cases d'
  have nsK:∀{b:Addr} {m:Str->Option Value},s₁.heap.Ns b m->(uQ s₁.heap H).Ns b m:=λ{b m} ⟨o,es,ep,e,d,r⟩=>⟨o,es,ep,base_of e (noA e d),d,r⟩
  have hKb:K.In (uQ s₁.heap H):=λb o e=>base_of (KX b o e) (by
   cases q:H b with
   |none=>rfl
   |some u=>
    have e':b=a:=hA b (by rw[q];simp)
    subst e'
    rw[hK (by rw[q];simp)] at e;cases e)
  have hM:Mod K mg (uQ s₁.heap H):=⟨hKb,nsK hns,⟨mb,nsK hb,hbb⟩,let ⟨mc,h1,h2⟩:=hlim;⟨mc,nsK h1,h2⟩,let ⟨mm,h1⟩:=hsys;⟨mm,nsK h1⟩⟩
  have e0:EG P w K mg (uQ s₁.heap H) callerA [] s₁ H:=⟨rfl,hM,λb o e=>Gk e,Nat.le_of_eq (AQ _ _),trivial,λb hb=>absurd (show b∈([]:List Addr) from hb) (by simp),hok,.of_eq hg⟩
  refine Qa ((F _ hKb (nsK hns)).run callerA [] s₁ H ⟨[.ref a],[]⟩ [.ref a] [.ref a] _ _ hr e0 (hbind s₁ (.ref a)) (.cons rfl .nil) (hsp H hO hS)) λr s' h=>?_
  cases r with
  |error e=>exact (hCX H e s' h).elim
  |ok fl=>
   cases fl with
   |next=>exact False.elim h
   |brk=>exact False.elim h
   |cont=>exact False.elim h
   |ret u=>
    obtain⟨v,H',os,bare,un,hok',r',q⟩:=h
    have q':v=.bl true:=q
    subst q'
    obtain rfl:u=Value.bool true:=r'
    refine⟨rfl,OldK.of_keep λb o e=>?_,os,bare⟩
    cases q:H b with
    |none=>exact un.keep b o e q (by intro z;exact absurd (show b∈([]:List Addr) from z) (by simp)) (by simp)
    |some u=>
     rcases hO b with z | ⟨ob,xs,z⟩
     ·rw[q] at z;cases z
     ·have z2:=un.frzs b ob _ z
      obtain⟨e1,_⟩:=hok b _ z
      obtain⟨e2,_⟩:=hok' b _ z2
      rw[e] at e1;cases e1
      exact e2
 cases hk:K.lookup a with
 |some o=>
  have e:=KX a o hk
  rw[ha] at e
  cases e
  refine core (λ_=>none) (λ_=>.inl rfl) (.inr ⟨_,vs.toArray,_,hk,rfl,rfl,rfl,by rw[Od,lenV];exact hl,by simpa using rv⟩) (λb u z=>by have z':(none:Option HO)=some u:=z;cases z') (λb z=>absurd rfl z) λz=>absurd rfl z
 |none=>
  refine core (λb=>if b=a then some (.bp {cls:=.type "list",data:=.seq vs.toArray} (.lst (ns.map V.int))) else none) (λb=>?_) (.inl (.inr ⟨{cls:=.type "list",data:=.seq vs.toArray},NN rfl⟩)) (λb u z=>?_) (λb z=>?_) λ_=>hk
  ·by_cases hb:b=a
   ·exact .inr ⟨_,_,NN hb⟩
   ·exact .inl (NV hb)
  ·by_cases hb:b=a
   ·have z':=(NN hb).symm.trans z
    cases z'
    subst hb
    exact⟨ha,by rw[NT];exact hl,vs,_,rv,ha⟩
   ·have z':=(NV hb).symm.trans z
    cases z'
  ·by_cases hb:b=a
   ·exact hb
   ·exact absurd (NV hb) z
def EJ {l:PySem.W.OpenLaw}{n k:Nat}{q:Program}{loose:List Str}{XP:(Str->Option Value)->Heap->Prop}{YP:World->Heap->Prop}{d:DefRec}{K:Params->Frag}{CX:World->A0}{sp:World->Sp}{x:Str}
  (hn:l.most=some n) (hn2:n<=sizeLine) (hdf:d.params.defaults= []) (hi:PyProof.Rows.importsNone q=true) (hr:fX k callerA)
  (hY:∀(w:World) (h:Heap),YP w h->(K w.params).In h)
  (F:∀(w:World) (mg:Str->Option Value) (fa:Addr) (h:Heap),(K w.params).In h->h.Ns mainGlobals mg->mg d.name=some (.ref fa)->
   ∃fd:FuncData,(∀(s:Shared) (u:Value),BindsTo s fd ⟨[u],[]⟩ [(x,u)])/\
    ∀base:Heap,(K w.params).In base->base.Ns mainGlobals mg->gN l.prog w (K w.params) mg base (CX w) k fa fd [x] (sp w))
  (hsp:∀(w:World) (H:Hp) (a:Addr) (ns:List Int),ns.length<=n->Ji H->gY (K w.params) H a (ns.map V.int)->sp w [.ref a] H (λv _=>v=.bl true) λ_ _ _=>False)
  (hCX:∀(w:World) (H:Hp) (s:Shared) (e:Value) (s':Shared),CX w [] H s (λ_ _ _=>False) e s'->False) :
  PySem.W.WalkO q loose XP YP l.row.toRowW d [] (λf vs=>PySem.call f vs):=by
 refine Att.wA hn hdf λw s₀ s₁ mg mb fa o pm cd doc a vs ns G Y ho hd hcd hmg hobj hints hlen hg=>?_
 have KX:=hY w _ Y
 obtain⟨fd,hb,hF⟩:=F w mg fa _ KX G.T.g hmg
 exact Ef KX G.T.g G.T.b G.T.builtins G.T.nolimit (let ⟨mm,h1,_⟩:=(G.T.seer hi).mods;⟨mm,h1⟩) hg hobj hints (OU hlen hn2) hr hF hb (λH hO hS=>hsp w H a ns hlen hO hS) λH e s'=>hCX w H s₁ e s'
def jk (s:Stmt):Arguments:=match s with
 | .FunctionDef _ a _ _ _ _ _ _ _ _=>a
 |_=>{posonlyargs:=[],args:=[],vararg:=none,kwonlyargs:=[],kw_defaults:=[],kwarg:=none,defaults:=[]}
def df (s:Stmt):List Stmt:=match s with
 | .FunctionDef _ _ b _ _ _ _ _ _ _=>b
 |_=>[]
def ay (s:Stmt):Scope:=match s with
 | .FunctionDef _ _ _ _ _ _ sc _ _ _=>sc
 |_=>{kind:=.function,names:=[],isGenerator:=false,isCoroutine:=false}
abbrev HC:A0:=λ_ _ _ _ _ _=>False
abbrev E0:XK:=λ_ _ _=>False
def Kn {X:Cx}:Passes HC X E0:=λ_ _ _ _ _ _ _ h=>h.elim
structure Eu (K:Frag)(x qual:Str)(st:Stmt)(f:Addr)(fd:FuncData):Prop where
 ex:∃(oc:Value) (od:Option Addr) (kV doc pm:Value) (an:Option Addr) (cdv ct:Value) (osl:Array (Option Value)),
  fd=PySem.W.fnOf x qual (jk st) (df st) (ay st) .none kV doc pm an cdv ct/\K.lookup f=some ⟨oc,od,.func fd,osl⟩/\PySem.W.codeIn K cdv qual=true
 kp:PySem.W.keepIn K (.ref f)=true
section
variable {P:Program}{w:World}{K:Frag}{mg:Str->Option Value}{base:Heap}
def Eu.ok {x qual:Str}{st:Stmt}{f:Addr}{fd:FuncData}{N ps:List Str}{k:Nat}{sp:Sp}(F:Eu K x qual st f fd)(S:aK N ps (ay st))(len:∀vs H Q E,sp vs H Q E->vs.length=ps.length)
  (hbody:∀(cdv:Value) (A:Around) (outer:List Env) (s:Shared) (H:Hp) (vs:List V) (Q:VK) (E:XK),fX k (A.deeper (envOfC qual (ay st) s.heap.objs.size f cdv))->sp vs H Q E->
   ∃t,sC (ml HC P w K mg base N qual (ay st) f cdv A outer s H E).nox (df st) t/\t {nx:=λ_ H'=>Q .non H',rt:=Q} (start N vs) H):gN P w K mg base HC (k + 1) f fd ps sp:=by
 obtain⟨oc,od,kV,doc,pm,an,cdv,ct,osl,rfl,lk,hcd⟩:=F.ex
 refine Hm lk hcd S len λA outer s H vs Q E hr hsp=>?_
 obtain⟨t,h,q⟩:=hbody cdv A outer s H vs Q E hr hsp
 exact⟨t,h.nox,q⟩
def Eu.binds {x qual:Str}{st:Stmt}{f:Addr}{fd:FuncData}{ps:List Str}(F:Eu K x qual st f fd)
  (h:∀(kV doc pm:Value) (an:Option Addr) (cdv ct:Value) (us:List Value),us.length=ps.length->bindArgs (PySem.W.fnOf x qual (jk st) (df st) (ay st) .none kV doc pm an cdv ct) ⟨us,[]⟩=pure (ps.zip us)):Binds K fd ps []:=by
 obtain⟨oc,od,kV,doc,pm,an,cdv,ct,osl,rfl,lk,hcd⟩:=F.ex
 exact .all (h kV doc pm an cdv ct)
def yF {x qual:Str}{st:Stmt}{f:Addr}{oc:Value}{od an:Option Addr}{osl:Array (Option Value)}{kV doc pm cdv ct:Value}(l:K.lookup f=some ⟨oc,od,.func (PySem.W.fnOf x qual (jk st) (df st) (ay st) .none kV doc pm an cdv ct),osl⟩)
  (c:PySem.W.codeIn K cdv qual=true) (k:PySem.W.keepIn K (.ref f)=true):Eu K x qual st f (PySem.W.fnOf x qual (jk st) (df st) (ay st) .none kV doc pm an cdv ct):=⟨⟨oc,od,kV,doc,pm,an,cdv,ct,osl,rfl,l,c⟩,k⟩
end
section
variable {X:Cx}
def pv (i:Nat){x:Str}{pos:Pos}(hN:X.N[i]? =some x:=by rfl)(hv:AF X.env.scope x:=by first |exact Or.inl rfl |exact Or.inr (Or.inl rfl) |exact Or.inr (Or.inr rfl))(hd:(x == ("__debug__":Str))=false:=by decide)
  (hcd:(x == ("__classdict__":Str))=false:=by decide):PE X (.Name x pos) (FN i):=jC hN hv hd hcd
end
def rX {A B:Prop}(h:B):if false=true then A else B:=by
 rw[NV Og]
 exact h
def rV {A B:Prop}(h:A):if true=true then A else B:=by
 rw[NN rfl]
 exact h
def aC (H H':Hp):Prop:=∀b o,H b=some o->H' b=some o
def aC.refl (H:Hp):aC H H:=λ_ _ h=>h
def aC.trans {H H1 H2:Hp}(a:aC H H1)(b:aC H1 H2):aC H H2:=λc o h=>b c o (a c o h)
theorem aC.free {H H':Hp}(e:aC H H'){l:Addr}(h:H' l=Option.none):H l=Option.none:=by
 cases q:H l with
 |none=>rfl
 |some o=>
  rw[e l o q] at h
  cases h
def aC.seq {K:Frag}{H H':Hp}{a:Addr}{xs:List V}(e:aC H H')(h:gY K H a xs):gY K H' a xs:=by
 rcases h with (h | ⟨o,h⟩) |h
 ·exact .inl (.inl (e _ _ h))
 ·exact .inl (.inr ⟨o,e _ _ h⟩)
 ·exact .inr h
end L2
end
namespace L2.ST
open PySem PySem.SetTable
abbrev km (xs:Array Nat):Prop:=xs.toList.Pairwise (· < ·)
def i7 {xs:Array Nat}(h:km xs){i k d:Nat}(hik:i < k)(hk:k < xs.size):xs.getD i d < xs.getD k d:=by
 have hi:i < xs.size:=Nat.lt_trans hik hk
 have:=P6.mp h i k (by simpa using hi) (by simpa using hk) hik
 simpa[Array.getD,hi,hk] using this
theorem Ct {xs:Array Nat}{j:Nat}(h:km xs):∀(fuel lo hi:Nat),lo<=hi->hi<=xs.size->hi - lo<=fuel->
  (∀i,i < lo->xs.getD i j < j)->(∀i,hi<=i->i < xs.size->j<=xs.getD i j)->
  below.go xs j fuel lo hi<=xs.size/\(∀i,i < below.go xs j fuel lo hi->xs.getD i j < j)/\(∀i,below.go xs j fuel lo hi<=i->i < xs.size->j<=xs.getD i j):=by
 intro fuel
 induction fuel with
 |zero=>
  intro lo hi h1 h2 h3 h4 h5
  have:lo=hi:=by omega
  subst this
  exact⟨h2,h4,h5⟩
 |succ fuel ih=>
  intro lo hi h1 h2 h3 h4 h5
  unfold below.go
  by_cases hlt:lo < hi
  ·rw[NN hlt]
   dsimp only
   by_cases hm:xs.getD ((lo + hi) / 2) j < j
   ·rw[NN hm]
    refine ih _ _ (by omega) h2 (by omega) (λi hi'=>?_) h5
    by_cases e:i=(lo + hi) / 2
    ·rw[e];exact hm
    ·exact Nat.lt_trans (i7 h (show i < (lo + hi) / 2 by omega) (by omega)) hm
   ·rw[NV hm]
    refine ih _ _ (by omega) (by omega) (by omega) h4 (λi hi' hs=>?_)
    by_cases e:i=(lo + hi) / 2
    ·rw[e];omega
    ·have:=i7 (d:=j) h (show (lo + hi) / 2 < i by omega) hs
     omega
  ·rw[NV hlt]
   have:lo=hi:=by omega
   subst this
   exact⟨h2,h4,h5⟩
def eQ {xs:Array Nat}(h:km xs)(j:Nat) :
  below xs j<=xs.size/\(∀i,i < below xs j->xs.getD i j < j)/\(∀i,below xs j<=i->i < xs.size->j<=xs.getD i j):=
 Ct h xs.size 0 xs.size (Ov _) (NQ _) (by omega) (λi hi=>by omega) (λi h1 h2=>by omega)
def Au {xs:Array Nat}(h:km xs){i j:Nat}(hi:xs[i]? =some j):below xs j=i:=by
 obtain⟨b1,b2,b3⟩:=eQ h j
 have hs:i < xs.size:=(OL.mp hi).1
 have hv:xs.getD i j=j:=by rw[OB,hi];rfl
 rcases Qn i (below xs j) with c |c |c
 ·have:=b2 i c;omega
 ·exact c.symm
 ·have hb:below xs j < xs.size:=by omega
  have q:=b3 (below xs j) (NQ _) hb
  have:=i7 (d:=j) h c hs
  omega
def zo (j:Nat):has #[] j=false:=by
 unfold has
 simp
def sW {t:SetTable}(h:km t.place){i j:Nat}(hi:t.place[i]? =some j):t.slot j=.live i:=by
 unfold slot
 dsimp only
 rw[Au h hi,NN (by simp[hi])]
def yH {t:SetTable}(hd:t.dummies=#[]){j:Nat}(hj:j∉t.place):t.slot j=.empty:=by
 unfold slot
 dsimp only
 have:¬(t.place[below t.place j]? == some j)=true:=by
  intro e
  have e':t.place[below t.place j]? =some j:=by simpa using e
  obtain⟨h1,h2⟩:=OL.mp e'
  exact hj (Array.mem_iff_getElem.mpr ⟨_,h1,h2⟩)
 rw[NV this,hd,zo]
 rfl
def xo (mask:Nat)(p:Probe):Probe:=
 if p.more > 0 then {p with j:=p.j + 1,more:=p.more - 1} else
 {p with j:=(leap mask p.i p.perturb).1,more:=runEnd mask (leap mask p.i p.perturb).1 - (leap mask p.i p.perturb).1,i:=(leap mask p.i p.perturb).1,perturb:=(leap mask p.i p.perturb).2}
def AY (mask i perturb:Nat):Probe:={j:=i,more:=runEnd mask i - i,i,perturb,dummy:=none}
def st (mask:Nat)(h:Int):Probe:=AY mask (bits h % (mask + 1)) (bits h)
def B7 (t:SetTable)(p:Probe):t.advance p=xo t.mask p:=rfl
def GR (t:SetTable)(h:Int):t.probeStart h=st t.mask h:=rfl
def fZ (mask:Nat):Nat->Probe->Probe
 | 0,p=>p
 |n + 1,p=>fZ mask n (xo mask p)
theorem lH (mask:Nat):∀(n m:Nat) (p:Probe),fZ mask (n + m) p=fZ mask m (fZ mask n p)
 | 0,m,p=>by rw[OD];rfl
 |n + 1,m,p=>by rw[Nat.add_right_comm];exact lH mask n m (xo mask p)
def D9 {mask:Nat}{p:Probe}(h:p.dummy=none):(xo mask p).dummy=none:=by
 unfold xo;split <;> exact h
def jL {mask i:Nat}(h:i<=mask):i<=runEnd mask i/\runEnd mask i<=mask/\runEnd mask i - i<=9:=by
 unfold runEnd;split <;> omega
def In (mask:Nat)(p:Probe):Prop:=p.j + p.more<=mask/\p.more<=9
def JB {mask i q:Nat}(h:i<=mask):In mask (AY mask i q):=by
 have:=jL h
 unfold In AY;dsimp only;omega
def nu (mask i q:Nat):(leap mask i q).1<=mask:=by
 unfold leap;exact Nat.lt_succ_iff.mp (Nat.mod_lt _ (Nat.succ_pos _))
def IX {mask:Nat}{p:Probe}(h:In mask p):In mask (xo mask p):=by
 unfold xo
 by_cases hm:p.more > 0
 ·rw[NN hm];unfold In at *;dsimp only;omega
 ·rw[NV hm]
  have:=jL (nu mask p.i p.perturb)
  unfold In;dsimp only;omega
theorem zP {mask:Nat}:∀(n:Nat) {p:Probe},In mask p->In mask (fZ mask n p)
 | 0,_,h=>h
 |n + 1,_,h=>zP n (IX h)
def J3 (mask:Nat)(h:Int):In mask (st mask h):=JB (Nat.lt_succ_iff.mp (Nat.mod_lt _ (Nat.succ_pos _)))
theorem vO (mask:Nat):∀(k:Nat) (p:Probe),p.more=k->fZ mask (k + 1) p={p with j:=(leap mask p.i p.perturb).1,more:=runEnd mask (leap mask p.i p.perturb).1 - (leap mask p.i p.perturb).1,i:=(leap mask p.i p.perturb).1,perturb:=(leap mask p.i p.perturb).2}
 | 0,p,h=>by
  show xo mask p=_
  unfold xo
  rw[NV (by omega)]
 |k + 1,p,h=>by
  have e:xo mask p={p with j:=p.j + 1,more:=p.more - 1}:=by unfold xo;rw[NN (by omega)]
  show fZ mask (k + 1) (xo mask p)=_
  rw[e,vO mask k _ (by dsimp only;omega)]
def oi (mask i q:Nat):fZ mask (runEnd mask i - i + 1) (AY mask i q)=AY mask (leap mask i q).1 (leap mask i q).2:=by
 exact vO mask _ (AY mask i q) rfl
theorem kq (mask i q:Nat):∀(k:Nat),k<=runEnd mask i - i->(fZ mask k (AY mask i q))={AY mask i q with j:=i + k,more:=runEnd mask i - i - k}
 | 0,_=>rfl
 |k + 1,h=>by
  rw[lH mask k 1,kq mask i q k (by omega)]
  show xo mask _=_
  unfold xo
  rw[NN (by dsimp only;omega)]
  simp only[Probe.mk.injEq]
  refine⟨by omega,by omega,?_⟩
  trivial
def gS (mask:Nat):Nat->Nat×Nat->Nat×Nat
 | 0,x=>x
 |k + 1,x=>gS mask k (leap mask x.1 x.2)
theorem oX (mask:Nat):∀(k i q:Nat),i<=mask->∃n,n<=10 * k/\fZ mask n (AY mask i q)=AY mask (gS mask k (i,q)).1 (gS mask k (i,q)).2
 | 0,i,q,_=>⟨0,NQ _,rfl⟩
 |k + 1,i,q,h=>by
  obtain⟨n,hn,e⟩:=oX mask k (leap mask i q).1 (leap mask i q).2 (nu _ _ _)
  have:=jL h
  refine⟨(runEnd mask i - i + 1) + n,by omega,?_⟩
  rw[lH,oi,e]
  rfl
theorem tG (mask:Nat):∀(a b:Nat) (x:Nat×Nat),gS mask (a + b) x=gS mask b (gS mask a x)
 | 0,b,x=>by rw[OD];rfl
 |a + 1,b,x=>by rw[Nat.add_right_comm];exact tG mask a b (leap mask x.1 x.2)
theorem vG (mask:Nat):∀(k:Nat) (x:Nat×Nat),x.1<=mask->(gS mask k x).1<=mask
 | 0,_,h=>h
 |k + 1,x,_=>vG mask k _ (nu mask x.1 x.2)
theorem mB (mask:Nat):∀(k:Nat) (x:Nat×Nat),(gS mask k x).2=x.2 / 32 ^ k
 | 0,x=>by simp[gS]
 |k + 1,x=>by
  show (gS mask k (leap mask x.1 x.2)).2=_
  rw[mB mask k,Nat.pow_succ,Nat.mul_comm,<-Nat.div_div_eq_div_mul]
  rfl
def nx (mask i:Nat):Nat:=(i * 5 + 1) % (mask + 1)
def BR (mask:Nat):Nat->Nat->Nat
 | 0,i=>i
 |k + 1,i=>BR mask k (nx mask i)
theorem pJ (mask:Nat):∀(a b i:Nat),BR mask (a + b) i=BR mask b (BR mask a i)
 | 0,b,i=>by rw[OD];rfl
 |a + 1,b,i=>by rw[Nat.add_right_comm];exact pJ mask a b (nx mask i)
theorem qu (mask:Nat):∀(k i:Nat),gS mask k (i,0)=(BR mask k i,0)
 | 0,_=>rfl
 |k + 1,i=>by
  show gS mask k (leap mask i 0)=_
  have:leap mask i 0=(nx mask i,0):=by simp[leap,nx]
  rw[this,qu mask k]
  rfl
def DX (mask:Nat):Prop:=mask=7\/mask=31\/mask=127
def Kj (mask:Nat)(hm:DX mask):BR mask (mask + 1) 0=0/\∀j,j<=mask->∃k,k<=mask/\BR mask k 0=j:=by
 have h7:∀j:Nat,j < 8->∃k,k < 8/\BR 7 k 0=j:=by decide +kernel
 have h31:∀j:Nat,j < 32->∃k,k < 32/\BR 31 k 0=j:=by decide +kernel
 have h127:∀j:Nat,j < 128->∃k,k < 128/\BR 127 k 0=j:=by decide +kernel
 rcases hm with rfl |rfl |rfl
 ·exact⟨by decide +kernel,λj hj=>let ⟨k,a,b⟩:=h7 j (by omega);⟨k,by omega,b⟩⟩
 ·exact⟨by decide +kernel,λj hj=>let ⟨k,a,b⟩:=h31 j (by omega);⟨k,by omega,b⟩⟩
 ·exact⟨by decide +kernel,λj hj=>let ⟨k,a,b⟩:=h127 j (by omega);⟨k,by omega,b⟩⟩
def Lp {mask:Nat}(hm:DX mask){i j:Nat}(hi:i<=mask)(hj:j<=mask):∃k,k<=mask/\BR mask k i=j:=by
 obtain⟨z,o⟩:=Kj mask hm
 obtain⟨a,ha,ea⟩:=o i hi
 obtain⟨b,hb,eb⟩:=o j hj
 have back:BR mask (mask + 1 - a) i=0:=by
  rw[<-ea,<-pJ,show a + (mask + 1 - a)=mask + 1 by omega];exact z
 by_cases hab:a<=b
 ·refine⟨b - a,by omega,?_⟩
  rw[<-ea,<-pJ,show a + (b - a)=b by omega];exact eb
 ·refine⟨mask + 1 - a + b,by omega,?_⟩
  rw[pJ,back];exact eb
def qk {mask:Nat}(hm:DX mask){i q j:Nat}(hi:i<=mask)(hq:q < 2 ^ 64)(hj:j<=mask):∃k,k<=mask + 13/\(gS mask k (i,q)).1=j:=by
 have hz:(gS mask 13 (i,q)).2=0:=by
  rw[mB]
  exact Nat.div_eq_of_lt (Oi hq (by decide))
 obtain⟨k,hk,e⟩:=Lp hm (vG mask 13 (i,q) hi) hj
 refine⟨13 + k,by omega,?_⟩
 rw[tG]
 have:gS mask 13 (i,q)=((gS mask 13 (i,q)).1,0):=Prod.ext rfl hz
 rw[this,qu]
 exact e
def zv (h:Int):bits h < 2 ^ 64:=by
 unfold bits
 have:=Int.emod_lt_of_pos h (show (0:Int) < 2 ^ 64 by decide)
 have:=Int.emod_nonneg h (show (2 ^ 64:Int)≠0 by decide)
 omega
def DJ {mask:Nat}(hm:DX mask)(h:Int){j:Nat}(hj:j<=mask):∃n,n < 10 * turns mask/\(fZ mask n (st mask h)).j=j:=by
 have hi:bits h % (mask + 1)<=mask:=Nat.lt_succ_iff.mp (Nat.mod_lt _ (Nat.succ_pos _))
 obtain⟨k,hk,e⟩:=qk hm hi (zv h) hj
 obtain⟨n,hn,q⟩:=oX mask k (bits h % (mask + 1)) (bits h) hi
 refine⟨n,by unfold turns;omega,?_⟩
 show (fZ mask n (AY mask _ _)).j=j
 rw[q];exact e
theorem Ep {t:SetTable}{hashAt:Nat->Int}{h:Int}:∀(n fuel:Nat) (p:Probe),n < fuel->p.dummy=none->
  (∀m,m < n->∃i,t.slot (fZ t.mask m p).j=.live i/\hashAt i≠h)->t.slot (fZ t.mask n p).j=.empty->
  probe.go t hashAt h fuel p=some (.empty (fZ t.mask n p).j none):=by
 intro n
 induction n with
 |zero=>
  intro fuel p hf hd _ he
  obtain⟨f,rfl⟩:∃f,fuel=f + 1:=⟨fuel - 1,by omega⟩
  unfold probe.go
  have he':t.slot p.j=.empty:=he
  rw[he',hd]
  rfl
 |succ n ih=>
  intro fuel p hf hd hl he
  obtain⟨f,rfl⟩:∃f,fuel=f + 1:=⟨fuel - 1,by omega⟩
  unfold probe.go
  obtain⟨i,e,ne⟩:=hl 0 (by omega)
  have e':t.slot p.j=.live i:=e
  rw[e']
  dsimp only
  rw[NV (by simpa using ne),B7]
  exact ih f (xo t.mask p) (by omega) (D9 hd) (λm hm=>hl (m + 1) (by omega)) he
theorem Cd {t:SetTable}{hashAt:Nat->Int}{h:Int}:∀(n fuel:Nat) (p:Probe),n < fuel->
  (∀m,m<=n->∃i,t.slot (fZ t.mask m p).j=.live i)->(∃i,t.slot (fZ t.mask n p).j=.live i/\hashAt i=h)->
  ∃j i next,probe.go t hashAt h fuel p=some (.candidate j i next)/\t.slot j=.live i/\hashAt i=h:=by
 intro n
 induction n with
 |zero=>
  intro fuel p hf _ he
  obtain⟨f,rfl⟩:∃f,fuel=f + 1:=⟨fuel - 1,by omega⟩
  obtain⟨i,e,eh⟩:=he
  have e':t.slot p.j=.live i:=e
  unfold probe.go
  rw[e']
  dsimp only
  rw[NN (by simpa using eh)]
  exact⟨p.j,i,_,rfl,e',eh⟩
 |succ n ih=>
  intro fuel p hf hl he
  obtain⟨f,rfl⟩:∃f,fuel=f + 1:=⟨fuel - 1,by omega⟩
  obtain⟨i,e⟩:=hl 0 (by omega)
  have e':t.slot p.j=.live i:=e
  unfold probe.go
  rw[e']
  dsimp only
  by_cases hh:hashAt i=h
  ·rw[NN (by simpa using hh)]
   exact⟨p.j,i,_,rfl,e',hh⟩
  ·rw[NV (by simpa using hh),B7]
   exact ih f (xo t.mask p) (by omega) (λm hm=>hl (m + 1) (by omega)) he
def Reach (mask:Nat)(L:Nat->Prop)(h:Int)(j:Nat):Prop:=∃n,n < 10 * turns mask/\(fZ mask n (st mask h)).j=j/\∀m,m < n->L (fZ mask m (st mask h)).j
def Reach.mono {mask:Nat}{L L':Nat->Prop}{h:Int}{j:Nat}(r:Reach mask L h j)(k:∀x,L x->L' x):Reach mask L' h j:=
 let ⟨n,a,b,c⟩:=r;⟨n,a,b,λm hm=>k _ (c m hm)⟩
structure Tab (t:SetTable)(hs:List Int):Prop where
 mask:DX t.mask
 dum:t.dummies=#[]
 rise:km t.place
 le:∀j,j∈t.place->j<=t.mask
 size:t.place.size=hs.length
 load:t.place.size * 5 < t.mask * 3
 reach:∀(i j:Nat) (h:Int),t.place[i]? =some j->hs[i]? =some h->Reach t.mask (· ∈t.place) h j
 plain:t.plain=true
theorem bL {α:Type}[DecidableEq α]:∀{l m:List α},l.Nodup->(∀x,x∈l->x∈m)->l.length<=m.length
 | [],_,_,_=>Ov _
 |a :: l,m,hn,hs=>by
  have ha:=hs a (NR ..)
  have hl:=Om.mp hn
  have:=bL (l:=l) (m:=m.erase a) hl.2 λx hx=>by
   refine (List.mem_erase_of_ne ?_).mpr (hs x (NP _ hx))
   rintro rfl;exact hl.1 hx
  rw[Qb ha] at this
  have:0 < m.length:=Qk ha
  simp only[N5];omega
def yv {mask:Nat}{xs:Array Nat}(hl:xs.size<=mask):∃j,j<=mask/\j∉xs:=by
 refine Classical.byContradiction λhc=>?_
 have all:∀j,j∈List.range (mask + 1)->j∈xs.toList:=λj hj=>by
  have:=N9.mp hj
  refine Classical.byContradiction λhn=>hc ⟨j,by omega,λz=>hn (by simpa using z)⟩
 have:=bL Qc all
 simp at this
 omega
theorem uj {P:Nat->Prop}(h:∃n,P n):∃n,P n/\∀m,m < n->¬P m:=by
 obtain⟨n,hn⟩:=h
 induction n using Nat.strongRecOn with
 |_ n ih=>
  by_cases hc:∃m,m < n/\P m
  ·obtain⟨m,hm,hp⟩:=hc
   exact ih m hm hp
  ·exact⟨n,hn,λm hm hp=>hc ⟨m,hm,hp⟩⟩
section
variable {t:SetTable}{hs:List Int}
def Tab.load' (T:Tab t hs):t.place.size<=t.mask:=by have:=T.load;omega
def Tab.slotL (T:Tab t hs){j:Nat}(hj:j∈t.place):∃i,t.slot j=.live i/\t.place[i]? =some j:=by
 obtain⟨i,hi,e⟩:=Array.mem_iff_getElem.mp hj
 have q:t.place[i]? =some j:=by rw[Oo hi,e]
 exact⟨i,sW T.rise q,q⟩
def Tab.slotE (T:Tab t hs){j:Nat}(hj:j∉t.place):t.slot j=.empty:=yH T.dum hj
def Tab.first (T:Tab t hs)(h:Int):∃n,n < 10 * turns t.mask/\(fZ t.mask n (st t.mask h)).j∉t.place/\∀m,m < n->(fZ t.mask m (st t.mask h)).j∈t.place:=by
 obtain⟨j,hj,hn⟩:=yv T.load'
 obtain⟨n,h1,h2⟩:=DJ T.mask h hj
 obtain⟨k,hk,hlt⟩:=uj (P:=λn=>(fZ t.mask n (st t.mask h)).j∉t.place) ⟨n,by rw[h2];exact hn⟩
 refine⟨k,?_,hk,λm hm=>Classical.byContradiction λz=>hlt m hm z⟩
 rcases OX n k with c |c
 ·exact absurd (show (fZ t.mask n (st t.mask h)).j∉t.place by rw[h2];exact hn) (hlt n c)
 ·omega
def Tab.absent (T:Tab t hs){hashAt:Nat->Int}(ha:∀i,i < hs.length->some (hashAt i)=hs[i]?){h:Int}(hn:h∉hs) :
  ∃j,t.probe hashAt h (t.probeStart h)=some (.empty j none)/\j∉t.place/\j<=t.mask/\Reach t.mask (· ∈t.place) h j:=by
 obtain⟨n,h1,h2,h3⟩:=T.first h
 refine⟨(fZ t.mask n (st t.mask h)).j,?_,h2,?_,⟨n,h1,rfl,h3⟩⟩
 ·unfold probe
  rw[GR]
  refine Ep n _ _ h1 rfl (λm hm=>?_) (T.slotE h2)
  obtain⟨i,e,q⟩:=T.slotL (h3 m hm)
  refine⟨i,e,λz=>hn ?_⟩
  have hi:i < hs.length:=by rw[<-T.size];exact (OL.mp q).1
  have:=ha i hi
  rw[z] at this
  exact N6 this.symm
 ·have:=zP n (J3 t.mask h)
  unfold In at this;omega
def Tab.present (T:Tab t hs){hashAt:Nat->Int}(ha:∀i,i < hs.length->some (hashAt i)=hs[i]?){h:Int}(hm:h∈hs) :
  ∃j i next,t.probe hashAt h (t.probeStart h)=some (.candidate j i next)/\t.slot j=.live i/\i < hs.length/\hs[i]? =some h:=by
 obtain⟨i,hi,e⟩:=Oy.mp hm
 have hi':hs[i]? =some h:=by rw[NK hi,e]
 have hp:i < t.place.size:=by rw[T.size];exact hi
 obtain⟨n,h1,h2,h3⟩:=T.reach i t.place[i] h (Oo hp) hi'
 have hj:(fZ t.mask n (st t.mask h)).j∈t.place:=by rw[h2];exact QF hp
 obtain⟨j',i',nx,g1,g2,g3⟩:=Cd (t:=t) (hashAt:=hashAt) (h:=h) n (10 * turns t.mask) (st t.mask h) h1 (λm hm=>by
   rcases OX m n with c |c
   ·obtain⟨i,e,_⟩:=T.slotL (h3 m c);exact⟨i,e⟩
   ·have:m=n:=by omega
    subst this
    obtain⟨i,e,_⟩:=T.slotL hj;exact⟨i,e⟩)
  ⟨i,by rw[h2];exact sW T.rise (Oo hp),by
   have:=ha i hi
   rw[hi'] at this
   exact Option.some.inj this⟩
 have hi2:i' < t.place.size:=by
  unfold slot at g2
  dsimp only at g2
  split at g2
  ·rename_i c
   have c':t.place[below t.place j']? =some j':=by simpa using c
   cases g2
   exact (OL.mp c').1
  ·split at g2 <;> cases g2
 refine⟨j',i',nx,by unfold probe;rw[GR];exact g1,g2,by rw[<-T.size];exact hi2,?_⟩
 have:=ha i' (by rw[<-T.size];exact hi2)
 rw[g3] at this
 exact this.symm
end
def cu {α:Type}(xs:Array α)(p:Nat)(x:α)(_:p<=xs.size):(insertAt xs p x).toList=xs.toList.take p ++ x :: xs.toList.drop p:=by
 unfold insertAt
 simp[Array.toList_extract,List.extract_eq_take_drop]
 rw[O9 (by simp)]
def sy (t:SetTable)(j:Nat)(hd:t.dummies=#[]):(t.put j).1={t with place:=insertAt t.place (below t.place j) j}/\(t.put j).2=below t.place j:=by
 unfold put
 dsimp only
 rw[hd,zo]
 exact⟨by simp,rfl⟩
section
variable {t:SetTable}{hs:List Int}
def nC {α:Type}{xs:Array α}{p:Nat}{x y:α}(hp:p<=xs.size):y∈insertAt xs p x↔y∈xs\/y=x:=by
 rw[<-P5,cu xs p x hp,Ob,NO,<-P5]
 have:y∈xs.toList↔y∈xs.toList.take p\/y∈xs.toList.drop p:=by
  conv=>lhs;rw[<-List.take_append_drop p xs.toList]
  exact Ob
 rw[this]
 constructor
 ·rintro (a |a |a)
  ·exact .inl (.inl a)
  ·exact .inr a
  ·exact .inl (.inr a)
 ·rintro ((a |a) |a)
  ·exact .inl a
  ·exact .inr (.inr a)
  ·exact .inr (.inl a)
def rN {xs:Array Nat}(h:km xs){j:Nat}(hj:j∉xs):km (insertAt xs (below xs j) j):=by
 obtain⟨b1,b2,b3⟩:=eQ h j
 unfold km
 rw[cu _ _ _ b1]
 have hl:∀y,y∈xs.toList.take (below xs j)->y < j:=λy hy=>by
  obtain⟨i,hi,e⟩:=Oy.mp hy
  have hi1:i < below xs j:=by simp at hi;omega
  have hi2:i < xs.size:=by omega
  have:=b2 i hi1
  rw[OB,Oo hi2] at this
  simp at e this
  omega
 have hr:∀y,y∈xs.toList.drop (below xs j)->j < y:=λy hy=>by
  obtain⟨i,hi,e⟩:=Oy.mp hy
  have hi2:below xs j + i < xs.size:=by simp at hi;omega
  have:=b3 (below xs j + i) (by omega) hi2
  rw[OB,Oo hi2] at this
  simp at e this
  rcases OX j y with c |c
  ·exact c
  ·have:j=y:=by omega
   exact absurd (by rw[this,<-e];exact QF _) hj
 refine List.pairwise_append.mpr ⟨List.Pairwise.sublist (List.take_sublist ..) h,List.pairwise_cons.mpr ⟨λy hy=>hr y hy,List.Pairwise.sublist (List.drop_sublist ..) h⟩,λa ha b hb=>?_⟩
 rcases NO.mp hb with rfl |hb
 ·exact hl a ha
 ·exact Nat.lt_trans (hl a ha) (hr b hb)
def xi {α:Type}(l:List α)(p:Nat)(x:α)(hp:p<=l.length)(i:Nat):(l.take p ++ x :: l.drop p)[i]? =if i < p then l[i]? else if i=p then some x else l[i - 1]?:=by
 rcases Qn i p with c |c |c
 ·rw[NN c,Oh (by simp;omega),List.getElem?_take_of_lt c]
 ·subst c
  rw[NV (OA _),NN rfl,Ol (by simp;omega),Pe,Nat.min_eq_left hp,Nat.sub_self]
  rfl
 ·rw[NV (by omega),NV (by omega),Ol (by simp;omega),Pe,Nat.min_eq_left hp]
  obtain⟨k,rfl⟩:∃k,i=p + 1 + k:=⟨i - (p + 1),by omega⟩
  rw[show p + 1 + k - p=k + 1 by omega,List.getElem?_cons_succ,List.getElem?_drop]
  congr 1
  omega
def Tab.put (T:Tab t hs){j:Nat}{h:Int}(hj:j∉t.place)(hm:j<=t.mask)(r:Reach t.mask (· ∈t.place) h j)(hf:(t.place.size + 1) * 5 < t.mask * 3) :
  Tab (t.put j).1 (hs.take (t.put j).2 ++ h :: hs.drop (t.put j).2)/\(t.put j).2<=hs.length:=by
 obtain⟨e1,e2⟩:=sy t j T.dum
 obtain⟨b1,b2,b3⟩:=eQ T.rise j
 have hsz:(insertAt t.place (below t.place j) j).size=t.place.size + 1:=by
  rw[<-Qu,cu _ _ _ b1]
  simp;omega
 have hl:below t.place j<=hs.length:=by rw[<-T.size];exact b1
 rw[e1,e2]
 refine⟨⟨T.mask,T.dum,rN T.rise hj,λy hy=>?_,?_,?_,λi y g hy hg=>?_,T.plain⟩,hl⟩
 ·rcases (nC b1).mp hy with z |z
  ·exact T.le y z
  ·rw[z];exact hm
 ·show (insertAt t.place _ j).size=_
  rw[hsz,T.size];simp;omega
 ·show (insertAt t.place _ j).size * 5 < t.mask * 3
  rw[hsz];exact hf
 ·show Reach t.mask (· ∈insertAt t.place (below t.place j) j) g y
  have hy':(t.place.toList.take (below t.place j) ++ j :: t.place.toList.drop (below t.place j))[i]? =some y:=by
   rw[<-cu _ _ _ b1,PB];exact hy
  rw[xi _ _ _ (by simpa using b1)] at hy'
  rw[xi _ _ _ hl] at hg
  have old:∀{g y},Reach t.mask (· ∈t.place) g y->Reach t.mask (· ∈insertAt t.place (below t.place j) j) g y:=λr=>r.mono λx hx=>(nC b1).mpr (.inl hx)
  split at hy'
  ·rename_i c
   rw[NN c] at hg
   exact old (T.reach i y g (by simpa using hy') hg)
  ·rename_i c
   rw[NV c] at hg
   split at hy'
   ·rename_i c2
    rw[NN c2] at hg
    cases hg;cases hy'
    exact old r
   ·rename_i c2
    rw[NV c2] at hg
    exact old (T.reach (i - 1) y g (by simpa using hy') hg)
end
abbrev own (o:Array (Option Nat))(j:Nat):Option Nat:=o.getD j none
theorem AJ {mask:Nat}{o:Array (Option Nat)}(hsz:o.size=mask + 1):∀(fuel i q:Nat) (j:Nat),i<=mask->layClean.free mask o fuel i q=some j->
  ∃n,n < 10 * fuel/\(fZ mask n (AY mask i q)).j=j/\(∀m,m < n->(own o (fZ mask m (AY mask i q)).j).isSome=true)/\own o j=none/\j<=mask:=by
 intro fuel
 induction fuel with
 |zero=>intro i q j _ h;unfold layClean.free at h;cases h
 |succ fuel ih=>
  intro i q j hi h
  unfold layClean.free at h
  have hr:=jL hi
  have ind:∀k,k<=runEnd mask i - i->o.getD (i + k) (some 0)=own o (i + k):=λk hk=>by
   have:i + k < o.size:=by omega
   simp[own,Array.getD,this]
  cases hf:(List.range (runEnd mask i + 1 - i)).find? λk=>(o.getD (i + k) (some 0)).isNone with
  |some k=>
   rw[hf] at h
   dsimp only at h
   have hk:=List.find?_eq_some_iff_getElem.mp hf
   obtain⟨hn,ix,hix,eix,hbef⟩:=hk
   have ek:ix=k:=by simpa using eix
   subst ek
   have hix':ix < runEnd mask i + 1 - i:=by simpa using hix
   cases h
   refine⟨ix,by omega,?_,λm hm=>?_,?_,by omega⟩
   ·rw[kq mask i q ix (by omega)]
   ·rw[kq mask i q m (by omega)]
    have:=hbef m hm
    simp only[QA] at this
    rw[ind m (by omega)] at this
    dsimp only
    cases e:own o (i + m) with
    |none=>rw[e] at this;simp at this
    |some _=>rfl
   ·rw[ind ix (by omega)] at hn
    cases e:own o (i + ix) with
    |none=>rfl
    |some _=>rw[e] at hn;simp at hn
  |none=>
   rw[hf] at h
   dsimp only at h
   obtain⟨n,h1,h2,h3,h4,h5⟩:=ih _ _ j (nu mask i q) h
   have hnone:=List.find?_eq_none.mp hf
   refine⟨(runEnd mask i - i + 1) + n,by omega,?_,λm hm=>?_,h4,h5⟩
   ·rw[lH,oi];exact h2
   ·rcases OX m (runEnd mask i - i + 1) with c |c
    ·rw[kq mask i q m (by omega)]
     have:=hnone m (N9.mpr (by omega))
     rw[ind m (by omega)] at this
     dsimp only
     cases e:own o (i + m) with
     |none=>rw[e] at this;simp at this
     |some _=>rfl
    ·obtain⟨k,rfl⟩:∃k,m=(runEnd mask i - i + 1) + k:=⟨m - (runEnd mask i - i + 1),by omega⟩
     rw[lH,oi]
     exact h3 k (by omega)
theorem Az {mask:Nat}{o:Array (Option Nat)}(hsz:o.size=mask + 1):∀(fuel i q k:Nat),i<=mask->k < fuel->own o (gS mask k (i,q)).1=none->∃j,layClean.free mask o fuel i q=some j:=by
 intro fuel
 induction fuel with
 |zero=>intro i q k _ hk;omega
 |succ fuel ih=>
  intro i q k hi hk hn
  unfold layClean.free
  cases hf:(List.range (runEnd mask i + 1 - i)).find? λk=>(o.getD (i + k) (some 0)).isNone with
  |some k=>exact⟨_,rfl⟩
  |none=>
   dsimp only
   cases k with
   |zero=>
    have hr:=jL hi
    have:=List.find?_eq_none.mp hf 0 (N9.mpr (by omega))
    have e:own o i=none:=hn
    have hi2:i < o.size:=by omega
    simp[own,Array.getD,hi2] at e this
    rw[e] at this;simp at this
   |succ k=>exact ih _ _ k (nu mask i q) (by omega) hn
structure Lay (mask:Nat)(o:Array (Option Nat))(hs:List Int):Prop where
 size:o.size=mask + 1
 all:∀k h,hs[k]? =some h->∃j,own o j=some k/\Reach mask (λx=>(own o x).isSome=true) h j
 one:∀j j' k,own o j=some k->own o j'=some k->j=j'
 le:∀j k,own o j=some k->j<=mask/\k < hs.length
def nW {o:Array (Option Nat)}{j x k:Nat}(hj:j < o.size):own (o.setIfInBounds j (some k)) x=if x=j then some k else own o x:=by
 unfold own
 rw[OB,OB,Array.getElem?_setIfInBounds]
 by_cases e:x=j
 ·subst e;simp[hj]
 ·rw[NV e,NV (λz=>e z.symm)]
def CH {mask:Nat}(hm:DX mask){o:Array (Option Nat)}{hs:List Int}(L:Lay mask o hs)(h:Int)(hl:hs.length<=mask) :
  ∃j,layClean.free mask o (turns mask) (bits h % (mask + 1)) (bits h)=some j/\Lay mask (o.setIfInBounds j (some hs.length)) (hs ++ [h]):=by
 have hi:bits h % (mask + 1)<=mask:=Nat.lt_succ_iff.mp (Nat.mod_lt _ (Nat.succ_pos _))
 have hfree:∃j,j<=mask/\own o j=none:=by
  refine Classical.byContradiction λhc=>?_
  have hall:∀j,j<=mask->∃k,own o j=some k:=λj hj=>by
   cases e:own o j with
   |none=>exact absurd ⟨j,hj,e⟩ hc
   |some k=>exact⟨k,rfl⟩
  have nd:((List.range (mask + 1)).map λj=>(own o j).getD 0).Nodup:=by
   refine O2.mpr ?_
   refine Pf ?_ Qc
   intro a b ha hb hab e
   obtain⟨ka,ea⟩:=hall a (by have:=N9.mp ha;omega)
   obtain⟨kb,eb⟩:=hall b (by have:=N9.mp hb;omega)
   rw[ea,eb] at e
   simp at e
   subst e
   exact hab (L.one a b ka ea eb)
  have:=bL (m:=List.range hs.length) nd λx hx=>by
   obtain⟨j,hj,rfl⟩:=NY.mp hx
   obtain⟨k,e⟩:=hall j (by have:=N9.mp hj;omega)
   rw[e]
   exact N9.mpr (L.le j k e).2
  simp at this
  omega
 obtain⟨j0,hj0,hn0⟩:=hfree
 obtain⟨k,hk,ek⟩:=qk hm hi (zv h) hj0
 obtain⟨j,hj⟩:=Az L.size (turns mask) _ (bits h) k hi (by unfold turns;omega) (by rw[ek];exact hn0)
 refine⟨j,hj,?_⟩
 obtain⟨n,h1,h2,h3,h4,h5⟩:=AJ L.size _ _ _ _ hi hj
 have hjs:j < o.size:=by rw[L.size];omega
 have grow:∀x,(own o x).isSome=true->(own (o.setIfInBounds j (some hs.length)) x).isSome=true:=λx hx=>by
  rw[nW hjs];split
  ·rfl
  ·exact hx
 refine⟨by rw[Array.size_setIfInBounds];exact L.size,λk g hg=>?_,λa b c ea eb=>?_,λa c ea=>?_⟩
 ·rcases OX k hs.length with c |c
  ·rw[Oh c] at hg
   obtain⟨x,ex,rx⟩:=L.all k g hg
   refine⟨x,?_,rx.mono grow⟩
   rw[nW hjs,NV (λz=>?_)]
   ·exact ex
   ·subst z;rw[ex] at h4;cases h4
  ·rw[Ol c] at hg
   have:k=hs.length:=by
    have:=(N0.mp hg).1
    simp at this;omega
   subst this
   simp at hg
   subst hg
   exact⟨j,by rw[nW hjs,NN rfl],n,h1,h2,λm hm=>grow _ (h3 m hm)⟩
 ·rw[nW hjs] at ea eb
  split at ea
  ·cases ea
   split at eb
   ·omega
   ·have:=(L.le _ _ eb).2;omega
  ·split at eb
   ·cases eb
    have:=(L.le _ _ ea).2;omega
   ·exact L.one _ _ _ ea eb
 ·rw[nW hjs] at ea
  rw[Of]
  split at ea
  ·cases ea;simp;omega
  ·have:=L.le _ _ ea;simp;omega
theorem Ab {mask:Nat}(hm:DX mask):∀(rest hs:List Int) (o:Array (Option Nat)),Lay mask o hs->hs.length + rest.length<=mask->
  ∃o',rest.foldl (init:=some (o,hs.length)) (λacc h=>do
   let (owner,k) <-acc
   let j <-layClean.free mask owner (turns mask) (bits h % (mask + 1)) (bits h)
   pure (owner.setIfInBounds j (some k),k + 1))=some (o',hs.length + rest.length)/\Lay mask o' (hs ++ rest)
 | [],hs,o,L,_=>⟨o,rfl,by rw[PD];exact L⟩
 |h :: rest,hs,o,L,hl=>by
  simp only[N5] at hl
  obtain⟨j,e,L'⟩:=CH hm L h (by omega)
  obtain⟨o',e',L2⟩:=Ab hm rest (hs ++ [h]) _ L' (by simp;omega)
  refine⟨o',?_,by rw[OS] at L2;exact L2⟩
  rw[Qx]
  simp only[Option.bind_eq_bind,Option.bind_some,e,Option.pure_def]
  have el:(hs ++ [h]).length=hs.length + 1:=by simp
  rw[el] at e'
  simp only[Option.bind_eq_bind,Option.pure_def] at e'
  rw[e']
  simp;omega
def zi (n j:Nat):own (Array.replicate n none) j=none:=by
 unfold own
 rw[OB,Array.getElem?_replicate]
 split <;> rfl
def Fp (mask:Nat):Lay mask (Array.replicate (mask + 1) none) []:=
 ⟨by simp,λk h e=>by simp at e,λj j' k e _=>by (rw[zi] at e;cases e),λj k e=>by (rw[zi] at e;cases e)⟩
def AE {mask:Nat}(hm:DX mask)(hs:Array Int)(hl:hs.size * 5 < mask * 3)(finger moves:Nat)(led:Bool) :
  ∃t order,laid mask finger moves led true hs=some (t,order)/\t.led=led/\t.mask=mask/\order.toList.Nodup/\(∀k,k∈order.toList↔k < hs.size)/\
   Tab t (order.toList.map λk=>hs.toList.getD k 0):=by
 obtain⟨o,e,L⟩:=Ab hm hs.toList [] _ (Fp mask) (by simp;omega)
 simp only[List.nil_append] at L
 have ec:layClean mask hs=some o:=by
  unfold layClean
  rw[<-Array.foldl_toList]
  simp only[length_nil] at e
  rw[e];rfl
 have hlive:∀j k,(j,k)∈((List.range (mask + 1)).filterMap λj=>(o.getD j none).map (j, ·))↔own o j=some k:=λj k=>by
  rw[Pz]
  constructor
  ·rintro⟨x,_,q⟩
   cases ex:o.getD x none with
   |none=>rw[ex] at q;cases q
   |some y=>rw[ex] at q;simp at q;rw[<-q.1,<-q.2];exact ex
  ·intro q
   refine⟨j,N9.mpr (by have:=(L.le j k q).1;omega),?_⟩
   have:o.getD j none=some k:=q
   rw[this];rfl
 have hpw:((List.range (mask + 1)).filterMap λj=>(o.getD j none).map (j, ·)).Pairwise (λa b=>a.1 < b.1):=by
  refine List.pairwise_filterMap.mpr ?_
  refine List.Pairwise.imp ?_ List.pairwise_lt_range
  intro a b hab x hx y hy
  cases ea:o.getD a none with
  |none=>rw[ea] at hx;cases hx
  |some u=>
   cases eb:o.getD b none with
   |none=>rw[eb] at hy;cases hy
   |some v=>
    rw[ea] at hx;rw[eb] at hy
    simp at hx hy
    rw[<-hx,<-hy];exact hab
 generalize hlv:((List.range (mask + 1)).filterMap λj=>(o.getD j none).map (j, ·))=live at hlive hpw
 refine⟨{mask,place:=(live.map (·.1)).toArray,dummies:=#[],finger,led,moves,plain:=true},(live.map (·.2)).toArray,?_,rfl,rfl,?_,λk=>?_,?_⟩
 ·unfold laid
  rw[ec]
  simp only[Option.bind_eq_bind,Option.bind_some,Option.pure_def,hlv]
 ·have:(live.map (·.2)).Nodup:=by
   refine O2.mpr (Pf ?_ hpw)
   intro a b ha hb hab ee
   have h1:=(hlive a.1 a.2).mp ha
   have h2:=(hlive b.1 b.2).mp hb
   rw[ee] at h1
   have:=L.one _ _ _ h1 h2
   omega
  simpa using this
 ·rw[NY]
  constructor
  ·rintro⟨x,hx,rfl⟩
   have:=(L.le x.1 x.2 ((hlive x.1 x.2).mp hx)).2
   simpa using this
  ·intro hk
   have hk':k < hs.toList.length:=by simpa using hk
   obtain⟨j,ej,_⟩:=L.all k _ (NK hk')
   exact⟨(j,k),(hlive j k).mpr ej,rfl⟩
 ·have hord:live.length=hs.size:=by
   have a1:(live.map (·.2)).Nodup:=by
    refine O2.mpr (Pf ?_ hpw)
    intro a b ha hb hab ee
    have h1:=(hlive a.1 a.2).mp ha
    have h2:=(hlive b.1 b.2).mp hb
    rw[ee] at h1
    have:=L.one _ _ _ h1 h2
    omega
   have b1:=bL (m:=List.range hs.size) a1 λx hx=>by
    obtain⟨y,hy,rfl⟩:=NY.mp hx
    have:=(L.le y.1 y.2 ((hlive y.1 y.2).mp hy)).2
    exact N9.mpr (by simpa using this)
   have b2:=bL (l:=List.range hs.size) (m:=live.map (·.2)) Qc λx hx=>by
    have hk':x < hs.toList.length:=by simpa using N9.mp hx
    obtain⟨j,ej,_⟩:=L.all x _ (NK hk')
    exact NY.mpr ⟨(j,x),(hlive j x).mpr ej,rfl⟩
   simp at b1 b2
   omega
  refine⟨hm,rfl,?_,λj hj=>?_,?_,?_,λi j h hi hh=>?_,rfl⟩
  ·show (live.map (·.1)).toArray.toList.Pairwise _
   rw[Pp]
   exact O2.mpr hpw
  ·have:j∈live.map (·.1):=by simpa using hj
   obtain⟨x,hx,rfl⟩:=NY.mp this
   exact (L.le x.1 x.2 ((hlive x.1 x.2).mp hx)).1
  ·simp
  ·show (live.map (·.1)).toArray.size * 5 < mask * 3
   simp[hord];exact hl
  ·have hi':(live.map (·.1))[i]? =some j:=by simpa using hi
   have hh':((live.map (·.2)).map λk=>hs.toList.getD k 0)[i]? =some h:=by simpa using hh
   rw[NW] at hi'
   rw[NW,NW] at hh'
   cases ex:live[i]? with
   |none=>rw[ex] at hi';cases hi'
   |some x=>
    rw[ex] at hi' hh'
    simp at hi' hh'
    have hxl:=(hlive x.1 x.2).mp (N6 ex)
    have hk:=(L.le _ _ hxl).2
    have hk2:x.2 < hs.size:=by simpa using hk
    obtain⟨j2,ej2,r⟩:=L.all x.2 h (by
     rw[NK hk]
     simp[hk2] at hh'
     simpa using hh')
    have:j2=j:=by rw[<-hi'];exact L.one _ _ _ ej2 hxl
    subst this
    refine r.mono λy hy=>?_
    show y∈(live.map (·.1)).toArray
    cases ey:own o y with
    |none=>rw[ey] at hy;cases hy
    |some k=>
     have:y∈live.map (·.1):=NY.mpr ⟨(y,k),(hlive y k).mpr ey,rfl⟩
     simpa using this
abbrev Pr:=Int×Int
def hp (p:Pr):Int:=reduceHash (Builtin.Tuple.tupleHashOf [hashInt p.1,hashInt p.2])
def Sm (p:Pr):Prop:=(0<=p.1/\p.1 < 8)/\(0<=p.2/\p.2 < 8)
def qh:List Pr:=(List.range 64).map λk=>(((k / 8:Nat):Int),((k % 8:Nat):Int))
def mJ {p:Pr}(h:Sm p):p∈qh:=by
 unfold qh
 obtain⟨⟨a,b⟩,c,d⟩:=h
 refine NY.mpr ⟨p.1.toNat * 8 + p.2.toNat,N9.mpr (by omega),?_⟩
 refine Prod.ext ?_ ?_ <;> dsimp only <;> omega
def C9:(qh.map hp).Nodup:=by decide +kernel
theorem nN {α β:Type}{f:α->β}:∀{l:List α},(l.map f).Nodup->∀a b,a∈l->b∈l->f a=f b->a=b
 | [],_,_,_,h,_,_=>by cases h
 |x :: l,hn,a,b,ha,hb,e=>by
  have hn':=Om.mp hn
  rcases NO.mp ha with ea |ha
  ·rcases NO.mp hb with eb |hb
   ·rw[ea,eb]
   ·exact absurd (NY.mpr ⟨b,hb,by rw[<-e,ea]⟩) hn'.1
  ·rcases NO.mp hb with eb |hb
   ·exact absurd (NY.mpr ⟨a,ha,by rw[e,eb]⟩) hn'.1
   ·exact nN hn'.2 a b ha hb e
def JD {p q:Pr}(hp1:Sm p)(hq:Sm q)(e:hp p=hp q):p=q:=nN C9 p q (mJ hp1) (mJ hq) e
def yx {l:List Pr}(hn:l.Nodup)(h:∀p,p∈l->Sm p):l.length<=64:=by
 have:=bL (m:=qh) hn λx hx=>mJ (h x hx)
 simpa[qh] using this
section
variable {prog:Program}{w:World}{A:Around}{E:Value->Shared->Prop}{s:Shared}
abbrev b8 (prog:Program)(w:World)(h:Heap)(p:Pr)(a:Addr):Prop:=IsTupleKey (intKind prog w) h [p.1,p.2] a
def b8.inj {h:Heap}{p q:Pr}{a:Addr}(x:b8 prog w h p a)(y:b8 prog w h q a):p=q:=by
 have:=IsTupleKey.inj x y
 simp at this
 exact Prod.ext this.1 this.2
structure tI (f:Pr->Int)(prog:Program)(w:World)(led:Bool)(h:Heap)(S:Addr)(ps:List (Addr×Pr)):Prop where
 ex:∃o ep t,h.get? S=some o/\o.ExactSet/\o.data=.set (ps.map λq=>(f q.2,Value.ref q.1)).toArray ep t/\Tab t (ps.map λq=>f q.2)/\t.led=led
 at':∀q,q∈ps->b8 prog w h q.2 q.1/\Sm q.2
 nd:(ps.map (·.2)).Nodup
def qB {t:SetTable}{hs:List Int}(T:Tab t hs){n:Nat}(e:n=hs.length):t.fits n=true:=by
 unfold SetTable.fits SetTable.fill
 have:=T.load'
 simp[T.size,T.dum,e]
 rw[T.size] at this;exact this
def Ce (a:Addr)(wanted:Nat):setRelay a wanted=(do
  let (es,_,t) <-setState a
  if SetTable.sizeAbove wanted > sizeLine then unsupported "set:memory"
  let (es,t) <-(do
   let some (t,order):=t.relaid (es.map (·.1)) wanted |unsupported "internal:set-table-without-room"
   let es':=order.filterMap (es[·]?)
   if es'.size != es.size then unsupported "internal:set-table-lost-an-element"
   pure (es',t))
  storeSet a es t):=rfl
def Br (a:Addr)(x:Value)(h:Int)(fuel:Nat):setSearchFrom a x h true (fuel + 1) none=(do
  let (es,_,t) <-setState a
  if t.gaveWay then unsupported "set:on-a-table-that-gave-way"
  let some met:=t.probe (λi=>(es[i]?.map (·.1)).getD 0) h (t.probeStart h) |unsupported "internal:set-table-without-an-empty-slot"
  match met with
  | .empty j dummy=>
   match dummy with
   |none=>return .free j false
   |some d=>
    if true && t.slot d != .dummy then rule "set.search.the-dummy-was-taken";return <-setSearchFrom a x h true fuel none
    return .free d true
  | .candidate j i next=>
   if !t.led then
    if <-searchCouldBeSeen x ((es.filter (·.1 == h)).toList.map (·.2)) then unsupported "set:the-search-would-show-the-table"
   let some (_,y):=es[i]? |unsupported "internal:set-entry"
   let equal <-holding [y] (eqBool y x)
   let (es',_,t') <-setState a
   if true && equal then return .there none
   let some same:=t'.sameMemory t.moves t.mask |unsupported "set.changed-during-lookup:is-the-new-block-at-the-old-address"
   let still <-match (if same then t'.slot j else .empty) with
    | .live i'=>match es'[i']? with
     |some (_,y')=>do pure (if <-isSame y' y then some i' else none)
     |none=>pure none
    |_=>pure none
   match still with
   |none=>rule "set.search.anew";setSearchFrom a x h true fuel none
   |some i'=>if equal then return .there (some i') else setSearchFrom a x h true fuel (some next)):=rfl
theorem wy (n:Nat){v:Value}(h:carriedByValue v=true):ofAClassStatement n v=pure false:=by
 cases v with
 |ref a=>simp[carriedByValue] at h
 |_=>first |rfl | (unfold ofAClassStatement;rfl)
def xZ (n:Nat){v:Value}{k:Int}(h:(intKind prog w).is k v=true):hashByValue n v=pure true:=by
 obtain⟨t,rfl⟩:=PJ h
 cases n <;> rfl
def nO {p:Pr}{a:Addr}{Q:Bool->Shared->Prop}(hk:b8 prog w s.heap p a)(h:Q false s):wpAny (model prog w) A (ofAClassStatement 8 (.ref a)) Q E s:=by
 have hT:=hk.typeIs
 obtain⟨o,items,n,ho,hc,hd,hi⟩:=hk
 unfold ofAClassStatement
 refine NL (wpAny_typeOf hT ?_)
 dsimp only
 rw[NN (by decide)]
 refine NL (NU ?_)
 simp only[Qh,Oa,OC]
 refine NL (wpAny_seqItems ho hd ?_)
 dsimp only
 refine NL ?_
 rw[<-Array.forIn_toList]
 refine wpAny_forIn_list _ (λrest r s'=>r.1=none/\s'=s/\∀v∈rest,carriedByValue v=true) _ ?_ ?_ _ _ ⟨rfl,rfl,hi.byValue⟩
 ·rintro v rest r s' ⟨hr,rfl,hall⟩
  rw[wy _ (hall v NR)]
  refine NL (NU ?_)
  simp only[Oa,OC]
  exact NU ⟨rfl,rfl,λu hu'=>hall u (NP _ hu')⟩
 ·rintro⟨r1,r2⟩ s' ⟨hr,rfl,_⟩
  simp only at hr
  subst hr
  exact NU h
def wK {p:Pr}{a:Addr}{Q:Bool->Shared->Prop}(hk:b8 prog w s.heap p a)(h:Q true s):wpAny (model prog w) A (hashByValue 8 (.ref a)) Q E s:=by
 have hT:=hk.typeIs
 obtain⟨o,items,n,ho,hc,hd,hi⟩:=hk
 unfold hashByValue
 refine NL (wpAny_specialOf hT F.slot_tuple_hash.lookup ?_)
 dsimp only
 refine NL (wpAny_seqItems ho hd ?_)
 simp only[Option.getD_some]
 refine NL ?_
 rw[<-Array.forIn_toList]
 refine wpAny_forIn_list _ (λrest r s'=>r.1=none/\s'=s/\∀v∈rest,∃k,(intKind prog w).is k v=true) _ ?_ ?_ _ _ ⟨rfl,rfl,λv hv=>?_⟩
 ·rintro v rest r s' ⟨hr,rfl,hall⟩
  obtain⟨k,hk⟩:=hall v NR
  rw[xZ _ hk]
  refine NL (NU ?_)
  simp only[Qh,Oa,OC]
  exact NU ⟨rfl,rfl,λu hu'=>hall u (NP _ hu')⟩
 ·rintro⟨r1,r2⟩ s' ⟨hr,rfl,_⟩
  simp only at hr
  subst hr
  exact NU h
 ·generalize items.toList=l at *
  cases hi with
  |cons h1 hi=>
   cases hi with
   |cons h2 hi=>
    cases hi
    rcases NO.mp hv with rfl |hv
    ·exact⟨_,h1⟩
    ·rcases NO.mp hv with rfl |hv
     ·exact⟨_,h2⟩
     ·cases hv
def yO {p:Pr}{a:Addr}(hk:b8 prog w s.heap p a):∀(l:List Value) {Q:Bool->Shared->Prop},(∀v∈l,∃q b,v=.ref b/\b8 prog w s.heap q b)->Q false s->wpAny (model prog w) A (searchCouldBeSeen (.ref a) l) Q E s:=by
 intro l Q hl h
 unfold searchCouldBeSeen
 refine NL ?_
 refine wpAny_forIn_list _ (λrest r s'=>r.1=none/\s'=s/\∀v∈rest,∃q b,v=.ref b/\b8 prog w s.heap q b) _ ?_ ?_ _ _ ⟨rfl,rfl,hl⟩
 ·rintro v rest r s' ⟨hr,rfl,hall⟩
  obtain⟨q,b,rfl,hb⟩:=hall v NR
  have hrest:=λu hu'=>hall u (NP _ hu')
  dsimp only
  split
  ·exact NU ⟨rfl,rfl,hrest⟩
  ·refine NL (wpAny_eqIsQuiet_tuple hk ?_)
   simp only[Qh,Oa,OC]
   refine NL (wpAny_eqIsQuiet_tuple hb ?_)
   simp only[Qh,Oa,OC]
   refine NL (nO hk ?_)
   simp only[Oa,OC]
   refine NL (nO hb ?_)
   simp only[Oa,OC]
   exact NU ⟨rfl,rfl,hrest⟩
 ·rintro⟨r1,r2⟩ s' ⟨hr,rfl,_⟩
  simp only at hr
  subst hr
  exact NU h
end
section
variable {prog:Program}{w:World}{A:Around}{E:Value->Shared->Prop}{s:Shared}
def wJ (t:SetTable)(hs:Array Int)(wanted:Nat)(hp:t.plain=true):t.relaid hs wanted=laid (sizeAbove wanted - 1) t.finger (t.movedTo (sizeAbove wanted - 1)) t.led true hs:=by
 unfold relaid;rw[hp]
def G8:sizeAbove (grown 5)=32/\sizeAbove (grown 19)=128:=by decide +kernel
theorem filterMap_get {α:Type}(es:Array α):∀(order:List Nat),(∀k,k∈order->k < es.size)->∃l:List α,order.filterMap (λi=>es[i]?)=l/\l.length=order.length/\(∀(i k:Nat),order[i]? =some k->l[i]? =es[k]?)/\∀x,x∈l->∃k,k∈order/\es[k]? =some x
 | [],_=>⟨[],rfl,rfl,λi k h=>by simp at h,λx hx=>by cases hx⟩
 |k :: r,h=>by
  obtain⟨l,e1,e2,e3,e4⟩:=filterMap_get es r λx hx=>h x (NP _ hx)
  have hk:=h k (NR ..)
  refine⟨es[k] :: l,by rw[Qt,Oo hk,e1],by simp[e2],λi x hi=>?_,λx hx=>?_⟩
  ·cases i with
   |zero=>simp at hi;subst hi;simp[hk]
   |succ i=>simp at hi;simpa using e3 i x hi
  ·rcases NO.mp hx with rfl |hx
   ·exact⟨k,NR ..,by simp[hk]⟩
   ·obtain⟨y,hy,q⟩:=e4 x hx
    exact⟨y,NP _ hy,q⟩
abbrev fq (f:Pr->Int)(q:Addr×Pr):Int×Value:=(f q.2,Value.ref q.1)
def uv (f:Pr->Int){mask:Nat}(hm:DX mask){ps:List (Addr×Pr)}(hl:ps.length * 5 < mask * 3)(finger moves:Nat)(led:Bool) :
  ∃(t:SetTable) (order:Array Nat) (ps':List (Addr×Pr)),laid mask finger moves led true ((ps.map (fq f)).toArray.map (·.1))=some (t,order)/\order.filterMap (λi=>(ps.map (fq f)).toArray[i]?)=(ps'.map (fq f)).toArray/\ps'.length=ps.length/\
   (∀q,q∈ps'↔q∈ps)/\Tab t (ps'.map λq=>f q.2)/\t.led=led:=by
 obtain⟨t,order,e,el,em,nd,mem,T⟩:=AE hm ((ps.map (fq f)).toArray.map (·.1)) (by simpa using hl) finger moves led
 have hsz:((ps.map (fq f)).toArray.map (·.1)).size=ps.length:=by simp
 obtain⟨ps',f1,f2,f3,f4⟩:=filterMap_get ps.toArray order.toList λk hk=>by
  have:=(mem k).mp hk;rw[hsz] at this;simpa using this
 have hlen:order.toList.length=ps.length:=by
  have a1:=bL (m:=List.range ps.length) nd λx hx=>N9.mpr (by have:=(mem x).mp hx;rwa [hsz] at this)
  have a2:=bL (l:=List.range ps.length) (m:=order.toList) Qc λx hx=>(mem x).mpr (by rw[hsz];exact N9.mp hx)
  simp at a1 a2 ⊢;omega
 refine⟨t,order,ps',e,?_,by omega,λq=>⟨λhq=>?_,λhq=>?_⟩,?_,el⟩
 ·apply Array.toList_inj.mp
  rw[Array.toList_filterMap,<-f1]
  simp only[Pp]
  rw[List.map_filterMap]
  congr 1
  funext i
  simp
 ·obtain⟨k,_,q2⟩:=f4 q hq
  rw[PX] at q2
  exact N6 q2
 ·obtain⟨k,hk,q2⟩:=Oy.mp hq
  have hko:k∈order.toList:=(mem k).mpr (by rw[hsz];exact hk)
  obtain⟨i,hi,e2⟩:=Oy.mp hko
  have:=f3 i k (by rw[NK hi,e2])
  rw[PX,NK hk,q2] at this
  exact N6 this
 ·have:(order.toList.map λk=>((ps.map (fq f)).toArray.map (·.1)).toList.getD k 0)=ps'.map λq=>f q.2:=by
   apply QG
   intro i
   rw[NW,NW]
   cases hi:order.toList[i]? with
   |none=>
    have:ps'[i]? =none:=List.getElem?_eq_none_iff.mpr (by rw[f2];exact List.getElem?_eq_none_iff.mp hi)
    rw[this];rfl
   |some k=>
    have hk:k < ps.length:=by have:=(mem k).mp (N6 hi);rwa [hsz] at this
    have:=f3 i k hi
    rw[PX,NK hk] at this
    rw[this]
    simp[hk]
  rw[<-this];exact T
theorem oQ:∀{l m:List Int},m.Nodup->(∀x,x∈m->x∈l)->l.length<=m.length->l.Nodup
 | [],_,_,_,_=>P9
 |a :: l,m,hn,hs,hl=>by
  by_cases ha:a∈m
  ·have hnot:a∉l:=λz=>by
    have:=bL (m:=l) hn λx hx=>by
     rcases NO.mp (hs x hx) with e |e
     ·rw[e];exact z
     ·exact e
    simp only[N5] at hl;omega
   refine Om.mpr ⟨hnot,oQ (m:=m.erase a) (hn.erase a) (λx hx=>?_) ?_⟩
   ·have:=(hn.mem_erase_iff).mp hx
    rcases NO.mp (hs x this.2) with e |e
    ·exact absurd e this.1
    ·exact e
   ·rw[Qb ha];simp only[N5] at hl;omega
  ·have:=bL (m:=l) hn λx hx=>by
    rcases NO.mp (hs x hx) with e |e
    ·exact absurd (e▸hx) ha
    ·exact e
   simp only[N5] at hl;omega
def tW (a:Addr)(es:Array (Int×Value)):byScan (.ref a) es=false:=by unfold byScan Value.scannable;simp
def xD {t:SetTable}(h:DX t.mask):t.gaveWay=false:=by
 unfold SetTable.gaveWay
 rcases h with e |e |e <;> rw[e] <;> decide
def tI.add {f:Pr->Int}(hinj:∀p q,Sm p->Sm q->f p=f q->p=q){led:Bool}{S a:Addr}{ps:List (Addr×Pr)}{p:Pr}{Q:Bool->Shared->Prop}(P:tI f prog w led s.heap S ps)(hk:b8 prog w s.heap p a)(hs:Sm p)(hu:A.units < cLine)
  (h:∀(b:Bool) (h':Heap) (ps':List (Addr×Pr)),Heap.SameBut S s.heap h'->tI f prog w led h' S ps'->(∀q,q∈ps'->q∈ps\/q=(a,p))->(∀q,q∈ps->q∈ps')->(∃q,q∈ps'/\q.2=p)->Q b {s with heap:=h'}) :
  wpAny (model prog w) A (setAddHashed S (.ref a) (f p)) Q E s:=by
 obtain⟨o,ep,t,ho,hex,hd,T,hled⟩:=P.ex
 have hfit:t.fits (ps.map (fq f)).toArray.size=true:=qB T (by simp)
 have ha:∀i,i < (ps.map λq=>f q.2).length->some ((((ps.map (fq f)).toArray)[i]?.map (·.1)).getD 0)=(ps.map λq=>f q.2)[i]?:=λi hi=>by
  have hi':i < ps.length:=by simpa using hi
  simp[hi']
 unfold setAddHashed
 refine Py ?_
 unfold setAddHashedIn
 refine NL (ON ho hd hfit ?_)
 dsimp only
 rw[tW]
 simp only[Oa,OC]
 unfold setSearch
 rw[Br]
 refine NL (NL (ON ho hd hfit ?_))
 dsimp only
 rw[xD T.mask]
 simp only[Oa,OC]
 by_cases hm:f p∈ps.map λq=>f q.2
 ·
  obtain⟨j,i,nx,e1,e2,e3,e4⟩:=T.present ha hm
  rw[e1]
  dsimp only
  have hi:i < ps.length:=by simpa using e3
  have e5:f (ps[i].2)=f p:=by
   rw[NW,NK hi] at e4
   simpa using e4
  have hq:=P.at' ps[i] (O8 hi)
  have e6:ps[i].2=p:=hinj _ _ hq.2 hs e5
  have hget:((ps.map (fq f)).toArray)[i]? =some (f ps[i].2,.ref ps[i].1):=by simp[hi]
  have rest:wpAny (model prog w) A (do
    let some (_,y):=((ps.map (fq f)).toArray)[i]? |unsupported "internal:set-entry"
    let equal <-holding [y] (eqBool y (.ref a))
    let (es',_,t') <-setState S
    if true && equal then return SetFound.there none
    let some same:=t'.sameMemory t.moves t.mask |unsupported "set.changed-during-lookup:is-the-new-block-at-the-old-address"
    let still <-match (if same then t'.slot j else .empty) with
     | .live i'=>match es'[i']? with
      |some (_,y')=>do pure (if <-isSame y' y then some i' else none)
      |none=>pure none
     |_=>pure none
    match still with
    |none=>rule "set.search.anew";setSearchFrom S (.ref a) (f p) true 99999 none
    |some i'=>if equal then return .there (some i') else setSearchFrom S (.ref a) (f p) true 99999 (some nx))
    (λr s'=>s'=s/\r=.there none) E s:=by
   rw[hget]
   dsimp only
   refine NL (Py (wpAny_eqBool_tuple hu hq.1 hk ?_))
   rw[NS (by rw[e6])]
   refine NL (ON ho hd hfit ?_)
   dsimp only
   simp only[PL,OP]
   exact NU ⟨rfl,rfl⟩
  have fin:∀r s',s'=s/\r=SetFound.there none->wpAny (model prog w) A (match r with
    | .free slot wasDummy=>(do
     let (es,_,t) <-setState S
     let (t,p'):=t.put slot
     let byValue <-if t.plain then hashByValue 8 (.ref a) else pure true
     let t:=if byValue then t else {t with plain:=false}
     storeSet S (SetTable.insertAt es p' (f p,.ref a)) t
     if !wasDummy && t.tooFull then setRelay S (SetTable.grown (es.size + 1))
     return true)
    |_=>pure false) Q E s':=by
   rintro r s' ⟨rfl,rfl⟩
   exact NU (h false s'.heap ps (Heap.SameBut.refl ..) P (λq hq=>.inl hq) (λq hq=>hq) ⟨ps[i],O8 hi,e6⟩)
  cases hl:led with
  |true=>
   rw[hled,hl]
   simp only[Qh,Oa,OC]
   exact Px rest (λr s' hr=>fin r s' hr) λ_ _ x=>x
  |false=>
   rw[hled,hl]
   simp only[Bool.not_false,OP]
   refine NL (yO hk _ (λv hv=>?_) ?_)
   ·obtain⟨x,hx,rfl⟩:=NY.mp hv
    have hx':x∈(ps.map (fq f)).toArray:=(Array.mem_filter.mp (P5.mp hx)).1
    have hx2:x∈ps.map (fq f):=by simpa using hx'
    obtain⟨q,hq,rfl⟩:=NY.mp hx2
    exact⟨q.2,q.1,rfl,(P.at' q hq).1⟩
   ·simp only[Oa,OC]
    exact Px rest (λr s' hr=>fin r s' hr) λ_ _ x=>x
 ·
  obtain⟨j,e1,e2,e3,e4⟩:=T.absent ha hm
  rw[e1]
  dsimp only
  refine NU ?_
  dsimp only
  refine NL (ON ho hd hfit ?_)
  dsimp only
  obtain⟨q1,q2⟩:=sy t j T.dum
  have hpl:(t.put j).1.plain=true:=by rw[q1];exact T.plain
  rw[hpl]
  simp only[OP]
  refine NL (wK hk ?_)
  simp only[OP]
  have hb:(t.put j).2<=ps.length:=by
   rw[q2]
   have:=(eQ T.rise j).1
   rw[T.size] at this;simpa using this
  have hins:insertAt (ps.map (fq f)).toArray (t.put j).2 (f p,Value.ref a)=((ps.take (t.put j).2 ++ (a,p) :: ps.drop (t.put j).2).map (fq f)).toArray:=by
   apply Array.toList_inj.mp
   rw[cu _ _ _ (by simpa using hb)]
   simp[List.map_take,List.map_drop]
  rw[hins]
  generalize hps':ps.take (t.put j).2 ++ (a,p) :: ps.drop (t.put j).2=ps1
  have mem1:∀q,q∈ps1↔q∈ps\/q=(a,p):=λq=>by
   rw[<-hps',Ob,NO]
   conv=>rhs;rw[<-List.take_append_drop (t.put j).2 ps,Ob]
   constructor
   ·rintro (z |z |z)
    ·exact .inl (.inl z)
    ·exact .inr z
    ·exact .inl (.inr z)
   ·rintro ((z |z) |z)
    ·exact .inl z
    ·exact .inr (.inr z)
    ·exact .inr (.inl z)
  have len1:ps1.length=ps.length + 1:=by rw[<-hps'];simp;omega
  have nd1:(ps1.map (·.2)).Nodup:=by
   have hnot:p∉ps.map (·.2):=λz=>by
    obtain⟨q,hq,e⟩:=NY.mp z
    exact hm (NY.mpr ⟨q,hq,by rw[e]⟩)
   have perm:(ps1.map (·.2)).Perm (p :: ps.map (·.2)):=by
    rw[<-hps']
    have:(ps.take (t.put j).2 ++ (a,p) :: ps.drop (t.put j).2).Perm ((a,p) :: ps):=by
     refine List.perm_middle.trans ?_
     rw[List.take_append_drop]
    exact this.map (·.2)
   exact perm.nodup_iff.mpr (Om.mpr ⟨hnot,P.nd⟩)
  have ne:∀b q,b8 prog w s.heap q b->b≠S:=λb q ⟨o',_,_,ho',_,hd',_⟩ e=>by
   subst e
   rw[ho] at ho';cases ho'
   rw[hd] at hd';cases hd'
  have at1:∀{h':Heap},Heap.SameBut S s.heap h'->∀q,q∈ps1->b8 prog w h' q.2 q.1/\Sm q.2:=λ{h'} hsb q hq=>by
   have key:∀{b:Addr} {q:Pr},b8 prog w s.heap q b->b8 prog w h' q b:=λ{b q} hb=>by
    have hne:=ne b q hb
    obtain⟨o',i',n',ho',r'⟩:=hb
    exact⟨o',i',n',(hsb.2 b hne).trans ho',r'⟩
   rcases (mem1 q).mp hq with z |z
   ·exact⟨key (P.at' q z).1,(P.at' q z).2⟩
   ·subst z;exact⟨key hk,hs⟩
  have hlen64:ps1.length<=64:=by
   have:=yx nd1 λx hx=>by
    obtain⟨q,hq,rfl⟩:=NY.mp hx
    exact (at1 (Heap.SameBut.refl ..) q hq).2
   simpa using this
  have hsize:((ps1.map (fq f)).toArray).size<=sizeLine:=by rw[Ot];simp;omega
  refine NL (wpAny_storeSet_of ho hd ?_ hsize)
  have ho1:(s.heap.update S (Obj.putSet (ps1.map (fq f)).toArray (t.put j).1)).get? S=some {o with data:=.set (ps1.map (fq f)).toArray (ep + 1) (t.put j).1}:=by
   have:=OK (Obj.putSet (ps1.map (fq f)).toArray (t.put j).1) ho (by rw[putSet_of _ _ hd];rfl)
   rw[putSet_of _ _ hd] at this;exact this
  have sb1:=Heap.SameBut.update s.heap S (Obj.putSet (ps1.map (fq f)).toArray (t.put j).1)
  have hex1:({o with data:=.set (ps1.map (fq f)).toArray (ep + 1) (t.put j).1}:Obj).ExactSet:=hex
  have psz:(t.put j).1.place.size=ps.length + 1:=by
   rw[q1]
   show (insertAt t.place (below t.place j) j).size=_
   rw[<-Qu,cu _ _ _ (eQ T.rise j).1]
   have:=T.size
   simp at this ⊢
   have:=(eQ T.rise j).1
   omega
  have dum1:(t.put j).1.dummies=#[]:=by rw[q1];exact T.dum
  have mask1:(t.put j).1.mask=t.mask:=by rw[q1]
  have tsz:t.place.size=ps.length:=by simpa using T.size
  simp only[Bool.not_false,Bool.true_and]
  cases htf:(t.put j).1.tooFull with
  |false=>
   simp only[Oa,OC]
   have hload:(t.place.size + 1) * 5 < t.mask * 3:=by
    unfold SetTable.tooFull SetTable.fill at htf
    rw[psz,dum1,mask1] at htf
    simp at htf
    rw[tsz];exact htf
   obtain⟨T1,_⟩:=T.put e2 e3 e4 hload
   refine NL (NU (NU (h true _ ps1 sb1 ⟨⟨_,ep + 1,_,ho1,hex1,rfl,?_,?_⟩,at1 sb1,nd1⟩ (λq hq=>(mem1 q).mp hq) (λq hq=>(mem1 q).mpr (.inl hq)) ⟨(a,p),(mem1 _).mpr (.inr rfl),rfl⟩)))
   ·rw[<-hps']
    simpa[List.map_take,List.map_drop] using T1
   ·rw[q1];exact hled
  |true=>
   simp only[OP]
   have hfull:t.mask * 3<=(ps.length + 1) * 5:=by
    unfold SetTable.tooFull SetTable.fill at htf
    rw[psz,dum1,mask1] at htf
    simpa using htf
   have hload:=T.load
   rw[tsz] at hload
   have hcase:∃mask',DX mask'/\sizeAbove (grown (ps.length + 1)) - 1=mask'/\sizeAbove (grown (ps.length + 1))<=sizeLine/\(ps.length + 1) * 5 < mask' * 3:=by
    rcases T.mask with e |e |e
    ·have:ps.length + 1=5:=by rw[e] at hfull hload;omega
     rw[this,G8.1]
     exact⟨31,.inr (.inl rfl),rfl,by rw[Ot];decide,by decide⟩
    ·have:ps.length + 1=19:=by rw[e] at hfull hload;omega
     rw[this,G8.2]
     exact⟨127,.inr (.inr rfl),rfl,by rw[Ot];decide,by decide⟩
    ·rw[e] at hfull;omega
   obtain⟨mask',hm3,em,hline,hl2⟩:=hcase
   have hes:(ps.map (fq f)).toArray.size + 1=ps.length + 1:=by simp
   rw[hes,Ce]
   have hfit1:(t.put j).1.fits ((ps1.map (fq f)).toArray).size=true:=by
    unfold SetTable.fits SetTable.fill
    have hpl2:ps.length + 1<=t.mask:=by
     rcases T.mask with e |e |e <;> rw[e] at hload ⊢ <;> omega
    rw[psz,dum1,mask1]
    simp[len1,hpl2]
   refine NL (NL (ON ho1 rfl hfit1 ?_))
   dsimp only
   rw[NV (by omega)]
   rw[wJ _ _ _ hpl,em]
   obtain⟨t2,order,ps2,g1,g2,g3,g4,g5,g6⟩:=uv f hm3 (ps:=ps1) (by rw[len1];exact hl2) (t.put j).1.finger ((t.put j).1.movedTo mask') (t.put j).1.led
   rw[g1]
   simp only[bind_pure_comp,pure_bind]
   rw[g2]
   have hne:((ps2.map (fq f)).toArray.size != (ps1.map (fq f)).toArray.size)=false:=by simp[g3]
   rw[hne]
   simp only[Oa,OC]
   have hsize2:((ps2.map (fq f)).toArray).size<=sizeLine:=by rw[Ot];simp;omega
   refine NL (NU ?_)
   refine wpAny_storeSet_of ho1 rfl ?_ hsize2
   have ho2:((s.heap.update S (Obj.putSet (ps1.map (fq f)).toArray (t.put j).1)).update S (Obj.putSet (ps2.map (fq f)).toArray t2)).get? S=some {o with data:=.set (ps2.map (fq f)).toArray (ep + 1 + 1) t2}:=by
    have:=OK (Obj.putSet (ps2.map (fq f)).toArray t2) ho1 (by rw[putSet_of (ep:=ep + 1) _ _ rfl];rfl)
    rw[putSet_of (ep:=ep + 1) _ _ rfl] at this;exact this
   have sb2:=sb1.trans (Heap.SameBut.update _ S (Obj.putSet (ps2.map (fq f)).toArray t2))
   have nd2:(ps2.map (·.2)).Nodup:=by
    have hmem:∀q,q∈ps2.map (·.2)↔q∈ps1.map (·.2):=λq=>by
     rw[NY,NY]
     exact⟨λ⟨x,hx,e⟩=>⟨x,(g4 x).mp hx,e⟩,λ⟨x,hx,e⟩=>⟨x,(g4 x).mpr hx,e⟩⟩
    have hnd:(ps2.map λq=>f q.2).Nodup:=by
     refine oQ (m:=ps1.map λq=>f q.2) ?_ (λx hx=>?_) (by simp[g3])
     ·have:(ps1.map λq=>f q.2)=(ps1.map (·.2)).map f:=by simp
      rw[this]
      refine O2.mpr (Pf ?_ nd1)
      intro x y hx hy hxy e
      obtain⟨q,hq,rfl⟩:=NY.mp hx
      obtain⟨r,hr,rfl⟩:=NY.mp hy
      exact hxy (hinj _ _ (at1 sb1 q hq).2 (at1 sb1 r hr).2 e)
     ·obtain⟨q,hq,rfl⟩:=NY.mp hx
      exact NY.mpr ⟨q,(g4 q).mpr hq,rfl⟩
    have:(ps2.map λq=>f q.2)=(ps2.map (·.2)).map f:=by simp
    rw[this] at hnd
    exact (O2.mp hnd).imp λhxy e=>hxy (by rw[e])
   refine NU (h true _ ps2 sb2 ⟨⟨_,ep + 1 + 1,t2,ho2,hex,rfl,g5,?_⟩,λq hq=>at1 sb2 q ((g4 q).mp hq),nd2⟩ (λq hq=>(mem1 q).mp ((g4 q).mp hq)) (λq hq=>(g4 q).mpr ((mem1 q).mpr (.inl hq))) ⟨(a,p),(g4 _).mpr ((mem1 _).mpr (.inr rfl)),rfl⟩)
   rw[g6,q1];exact hled
end
def gL (w:World):Bool:= !(w.params.followText "set-order")
def BL (prog:Program)(w:World)(p:Pr):Int:=tupleKeyHash (intKind prog w) [p.1,p.2]
def FK (prog:Program)(w:World):∀p q,Sm p->Sm q->BL prog w p=BL prog w q->p=q:=λp q h1 h2 e=>JD h1 h2 e
section
variable {prog:Program}{w:World}{A:Around}{E:Value->Shared->Prop}{s:Shared}{R:Result->Shared->Prop}{I:Addr}{fp wr:List Addr}{n:Nat}{P:Nat->Value->Prop}{St:Nat->Heap->Prop}
def dD (prog:Program)(w:World)(h:Heap)(vs:List Value)(ps:List Pr):Prop:=vs.length=ps.length/\∀(i:Nat) (v:Value) (p:Pr),vs[i]? =some v->ps[i]? =some p->∃a,v=.ref a/\b8 prog w h p a/\Sm p
abbrev pL (prog:Program)(w:World)(h:Heap)(S:Addr)(vs:List Value)(ps:List Pr)(k:Nat):Prop:=∃qs:List (Addr×Pr),tI (BL prog w) prog w (gL w) h S qs/\
 (∀q,q∈qs->Value.ref q.1∈vs.take k/\q.2∈ps.take k)/\∀p,p∈ps.take k->p∈qs.map (·.2)
theorem nj (W:Walks prog w A.in1 I fp wr n P St)(S:Addr)(hSf:S∉fp){vs:List Value}{ps:List Pr}(hn:vs.length=n)(hP:∀i v,P i v->vs[i]? =some v)(hu:A.in1.units < cLine)(h₀:Heap)
  (hps:dD prog w h₀ vs ps) (hwr:∀b o,b∈S :: wr->h₀.get? b=some o->False):∀(k i:Nat) (s:Shared),n - i=k->i<=n->St i s.heap->(∀b o,h₀.get? b=some o->s.heap.get? b=some o)->pL prog w s.heap S vs ps i->
   (∀h' tk,(∀b o,b∉S :: wr->s.heap.get? b=some o->h'.get? b=some o)->pL prog w h' S vs ps n->R (.ok (.ret .none)) {s with heap:=h',toks:=tk})->
   codeAny (model prog w) A (.builtin "set.update.loop" ⟨[.ref S,.ref I],[]⟩) R s:=by
 have nw:S∉wr:=λh=>hSf (W.sub _ h)
 intro k
 induction k with
 |zero=>
  intro i s hk hi hst hk0 hF hR
  obtain rfl:i=n:=by omega
  refine PY PyProof.Rows.F.entry_set_update_loop ?_
  rw[P7 PQ _]
  show wpAny _ A.in1 (pyNext (.ref I) >>= λr=>_) _ _ s
  refine NL (W.done s _ _ hst λh' tk hm=>?_)
  show wpAny _ A.in1 (ret Value.none) _ _ _
  refine NU (hR h' tk (λb o hb e=>hm b o (λz=>hb (NP _ z)) e) ?_)
  obtain⟨qs,Q1,Q2,Q3⟩:=hF
  obtain⟨o,ep,t,ho,r⟩:=Q1.ex
  refine⟨qs,⟨⟨o,ep,t,hm S o nw ho,r⟩,λq hq=>⟨?_,(Q1.at' q hq).2⟩,Q1.nd⟩,Q2,Q3⟩
  obtain⟨m,hm1,hm2⟩:=Oy.mp (P8 (Q2 q hq).1)
  have hm1':m < ps.length:=by rw[<-hps.1];exact hm1
  obtain⟨a,ea,ha,_⟩:=hps.2 m vs[m] ps[m] (NK hm1) (NK hm1')
  rw[hm2] at ea
  cases ea
  obtain⟨o',it',n',ho',r'⟩:=(Q1.at' q hq).1
  obtain⟨o2,it2,n2,ho2,r2⟩:=ha
  have:o'=o2:=Option.some.inj (ho'.symm.trans (hk0 _ _ ho2))
  subst this
  exact⟨o',it',n',hm _ _ (λz=>hwr _ _ (NP _ z) ho2) ho',r'⟩
 |succ k ih=>
  intro i s hk hi hst hk0 hF hR
  have hlt:i < n:=by omega
  refine PY PyProof.Rows.F.entry_set_update_loop ?_
  rw[P7 PQ _]
  show wpAny _ A.in1 (pyNext (.ref I) >>= λr=>_) _ _ s
  refine NL (W.item i s _ _ hlt hst λv h1 tk1 hv hst1 hm=>?_)
  have hvi:=hP i v hv
  have hip:i < ps.length:=by rw[<-hps.1,hn];exact hlt
  obtain⟨a,rfl,ha,hsm⟩:=hps.2 i v ps[i] hvi (NK hip)
  have k1:∀b o,h₀.get? b=some o->h1.get? b=some o:=λb o e=>hm b o (λz=>hwr b o (NP _ z) e) (hk0 b o e)
  obtain⟨qs,Q1,Q2,Q3⟩:=hF
  have old:∀{q:Addr×Pr} {h:Heap},q∈qs->(∀b o,h₀.get? b=some o->h.get? b=some o)->b8 prog w h q.2 q.1:=λ{q h} hq kk=>by
   obtain⟨m,hm1,hm2⟩:=Oy.mp (P8 (Q2 q hq).1)
   have hm1':m < ps.length:=by rw[<-hps.1];exact hm1
   obtain⟨a,ea,ha,_⟩:=hps.2 m vs[m] ps[m] (NK hm1) (NK hm1')
   rw[hm2] at ea
   cases ea
   obtain⟨o',it',n',ho',r'⟩:=(Q1.at' q hq).1
   obtain⟨o2,it2,n2,ho2,r2⟩:=ha
   have:o'=o2:=Option.some.inj (ho'.symm.trans (hk0 _ _ ho2))
   subst this
   exact⟨o',it',n',kk _ _ ho2,r'⟩
  have P1:tI (BL prog w) prog w (gL w) h1 S qs:=by
   obtain⟨o,ep,t,ho,r⟩:=Q1.ex
   exact⟨⟨o,ep,t,hm S o nw ho,r⟩,λq hq=>⟨old hq k1,(Q1.at' q hq).2⟩,Q1.nd⟩
  have ha1:b8 prog w h1 ps[i] a:=by
   obtain⟨o',it',n',ho',r'⟩:=ha
   exact⟨o',it',n',k1 _ _ ho',r'⟩
  show wpAny _ A.in1 (holding [Value.ref a] (setAdd S (.ref a)) >>= λ_=>_) _ _ _
  refine NL (Py ?_)
  unfold setAdd
  refine Py (NL (wpAny_pyHash_tuple hu ha1 ?_))
  refine tI.add (FK prog w) (s:={s with heap:=h1,toks:=tk1 + ([ps[i].1,ps[i].2].length + 1)}) P1 ha1 hsm hu λb h2 qs' sb P2 m1 m2 m3=>?_
  have sbS:∀b o,h₀.get? b=some o->h2.get? b=some o:=λb o e=>(sb.2 b (λz=>hwr b o (by rw[z];exact NR) e)).trans (k1 b o e)
  refine NU ⟨plainId_quiet PQ _,ih (i + 1) _ (by omega) hlt (W.frame _ _ _ hst1 λb hb o e=>?_) sbS ⟨qs',P2,λq hq=>?_,λp hp=>?_⟩ λh' tk hm' F'=>?_⟩
  ·rw[sb.2 b λz=>hSf (by rw[<-z];exact hb)];exact e
  ·have htk:∀{α:Type} {l:List α} {x:α},x∈l.take i->x∈l.take (i + 1):=λ{α l x} hx=>by
    rw[Pb];exact OV _ hx
   rcases m1 q hq with z |z
   ·exact⟨htk (Q2 q z).1,htk (Q2 q z).2⟩
   ·subst z
    refine⟨?_,?_⟩
    ·rw[Pb,hvi];exact Ow _ (by simp)
    ·rw[Pb,NK hip];exact Ow _ (by simp)
  ·rw[Pb,NK hip] at hp
   rcases Ob.mp hp with z |z
   ·obtain⟨q,hq,rfl⟩:=NY.mp (Q3 p z)
    exact NY.mpr ⟨q,m2 q hq,rfl⟩
   ·have:p=ps[i]:=by simpa using z
    obtain⟨q,hq,e⟩:=m3
    exact NY.mpr ⟨q,hq,by rw[e,this]⟩
  ·refine hR h' tk (λb o hb e=>hm' b o hb ?_) F'
   show h2.get? b=some o
   rw[sb.2 b λz=>hb (by rw[z];exact NR)]
   exact hm b o (λz=>hb (NP _ z)) e
def oZ (a:Value){Q1:Value->Shared->Prop}
  (h:Q1 (.ref s.heap.objs.size) {s with heap:=s.heap.push {cls:=.type "set",dict:=none,data:=.set #[] 0 (.fresh 0 0 (gL w))}}) :
  codeAny (model prog w) A (.call (.builtin "set.__new__") ⟨[.type "set",a],[]⟩) (wants Q1 E) s:=by
 refine codeAny_of_tree ?_
 show wpAny _ A.in1 (do (checkBuiltinCall "set.__new__" ⟨[.type "set",a],[]⟩);again (.builtin "set.__new__" ⟨[.type "set",a],[]⟩)) _ _ s
 refine NL (wpAny_of_eq (F.newCall_set_1 a) (NU ⟨plainId_quiet F.plain_set_new _,PY F.entry_set_new ?_⟩))
 rw[P7 F.plain_set_new _]
 (unfold Builtin.«set.__new__» Builtin.Frozenset.newClass)
 have hsub0:=sub_set_self
 obtain⟨hp0,g0,d0,tk0,os0⟩:=s
 dsimp only
 wp_walk
 (refine Qr (NU ?_))
 dsimp only
 simp only[newObj]
 (refine NL (wpAny_alloc (NU ?_)))
 exact NU h
def BC (led:Bool):Tab (.fresh 0 0 led) []:=
 ⟨.inl rfl,rfl,List.Pairwise.nil,λj h=>(by cases (P5.mpr h)),rfl,(by show (0:Nat) * 5 < 7 * 3;decide),λi j h e=>(by simp[SetTable.fresh] at e),rfl⟩
structure Src (prog:Program)(w:World)(h:Heap)(l:Addr)(vs:List Value)(T:String)(itO:Obj)(St:Addr->Nat->Heap->Prop):Prop where
 ty:∃o,h.get? l=some o/\o.cls=.type T
 ns:isSubtype (.type T) (.type "set")=pure false
 nf:isSubtype (.type T) (.type "frozenset")=pure false
 nd:(Value.type T == Value.type "dict")=false
 it:∀(A:Around) (s1:Shared) (Q:Value->Shared->Prop) (E:Value->Shared->Prop),(∀b o,h.get? b=some o->s1.heap.get? b=some o)->Q (.ref s1.heap.objs.size) {s1 with heap:=s1.heap.push itO}->wpAny (model prog w) A (pyIter (.ref l)) Q E s1
 st:∀(h1:Heap),(∀b o,h.get? b=some o->h1.get? b=some o)->St h1.objs.size 0 (h1.push itO)
 wk:∀(A:Around) (I:Addr),A.handled=none->l≠I->Walks prog w A I [I,l] [I] vs.length (λi v=>vs[i]? =some v) (St I)
def Src.list {h:Heap}{l:Addr}{vs:List Value}(hl:h.IsList l vs.toArray):Src prog w h l vs "list" {cls:=.type "list_iterator",data:=.fields #[.ref l,.int 0 0]} (λI i h'=>h'.IsListIter I l i/\h'.IsList l vs.toArray):=by
 obtain⟨o,ho,hc,n,hd⟩:=id hl
 refine⟨⟨o,ho,hc⟩,F.sub_list_set,F.sub_list_frozenset,by decide,λA s1 Q E k hQ=>Qm ⟨o,k _ _ ho,hc,n,hd⟩ hQ,λh1 k=>⟨⟨_,N3 _ rfl,rfl,rfl⟩,⟨o,NM _ (k _ _ ho),hc,n,hd⟩⟩,λA I hh hne=>?_⟩
 have:=Walks.list (prog:=prog) (w:=w) hh I l hne vs.toArray
 simpa using this
def sub_tuple_set:isSubtype (.type "tuple") (.type "set")=pure false:=by rw[QE];kernel_rfl
def sub_tuple_frozenset:isSubtype (.type "tuple") (.type "frozenset")=pure false:=by rw[QE];kernel_rfl
def Src.tuple {h:Heap}{l:Addr}{vs:List Value}(hl:h.IsTuple l vs.toArray):Src prog w h l vs "tuple" {cls:=.type "tuple_iterator",data:=.fields #[.ref l,.int 0 0]} (λI i h'=>h'.IsTupleIter I l i/\h'.IsTuple l vs.toArray):=by
 obtain⟨o,ho,hc,n,hd⟩:=id hl
 refine⟨⟨o,ho,hc⟩,sub_tuple_set,sub_tuple_frozenset,by decide,λA s1 Q E k hQ=>Qj ⟨o,k _ _ ho,hc,n,hd⟩ hQ,λh1 k=>⟨⟨_,N3 _ rfl,rfl,rfl⟩,⟨o,NM _ (k _ _ ho),hc,n,hd⟩⟩,λA I hh hne=>?_⟩
 have:=Walks.tuple (prog:=prog) (w:=w) hh I l hne vs.toArray
 simpa using this
set_option maxHeartbeats 3200000 in
theorem qS {l:Addr}{vs:List Value}{ps:List Pr}{T:String}{itO:Obj}{St:Addr->Nat->Heap->Prop}{Q:Value->Shared->Prop}(X:Src prog w s.heap l vs T itO St)(hh:A.handled=none)(hu:A.units + 64 < cLine)(hps:dD prog w s.heap vs ps)
  (h:∀(h':Heap) (tk:Nat),pL prog w h' s.heap.objs.size vs ps vs.length->(∀b o,s.heap.get? b=some o->h'.get? b=some o)->Q (.ref s.heap.objs.size) {s with heap:=h',toks:=tk}) :
  wpAny (model prog w) A (call (.type "set") [.ref l]) Q E s:=by
 obtain⟨c0,tl0,hmro0⟩:=OQ.mro
 have hmade0:=OQ.made
 have hsub0:=OQ.sub
 refine wpAny_call (codeAny_of_tree ?_)
 show wpAny _ _ (callAny (.type "set") ⟨[.ref l],[]⟩) _ _ _
 refine NU ⟨Code.quiet_builtin _ (by decide +kernel),PY F.entry_type_call ?_⟩
 (rw[Around.under_plain (weight_type_call_type "set" [.ref l] []) rfl])
 have g1:=OQ.notType
 have g2:=OQ.canCreate
 have g3:=F.typeCall_set_1 (.ref l)
 repeat (any_goals (first |assumption |wp_step))
 refine Qa (oZ (.ref l) (E:=E) (Q1:=λobj s1=>obj=.ref s.heap.objs.size/\s1={s with heap:=s.heap.push {cls:=.type "set",dict:=none,data:=.set #[] 0 (.fresh 0 0 (gL w))}}) ⟨rfl,rfl⟩) λr s1 hr=>?_
 cases r with
 |error e=>exact hr
 |ok fl=>
  cases fl with
  |ret obj=>
   obtain⟨rfl,rfl⟩:=hr
   generalize hO:({cls:=.type "set",dict:=none,data:=.set #[] 0 (.fresh 0 0 (gL w))}:Obj)=O
   have hS0:(s.heap.push O).get? s.heap.objs.size=some O:=N3 _ (by rw[<-hO];rfl)
   have hT0:Shared.TypeIs {s with heap:=s.heap.push O} (.ref s.heap.objs.size) "set":=⟨_,hS0,by rw[<-hO]⟩
   have g4:=OQ.init.lookup
   have g5:=OQ.init.bind (.ref s.heap.objs.size)
   repeat (any_goals (first |assumption |wp_step))
   refine Qa (codeAny_call_builtin (R:=wants (λr s2=>r=.none/\∃h' tk,s2={s with heap:=h',toks:=tk}/\pL prog w h' s.heap.objs.size vs ps vs.length/\(∀b o,s.heap.get? b=some o->h'.get? b=some o)) E)
    OQ.init.plain F.entry_set_init (check_set_init_1 hT0 ?_)) λr2 s2 hr2=>?_
   ·obtain⟨ol,hol,hcl⟩:=X.ty
    have hol':(s.heap.push O).get? l=some ol:=NM _ hol
    have e1:=X.ns
    have e2:=X.nf
    have e3:=X.nd
    have hTl:Shared.TypeIs {s with heap:=s.heap.push O} (.ref l) T:=⟨ol,hol',hcl⟩
    have hdat:O.data=.set #[] 0 (.fresh 0 0 (gL w)):=by rw[<-hO]
    (unfold Builtin.«set.__init__» noKeywords Builtin.Frozenset.updateFrom)
    subst hO
    obtain⟨oc,od,odt,osl⟩:=ol
    simp only at hcl
    subst hcl
    (generalize hPI0:pyIter=PI0)
    wp_walk
    subst hPI0
    have kp:∀b o,s.heap.get? b=some o->(s.heap.push {cls:=.type "set",dict:=none,data:=.set #[] 0 (.fresh 0 0 (gL w))}).get? b=some o:=λb o e=>NM _ e
    refine X.it _ _ _ _ kp ?_
    refine NL (wpAny_runValue ?_)
    have hlS:l < s.heap.objs.size:=N1 hol
    have hh3:A.in1.in1.in1.handled=none:=by simp[hh]
    have hneI:l≠(s.heap.push {cls:=.type "set",dict:=none,data:=.set #[] 0 (.fresh 0 0 (gL w))}).objs.size:=by
     rw[Pg];exact Oz (Nat.lt_succ_of_lt hlS)
    have hSf:s.heap.objs.size∉ [(s.heap.push {cls:=.type "set",dict:=none,data:=.set #[] 0 (.fresh 0 0 (gL w))}).objs.size,l]:=by
     rw[Pg]
     intro z
     rcases NO.mp z with e |z
     ·exact absurd e (Oz (Nat.lt_succ_self _))
     ·exact absurd (Oe.mp z) (Nat.ne_of_gt hlS)
    refine nj (X.wk _ _ hh3 hneI) s.heap.objs.size hSf rfl (λi v e=>e) (by simp;omega) s.heap hps (λb o hb e=>?_) (vs.length - 0) 0 _ (by omega) (Ov _) (X.st _ kp) (λb o e=>NM _ (kp b o e)) ?_ ?_
    ·have hlt:=N1 e
     rw[Pg] at hb
     rcases NO.mp hb with z |z
     ·exact absurd hlt (by rw[z];exact OA _)
     ·rw[Oe.mp z] at hlt
      exact absurd hlt (Nat.not_lt.mpr (Nat.le_succ _))
    ·refine⟨[],⟨⟨_,0,_,NM _ hS0,⟨rfl,rfl,rfl⟩,rfl,BC _,rfl⟩,λq hq=>(by cases hq),P9⟩,λq hq=>(by cases hq),λp hp=>(by simp at hp)⟩
    ·intro h' tk hm F'
     show wpAny _ _ _ _ _ _
     refine NU ?_
     show wpAny _ _ (ret Value.none) _ _ _
     refine NU ⟨rfl,h',tk,rfl,F',λb o e=>hm b o (λz=>?_) (NM _ (kp b o e))⟩
     have hlt:=N1 e
     rw[Pg] at z
     rcases NO.mp z with z |z
     ·exact absurd hlt (by rw[z];exact OA _)
     ·rw[Oe.mp z] at hlt
      exact absurd hlt (Nat.not_lt.mpr (Nat.le_succ _))
   ·cases r2 with
    |error e=>exact hr2
    |ok fl2=>
     cases fl2 with
     |ret r=>
      obtain⟨rfl,h',tk,rfl,hF,hk⟩:=hr2
      repeat (any_goals (first |assumption |wp_step))
      exact h _ _ hF hk
     |_=>exact hr2.elim
  |_=>exact hr.elim
end
end L2.ST
namespace L2.SO
open PySem PySem.W PyProof.Rows
def kX {α:Type}(lt:Nat->Nat->Bool):KasT α->α
 | .ret a=>a
 | .ask i j k=>kX lt (k (lt i j))
theorem fQ {α β:Type}(lt:Nat->Nat->Bool)(f:α->KasT β):∀t:KasT α,kX lt (t.bind f)=kX lt (f (kX lt t))
 | .ret _=>rfl
 | .ask i j k=>fQ lt f (k (lt i j))
def vg {α:Type}(n:Nat)(lt:Nat->Nat->Bool):KasT α->Prop
 | .ret _=>True
 | .ask i j k=>i < n/\j < n/\vg n lt (k (lt i j))
theorem iL {α β:Type}{n:Nat}{lt:Nat->Nat->Bool}{f:α->KasT β}:∀{t:KasT α},vg n lt t->vg n lt (f (kX lt t))->vg n lt (t.bind f)
 | .ret _,_,h=>h
 | .ask i j k,h,h'=>⟨h.1,h.2.1,iL h.2.2 h'⟩
section
variable {n:Nat}{key:Nat->Int}
abbrev oU (key:Nat->Int)(i j:Nat):Bool:=decide (key i < key j)
abbrev Kp (key:Nat->Int)(p:Array Nat)(k:Nat):Int:=key (p.getD k 0)
structure Pm (n:Nat)(p:Array Nat):Prop where
 sz:p.size=n
 nd:p.toList.Nodup
 lt:∀x,x∈p->x < n
def Pm.at {p:Array Nat}(P:Pm n p){k:Nat}(hk:k < n):p.getD k 0 < n:=by
 have h:k < p.size:=by rw[P.sz];exact hk
 simp only[Array.getD,h,dif_pos]
 exact P.lt _ (QF h)
def Pm.ne {p:Array Nat}(P:Pm n p){i k:Nat}(hi:i < n)(hk:k < n)(hne:i≠k):p.getD i 0≠p.getD k 0:=by
 have h1:i < p.toList.length:=by simpa using (by rw[P.sz];exact hi:i < p.size)
 have h2:k < p.toList.length:=by simpa using (by rw[P.sz];exact hk:k < p.size)
 have h1':i < p.size:=by rw[P.sz];exact hi
 have h2':k < p.size:=by rw[P.sz];exact hk
 have a1:p.getD i 0=p.toList[i]:=by simp[Array.getD,h1']
 have a2:p.getD k 0=p.toList[k]:=by simp[Array.getD,h2']
 rw[a1,a2]
 have q:=P6.mp P.nd
 rcases OX i k with c |c
 ·exact q i k h1 h2 c
 ·exact (q k i h2 h1 (by omega)).symm
def Pm.perm {p q:Array Nat}(P:Pm n p)(h:q.Perm p):Pm n q:=by
 have h':=Array.perm_iff_toList_perm.mp h
 exact⟨by rw[h.size_eq];exact P.sz,h'.nodup_iff.mpr P.nd,λx hx=>P.lt x (by simpa using h'.mem_iff.mp (by simpa using hx))⟩
def v5 (n:Nat):Pm n (List.toArray (List.range n)):=⟨by simp,by simpa using Qc,λx hx=>by simpa using hx⟩
def Inj (n:Nat)(key:Nat->Int):Prop:=∀i j,i < n->j < n->key i=key j->i=j
def Pm.tri {p:Array Nat}(P:Pm n p)(hi:Inj n key){i k:Nat}(h1:i < n)(h2:k < n)(hne:i≠k):Kp key p i < Kp key p k\/Kp key p k < Kp key p i:=by
 have:Kp key p i≠Kp key p k:=λe=>P.ne h1 h2 hne (hi _ _ (P.at h1) (P.at h2) e)
 omega
def Up (key:Nat->Int)(p:Array Nat)(m:Nat):Prop:=∀i j,i < j->j < m->Kp key p i < Kp key p j
def Dn (key:Nat->Int)(p:Array Nat)(m:Nat):Prop:=∀i j,i < j->j < m->Kp key p j < Kp key p i
def Up.snoc {p:Array Nat}{m:Nat}(U:Up key p m)(h1:1<=m)(h:Kp key p (m - 1) < Kp key p m):Up key p (m + 1):=λi j hij hj=>by
 rcases OX j m with c |c
 ·exact U i j hij c
 ·have:j=m:=by omega
  subst this
  rcases OX i (j - 1) with d |d
  ·exact Int.lt_trans (U i (j - 1) d (by omega)) h
  ·have:i=j - 1:=by omega
   rw[this];exact h
def Dn.snoc {p:Array Nat}{m:Nat}(U:Dn key p m)(h1:1<=m)(h:Kp key p m < Kp key p (m - 1)):Dn key p (m + 1):=λi j hij hj=>by
 rcases OX j m with c |c
 ·exact U i j hij c
 ·have:j=m:=by omega
  subst this
  rcases OX i (j - 1) with d |d
  ·exact Int.lt_trans h (U i (j - 1) d (by omega))
  ·have:i=j - 1:=by omega
   rw[this];exact h
theorem qw {p:Array Nat}(P:Pm n p)(hi:Inj n key):∀(f m:Nat),1<=m->m + f<=n->Up key p m->
  ∃r,(kX (oU key) (kas_asc p f m)=r/\vg n (oU key) (kas_asc p f m))/\m<=r/\r<=m + f/\Up key p r/\(r < m + f->Kp key p r < Kp key p (r - 1))
 | 0,m,_,_,U=>⟨m,⟨rfl,trivial⟩,NQ _,NQ _,U,λh=>absurd h (OA _)⟩
 |f + 1,m,h1,hn,U=>by
  have b1:p.getD m 0 < n:=P.at (by omega)
  have b2:p.getD (m - 1) 0 < n:=P.at (by omega)
  unfold kas_asc kX vg
  by_cases c:Kp key p m < Kp key p (m - 1)
  ·rw[show oU key (p.getD m 0) (p.getD (m - 1) 0)=true from NS c]
   simp only[OP]
   exact⟨m,⟨rfl,b1,b2,trivial⟩,NQ _,by omega,U,λ_=>c⟩
  ·rw[show oU key (p.getD m 0) (p.getD (m - 1) 0)=false from NZ c]
   simp only[Oa,OC]
   have up:Kp key p (m - 1) < Kp key p m:=(P.tri hi (by omega) (by omega) (by omega)).resolve_right c
   obtain⟨r,⟨e,o⟩,a,b,u,d⟩:=qw P hi f (m + 1) (by omega) (by omega) (U.snoc h1 up)
   exact⟨r,⟨e,b1,b2,o⟩,by omega,by omega,u,λh=>d (by omega)⟩
theorem sM {p:Array Nat}(P:Pm n p)(hi:Inj n key):∀(f m:Nat),1<=m->m + f<=n->Dn key p m->
  ∃r,(kX (oU key) (kas_desc f p m 0)=(p,r,0)/\vg n (oU key) (kas_desc f p m 0))/\m<=r/\r<=m + f/\Dn key p r
 | 0,m,_,_,U=>⟨m,⟨rfl,trivial⟩,NQ _,NQ _,U⟩
 |f + 1,m,h1,hn,U=>by
  have b1:p.getD m 0 < n:=P.at (by omega)
  have b2:p.getD (m - 1) 0 < n:=P.at (by omega)
  unfold kas_desc kX vg
  by_cases c:Kp key p m < Kp key p (m - 1)
  ·rw[show oU key (p.getD m 0) (p.getD (m - 1) 0)=true from NS c]
   simp only[OP,OA,gt_iff_lt,OC]
   obtain⟨r,⟨e,o⟩,a,b,u⟩:=sM P hi f (m + 1) (by omega) (by omega) (U.snoc h1 c)
   exact⟨r,⟨e,b1,b2,o⟩,by omega,by omega,u⟩
  ·rw[show oU key (p.getD m 0) (p.getD (m - 1) 0)=false from NZ c]
   simp only[Oa,OC]
   unfold kX vg
   have up:Kp key p (m - 1) < Kp key p m:=(P.tri hi (by omega) (by omega) (by omega)).resolve_right c
   rw[show oU key (p.getD (m - 1) 0) (p.getD m 0)=true from NS up]
   simp only[OP]
   exact⟨m,⟨rfl,b1,b2,b2,b1,trivial⟩,NQ _,by omega,U⟩
def DY {p:Array Nat}{j k:Nat}(hj:j<=p.size)(hk:k < j):(kas_rev p 0 j).getD k 0=p.getD (j - 1 - k) 0:=by
 unfold kas_rev
 rw[OB,getElem?_mirror_all hj k,NN ⟨Ov _,hk⟩,OB]
 congr 2
 omega
def Im {p:Array Nat}{m:Nat}(hm:m<=p.size)(D:Dn key p m):Up key (kas_rev p 0 m) m:=λi j hij hj=>by
 unfold Kp
 rw[DY hm (by omega),DY hm hj]
 exact D (m - 1 - j) (m - 1 - i) (by omega) (by omega)
def Pm.rev {p:Array Nat}(P:Pm n p)(j:Nat):Pm n (kas_rev p 0 j):=P.perm (mirror_perm ..)
def yW {p:Array Nat}(P:Pm n p)(hi:Inj n key)(h1:1<=n) :
  ∃m q,(kX (oU key) (kas_count n p)=(m,q)/\vg n (oU key) (kas_count n p))/\Pm n q/\1<=m/\m<=n/\Up key q m:=by
 obtain⟨r,⟨e,o⟩,a,b,u,d⟩:=qw P hi (n - 1) 1 (NQ _) (by omega) (λi j hij hj=>by omega)
 have rest:∃m q,(kX (oU key) (if (r == n)=true then KasT.ret (r,p) else if r > 1 then .ask (p.getD 0 0) (p.getD (r - 1) 0) λc=>if c=true then .ret (r,p) else kas_descPart r n (kas_rev p 0 r) else kas_descPart r n p)=(m,q)/\
   vg n (oU key) (if (r == n)=true then KasT.ret (r,p) else if r > 1 then .ask (p.getD 0 0) (p.getD (r - 1) 0) λc=>if c=true then .ret (r,p) else kas_descPart r n (kas_rev p 0 r) else kas_descPart r n p))/\Pm n q/\1<=m/\m<=n/\Up key q m:=by
  by_cases c:(r == n)=true
  ·rw[NN c]
   exact⟨r,p,⟨rfl,trivial⟩,P,a,by omega,u⟩
  ·rw[NV c]
   have hrn:r≠n:=by simpa using c
   have dd:=d (by omega)
   by_cases c2:r > 1
   ·rw[NN c2]
    unfold kX vg
    rw[show oU key (p.getD 0 0) (p.getD (r - 1) 0)=true from NS (u 0 (r - 1) (by omega) (by omega))]
    simp only[OP]
    exact⟨r,p,⟨rfl,P.at (by omega),P.at (by omega),trivial⟩,P,a,by omega,u⟩
   ·rw[NV c2]
    have hr1:r=1:=by omega
    subst hr1
    unfold kas_descPart
    rw[fQ]
    have D2:Dn key p 2:=λi j hij hj=>by
     have e1:i=0:=by omega
     have e2:j=1:=by omega
     rw[e1,e2];exact dd
    obtain⟨x,⟨e2,o2⟩,a2,b2,u2⟩:=sM P hi (n - 2) 2 (by omega) (by omega) D2
    obtain⟨y,⟨e3,o3⟩,a3,b3,u3,_⟩:=qw (P.rev x) hi (n - x) x (by omega) (by omega) (Im (by rw[P.sz];omega) u2)
    rw[show n - (1 + 1)=n - 2 from rfl,show (1 + 1:Nat)=2 from rfl]
    have t3:vg n (oU key) (kas_tail3 x n p):=by
     unfold kas_tail3
     exact iL o3 trivial
    refine⟨y,kas_rev p 0 x,⟨?_,iL o2 ?_⟩,P.rev x,by omega,by omega,u3⟩
    ·rw[e2]
     simp only[OA,gt_iff_lt,OC]
     unfold kas_tail3
     rw[fQ,e3]
     rfl
    ·rw[e2]
     simp only[OA,gt_iff_lt,OC]
     exact t3
 obtain⟨m,q,⟨f1,f2⟩,f3⟩:=rest
 refine⟨m,q,⟨?_,?_⟩,f3⟩
 ·unfold kas_count
  rw[fQ,e]
  exact f1
 ·unfold kas_count
  refine iL o ?_
  rw[e]
  exact f2
theorem place_spec {p:Array Nat}{k:Nat}(P:Pm n p)(hi:Inj n key)(hk:k < n)(U:Up key p k):∀(f l r:Nat),l<=r->r<=k->r - l<=f->(∀i,i < l->Kp key p i < Kp key p k)->(∀i,r<=i->i < k->Kp key p k < Kp key p i)->
  ∃x,(kX (oU key) (kas_place p k f l r)=x/\vg n (oU key) (kas_place p k f l r))/\x<=k/\(∀i,i < x->Kp key p i < Kp key p k)/\(∀i,x<=i->i < k->Kp key p k < Kp key p i)
 | 0,l,r,h1,h2,h3,a,b=>⟨l,⟨rfl,trivial⟩,by omega,a,λi hi=>b i (by omega)⟩
 |f + 1,l,r,h1,h2,h3,a,b=>by
  unfold kas_place
  by_cases c:l>=r
  ·rw[NN c]
   exact⟨l,⟨rfl,trivial⟩,by omega,a,λi hi=>b i (by omega)⟩
  ·rw[NV c]
   have b1:p.getD k 0 < n:=P.at hk
   have b2:p.getD ((l + r) / 2) 0 < n:=P.at (by omega)
   unfold kX vg
   by_cases d:Kp key p k < Kp key p ((l + r) / 2)
   ·rw[show oU key (p.getD k 0) (p.getD ((l + r) / 2) 0)=true from NS d]
    simp only[OP]
    have side:∀i,(l + r) / 2<=i->i < k->Kp key p k < Kp key p i:=λi h1 h2=>by
     rcases OX ((l + r) / 2) i with z |z
     ·exact Int.lt_trans d (U _ _ z h2)
     ·have:i=(l + r) / 2:=by omega
      rw[this];exact d
    obtain⟨x,⟨e1,e2⟩,e3⟩:=place_spec P hi hk U f l ((l + r) / 2) (by omega) (by omega) (by omega) a side
    exact⟨x,⟨e1,b1,b2,e2⟩,e3⟩
   ·rw[show oU key (p.getD k 0) (p.getD ((l + r) / 2) 0)=false from NZ d]
    simp only[Oa,OC]
    have d':Kp key p ((l + r) / 2) < Kp key p k:=(P.tri hi (by omega) hk (by omega)).resolve_right d
    have side:∀i,i < (l + r) / 2 + 1->Kp key p i < Kp key p k:=λi h=>by
     rcases OX i ((l + r) / 2) with z |z
     ·exact Int.lt_trans (U _ _ z (by omega)) d'
     ·have:i=(l + r) / 2:=by omega
      rw[this];exact d'
    obtain⟨x,⟨e1,e2⟩,e3⟩:=place_spec P hi hk U f ((l + r) / 2 + 1) r (by omega) h2 (by omega) side b
    exact⟨x,⟨e1,b1,b2,e2⟩,e3⟩
def DK {p:Array Nat}{k l j:Nat}(hk:k < p.size)(hl:l<=k):(bubble p k (k - l)).getD j 0=if j=l then p.getD k 0 else if l < j/\j<=k then p.getD (j - 1) 0 else p.getD j 0:=by
 rw[OB,getElem?_bubble hk (k - l) (by omega) j,show k - (k - l)=l by omega]
 simp only[OB]
 split
 ·rfl
 ·split <;> rfl
theorem wX (hi:Inj n key):∀(f k:Nat) (p:Array Nat),Pm n p->1<=k->k + f=n->Up key p k->∃q,(kX (oU key) (kas_bin f p k)=q/\vg n (oU key) (kas_bin f p k))/\Pm n q/\Up key q n
 | 0,k,p,P,_,e,U=>⟨p,⟨rfl,trivial⟩,P,by rw[<-e];exact U⟩
 |f + 1,k,p,P,h1,e,U=>by
  have hk:k < n:=by omega
  obtain⟨l,⟨el,ol⟩,hl,a,b⟩:=place_spec P hi hk U k 0 k (Ov _) (NQ _) (by omega) (λi h=>by omega) (λi h h'=>by omega)
  have side:Up key (bubble p k (k - l)) (k + 1):=λi j hij hj=>by
   have hks:k < p.size:=by rw[P.sz];exact hk
   unfold Kp
   rw[DK hks hl,DK hks hl]
   by_cases i1:i=l
   ·rw[NN i1,NV (by omega)]
    by_cases j2:l < j/\j<=k
    ·rw[NN j2];exact b _ (by omega) (by omega)
    ·omega
   ·rw[NV i1]
    by_cases i2:l < i/\i<=k
    ·rw[NN i2,NV (by omega),NN (by omega)]
     exact U _ _ (by omega) (by omega)
    ·rw[NV i2]
     by_cases j1:j=l
     ·rw[NN j1];exact a _ (by omega)
     ·rw[NV j1]
      by_cases j2:l < j/\j<=k
      ·rw[NN j2]
       rcases OX i (j - 1) with z |z
       ·exact U _ _ z (by omega)
       ·omega
      ·rw[NV j2];exact U _ _ hij (by omega)
  obtain⟨q,⟨q1,q2⟩,q3⟩:=wX hi f (k + 1) (bubble p k (k - l)) (P.perm (bubble_perm ..)) (by omega) (by omega) side
  refine⟨q,⟨?_,?_⟩,q3⟩
  ·unfold kas_bin;rw[fQ,el];exact q1
  ·unfold kas_bin;refine iL ol ?_;rw[el];exact q2
def Ag (hi:Inj n key)(h2:2<=n):∃q,(kX (oU key) (kas_sort n)=q/\vg n (oU key) (kas_sort n))/\Pm n q/\Up key q n:=by
 obtain⟨m,q,⟨e,o⟩,P,a,b,u⟩:=yW (v5 n) hi (by omega)
 by_cases c:m < n
 ·obtain⟨q',⟨e1,o1⟩,r⟩:=wX hi (n - m) m q P a (by omega) u
  refine⟨q',⟨?_,?_⟩,r⟩
  ·unfold kas_sort;rw[fQ,e];dsimp only;rw[NN c,Nat.max_eq_left a];exact e1
  ·unfold kas_sort;refine iL o ?_;rw[e];dsimp only;rw[NN c,Nat.max_eq_left a];exact o1
 ·refine⟨q,⟨?_,?_⟩,P,λi j hij hj=>u i j hij (by omega)⟩
  ·unfold kas_sort;rw[fQ,e];dsimp only;rw[NV c];rfl
  ·unfold kas_sort;refine iL o ?_;rw[e];dsimp only;rw[NV c];trivial
theorem wp_run {α:Type}{n:Nat}{lt:Nat->Nat->Bool}{cmp:Nat->Nat->(Bool->Shared->Prop)->Shared->Prop}{Q:α->Shared->Prop}{s:Shared} :
  ∀(t:KasT α),(∀i j C,i < n->j < n->C (lt i j) s->cmp i j C s)->vg n lt t->Q (kX lt t) s->t.kasWp cmp Q s
 | .ret a,_,_,h=>h
 | .ask i j k,hc,ho,h=>hc i j _ ho.1 ho.2.1 (wp_run (k (lt i j)) hc ho.2.2 h)
end
end L2.SO
namespace L2.ST
open PySem PySem.SetTable PySem.W PyProof.Rows
def code (p:Pr):Int:=p.1 * 8 + p.2
def Ae {p q:Pr}(h1:Sm p)(h2:Sm q):code p < code q↔p.1 < q.1\/(p.1=q.1/\p.2 < q.2):=by
 unfold code Sm at *;omega
def code_inj {p q:Pr}(h1:Sm p)(h2:Sm q)(e:code p=code q):p=q:=by
 unfold code Sm at *
 refine Prod.ext ?_ ?_ <;> omega
section
variable {prog:Program}{w:World}{A:Around}{E:Value->Shared->Prop}{s:Shared}
abbrev rl (ps:List Pr)(i:Nat):Int:=code (ps.getD i (0,0))
def Dr {ps:List Pr}(nd:ps.Nodup)(hs:∀p,p∈ps->Sm p):L2.SO.Inj ps.length (rl ps):=λi j hi hj e=>by
 have a1:ps.getD i (0,0)=ps[i]:=by simp[hi]
 have a2:ps.getD j (0,0)=ps[j]:=by simp[hj]
 unfold rl at e
 rw[a1,a2] at e
 have e':=code_inj (hs _ (O8 hi)) (hs _ (O8 hj)) e
 have q:=P6.mp nd
 rcases Qn i j with c |c |c
 ·exact absurd e' (q i j hi hj c)
 ·exact c
 ·exact absurd e'.symm (q j i hj hi c)
theorem EY {a b:Addr}{p q:Pr}{Q:Bool->Shared->Prop}(ha:b8 prog w s.heap p a)(hb:b8 prog w s.heap q b)(hp:Sm p)(hq:Sm q)(h:Q (decide (code p < code q)) s) :
  wpAny (model prog w) A (keyLt' (tuples' true) (.ref a) (.ref b)) Q E s:=by
 obtain⟨oa,ia,na,hoa,hca,hda,hia⟩:=ha
 obtain⟨ob,ib,nb,hob,hcb,hdb,hib⟩:=hb
 obtain⟨l1,rfl⟩:∃l,ia=List.toArray l:=⟨ia.toList,by simp⟩
 obtain⟨l2,rfl⟩:∃l,ib=List.toArray l:=⟨ib.toList,by simp⟩
 simp only[Pp] at hia hib
 cases hia with
 | @cons _ v1 _ _ h1 hia=>
  cases hia with
  | @cons _ v2 _ _ h2 hia=>
   cases hia
   cases hib with
   | @cons _ u1 _ _ g1 hib=>
    cases hib with
    | @cons _ u2 _ _ g2 hib=>
     cases hib
     obtain⟨t1,rfl⟩:=PJ h1
     obtain⟨t2,rfl⟩:=PJ h2
     obtain⟨t3,rfl⟩:=PJ g1
     obtain⟨t4,rfl⟩:=PJ g2
     refine kat_lt hoa hda hob hdb ?_
     have hc:=Ae hp hq
     refine kat_cons (wpAny_eqBool_int ?_)
     by_cases e1:p.1=q.1
     ·rw[show (p.1 == q.1)=true by simpa using e1]
      refine kat_yes (kat_cons (wpAny_eqBool_int ?_))
      by_cases e2:p.2=q.2
      ·rw[show (p.2 == q.2)=true by simpa using e2]
       refine kat_yes (kat_nil ?_)
       have:decide (code p < code q)=false:=NZ (by rw[hc];omega)
       rw[this] at h
       simpa using h
      ·rw[show (p.2 == q.2)=false by simpa using e2]
       refine kat_no ?_
       show wpAny _ _ (oneLt' false _ _) _ _ _
       refine kat_one _ _ (lt_int ?_)
       have:decide (code p < code q)=decide (p.2 < q.2):=by
        by_cases z:p.2 < q.2
        ·rw[NS z];exact NS (hc.mpr (.inr ⟨e1,z⟩))
        ·rw[NZ z];exact NZ (by rw[hc];omega)
       rw[this] at h;exact h
     ·rw[show (p.1 == q.1)=false by simpa using e1]
      refine kat_no ?_
      show wpAny _ _ (oneLt' true _ _) _ _ _
      refine oneLt_int ?_
      have:decide (code p < code q)=decide (p.1 < q.1):=by
       by_cases z:p.1 < q.1
       ·rw[NS z];exact NS (hc.mpr (.inl z))
       ·rw[NZ z];exact NZ (by rw[hc];omega)
      rw[this] at h;exact h
theorem zE:∀{vs:List Value} {ps:List Pr},dD prog w s.heap vs ps->∃fs,KatTups s.heap vs fs/\fs.length=vs.length/\∀v∈fs,∃(i:Int) (t:Tok),v=.int i t
 | [],ps,_=>⟨[],KatTups.nil,rfl,λv hv=>by cases hv⟩
 |v :: vs,[],h=>by have:=h.1;simp at this
 |v :: vs,p :: ps,h=>by
  obtain⟨a,rfl,⟨o,items,n,ho,hc,hd,hi⟩,_⟩:=h.2 0 v p rfl rfl
  obtain⟨fs,k,e,f⟩:=zE (vs:=vs) (ps:=ps) ⟨by simpa using h.1,λi v p h1 h2=>h.2 (i + 1) v p (by simpa using h1) (by simpa using h2)⟩
  obtain⟨l1,rfl⟩:∃l,items=List.toArray l:=⟨items.toList,by simp⟩
  simp only[Pp] at hi
  cases hi with
  | @cons _ v1 _ _ h1 hi=>
   obtain⟨t1,rfl⟩:=PJ h1
   exact⟨_ :: fs,KatTups.cons ho hc hd rfl k,by simp[e],λv hv=>by
    rcases NO.mp hv with z |z
    ·exact⟨_,_,z⟩
    ·exact f v z⟩
def wu {a:Addr}{vs:List Value}{ps:List Pr}{n:Nat}{P:PySem.Fin->Shared->Prop}(ho:s.heap.get? a=some (seqObj "list" vs.toArray n))(hps:dD prog w s.heap vs ps)(nd:ps.Nodup)(h64:vs.length < 64)
  (h:∀(h':Heap) (c:Nat) (ix:Array Nat),L2.SO.Pm vs.length ix->L2.SO.Up (rl ps) ix vs.length->(∀b o,b≠a->s.heap.get? b=some o->h'.get? b=some o)->
   h'.get? a=some (seqObj "list" (ix.toList.map λi=>vs.getD i Value.none).toArray c)->P (.done (.ret .none)) {s with heap:=h'}) :
  wpAny (model prog w) A (Builtin.«list.sort» ⟨[.ref a],[]⟩) P E s:=by
 have ha:a < s.heap.objs.size:=N1 ho
 obtain⟨e1,ho1⟩:∃e1,(s.heap.update a (Obj.mapSeq λ_=>(#[]:Array Value))).get? a=some (seqObj "list" #[] e1):=⟨_,get?_update_seq ho λ_=>#[]⟩
 generalize hH1:(s.heap.update a (Obj.mapSeq λ_=>(#[]:Array Value)))=H1 at ho1
 have sb1:Heap.SameBut a s.heap H1:=by rw[<-hH1];exact Heap.SameBut.update ..
 have kp2:∀b o,H1.get? b=some o->((H1.push (seqObj "tuple" vs.toArray 0)).push (seqObj "list" #[] 0)).get? b=some o:=λb o e=>NM _ (NM _ e)
 generalize hH2:((H1.push (seqObj "tuple" vs.toArray 0)).push (seqObj "list" #[] 0))=H2 at kp2
 have kp:∀b o,b≠a->s.heap.get? b=some o->H2.get? b=some o:=λb o hb e=>kp2 b o ((sb1.2 b hb).trans e)
 have ho2:=kp2 _ _ ho1
 have hps2:dD prog w H2 vs ps:=⟨hps.1,λi v p h1 h2=>by
  obtain⟨b,e,⟨o,it,m,hb,hc,hd,r⟩,hs⟩:=hps.2 i v p h1 h2
  refine⟨b,e,⟨o,it,m,kp b o (λz=>?_) hb,hc,hd,r⟩,hs⟩
  subst z
  rw[ho] at hb;cases hb
  exact absurd hc (by simp[seqObj])⟩
 have hz:vs.length<=sizeLine:=by rw[Ot];omega
 rw[list_sort_plain]
 refine NL (listItems_at ho rfl (NL (listUpdate_at ho rfl ?_ (by simpa using hz) (Ov _))))
 rw[hH1]
 refine NL (seqEpoch_at (s:={s with heap:=H1}) ho1 rfl (NL (wpAny_newTuple ?_ (by simpa using hz))))
 refine NL (wpAny_newList ?_ (Ov _))
 refine Py ?_
 show wpAny (model prog w) A _ P E {s with heap:=(H1.push (seqObj "tuple" vs.toArray 0)).push (seqObj "list" #[] 0)}
 rw[hH2]
 have fin:∀(ix:Array Nat) (st:SortSt),L2.SO.Pm vs.length ix->L2.SO.Up (rl ps) ix vs.length->(arrOf st).map (·.2)=List.toArray (ix.toList.map λi=>vs.getD i Value.none)->failedOf st=none->
   wpAny (model prog w) A (do
    let sorted:=(arrOf st).map (·.2)
    let touched:=(<-seqEpoch a) != e1
    Builtin.List.listUpdate (.ref a) λ_=>sorted
    if let some e:=failedOf st then rule "list.sort.comparison-raised";throw e
    if touched then rule "list.sort.modified";raiseError "ValueError" "list modified during sort"
    ret .none) P E {s with heap:=H2}:=λix st P1 U1 hout hf=>by
  dsimp only
  rw[hout]
  have hsz:(List.toArray (ix.toList.map λi=>vs.getD i Value.none)).size=vs.length:=by simp[P1.sz]
  refine NL (seqEpoch_at (s:={s with heap:=H2}) ho2 rfl ?_)
  refine NL (listUpdate_at (s:={s with heap:=H2}) ho2 rfl ?_ (Ov _) (OU (Nat.le_of_eq hsz) (Nat.le_succ_of_le hz)))
  rw[hf]
  simp only[bne_self_eq_false,Oa,OC]
  obtain⟨c2,hc2⟩:∃c2,(H2.update a (Obj.mapSeq λ_=>List.toArray (ix.toList.map λi=>vs.getD i Value.none))).get? a=some (seqObj "list" (List.toArray (ix.toList.map λi=>vs.getD i Value.none)) c2):=⟨_,get?_update_seq ho2 λ_=>List.toArray (ix.toList.map λi=>vs.getD i Value.none)⟩
  exact NU (h _ c2 ix P1 U1 (λb o hb e=>((Heap.SameBut.update H2 a _).2 b hb).trans (kp b o hb e)) hc2)
 by_cases h2:vs.length < 2
 ·have h2':vs.toArray.size < 2:=by simpa using h2
  dsimp only
  rw[NN h2',NN h2']
  refine NL (NU ?_)
  rw[StateT.run_pure]
  refine NL (NU ?_)
  refine fin (List.toArray (List.range vs.length)) (SortSt.mk' general' (vs.toArray.zip vs.toArray) #[] 7 none) (L2.SO.v5 _) (λi j hij hj=>by omega) ?_ rfl
  have:∀{l:List Value},l.length < 2->((l.toArray.zip l.toArray).map (·.2))=List.toArray ((List.range l.length).map λi=>l.getD i Value.none):=λ{l} hl=>by
   match l,hl with
   | [],_=>simp
   | [x],_=>simp
  exact (this h2).trans (by simp)
 ·have h2':¬vs.toArray.size < 2:=by simpa using h2
  dsimp only
  rw[NV h2',NV h2']
  obtain⟨fs,kt,fl,ff⟩:=zE (s:={s with heap:=H2}) hps2
  refine NL (kat_kind (s:={s with heap:=H2}) (T:=.type "int") kt (by omega) (λv hv=>?_) (by decide) ?_)
  ·obtain⟨i,t,rfl⟩:=ff v hv
   exact .now
  ·rw[show ((Value.type "int" != Value.type "tuple"):Bool)=true by decide]
   have hinj:L2.SO.Inj vs.length (rl ps):=by
    rw[hps.1]
    refine Dr nd λp hp=>?_
    obtain⟨i,hi,e⟩:=Oy.mp hp
    have hi':i < vs.length:=by rw[hps.1];exact hi
    obtain⟨_,_,_,hs⟩:=hps.2 i vs[i] p (NK hi') (by rw[NK hi,e])
    exact hs
   obtain⟨ix,⟨er,ok⟩,P1,U1⟩:=L2.SO.Ag hinj (by omega)
   refine NL (Px (kat_run (s:={s with heap:=H2}) (κ:=tuples' true) (ks:=vs) (Q:=λst s'=>s'={s with heap:=H2}/\arrOf st=ix.map (kas_item (vs.toArray.zip vs.toArray))/\failedOf st=none)
    (G:=λp s'=>p=ix/\s'={s with heap:=H2}) rfl (by omega) h64 (λp st s' a1 a2 a3 a4=>?_) (L2.SO.wp_run (n:=vs.length) (lt:=L2.SO.oU (rl ps)) _ (λi j C hi hj hC=>?_) ok ⟨er,rfl⟩)) ?_ λ_ _ x=>x)
   ·obtain⟨rfl,rfl⟩:=a4
    exact⟨rfl,a2,a3⟩
   ·unfold kas_ask
    have hi':i < ps.length:=by rw[<-hps.1];exact hi
    have hj':j < ps.length:=by rw[<-hps.1];exact hj
    obtain⟨b1,eb1,hb1,s1⟩:=hps2.2 i vs[i] ps[i] (NK hi) (NK hi')
    obtain⟨b2,eb2,hb2,s2⟩:=hps2.2 j vs[j] ps[j] (NK hj) (NK hj')
    have e1:vs.getD i Value.none=.ref b1:=by rw[<-eb1];simp[hi]
    have e2:vs.getD j Value.none=.ref b2:=by rw[<-eb2];simp[hj]
    rw[e1,e2]
    refine EY (s:={s with heap:=H2}) hb1 hb2 s1 s2 ?_
    have:L2.SO.oU (rl ps) i j=decide (code ps[i] < code ps[j]):=by
     unfold L2.SO.oU rl;simp[hi',hj']
    rw[<-this];exact hC
   ·rintro⟨⟨⟩,st⟩ s' ⟨rfl,har,hf⟩
    exact fin ix st P1 U1 (kat_snds rfl har) hf
end
def cw:Slot "set_iterator" "__next__" "set_iterator.__next__":=
 Slot.of (owner:="set_iterator") (n:="__next__") (by rw[typeLookup_type,builtinLookup_eq_fast];kernel_rfl) (by decide +kernel) (by decide +kernel) (by decide +kernel) (by first |exact .inl (by decide +kernel) |exact .inr (by decide +kernel)) (by rw[QE];kernel_rfl)
def jK:entryFor table "set_iterator.__next__"=some Builtin.«set_iterator.__next__»:=entryFor_of_tree (by kernel_rfl)
def kT (a:Value):argsOk "set_iterator.__next__" ⟨[a],[]⟩:=by unfold argsOk;kernel_rfl
def p5:entryFor table "set.__iter__"=some Builtin.«frozenset.__iter__»:=entryFor_alias (id':="frozenset.__iter__") (by kernel_rfl) rfl (by decide +kernel) (by kernel_rfl)
def kR:Slot "set_iterator" "__iter__" "set_iterator.__iter__":=
 Slot.of (owner:="set_iterator") (n:="__iter__") (by rw[typeLookup_type,builtinLookup_eq_fast];kernel_rfl) (by decide +kernel) (by decide +kernel) (by decide +kernel) (by first |exact .inl (by decide +kernel) |exact .inr (by decide +kernel)) (by rw[QE];kernel_rfl)
def ou:entryFor table "set_iterator.__iter__"=some Builtin.«dict_keyiterator.__iter__»:=entryFor_alias (id':="dict_keyiterator.__iter__") (by kernel_rfl) rfl (by decide +kernel) (by kernel_rfl)
def pd (a:Value):argsOk "set_iterator.__iter__" ⟨[a],[]⟩:=by unfold argsOk;kernel_rfl
def Gu (a:Addr)(slot given ep0:Nat):setNext a slot given ep0=(do
  let (es,epoch,t) <-setState a
  if (<-ask).params.followText "set-order" then
   if epoch != ep0 then unsupported "set_iterator.__next__:elements-changed"
   return ((<-setWalk a)[given]?).map λe=>(e.2,slot)
  if !t.plain && es.size > 1 then unsupported "set_iterator.__next__:the-table-is-plain-no-more"
  let u:Unit <-(show Sem Unit from do if !t.led && !es.isEmpty then unsupported "set:maker-not-led")
  let i:=SetTable.below t.place slot
  return match es[i]?,t.place[i]? with
   |some (_,x),some j=>some (x,j + 1)
   |_,_=>none):=by
 unfold setNext setsByText
 simp only[bind_assoc,pure_bind]
 rfl
def FD (a:Addr):setWalk a=(do
  let (es,epoch,t) <-setState a
  if (<-ask).params.followText "set-order" then return pickOrder ((<-ask).params.setOrder a epoch) es
  if !t.plain && es.size > 1 then return (<-drawOrder es.size es.toList).toArray
  let u:Unit <-(show Sem Unit from do if !t.led && es.size > 1 then unsupported "set:maker-not-led")
  return es):=by
 unfold setWalk setsByText
 simp only[bind_assoc,pure_bind]
 rfl
def BX (a:Addr):setDrawn a=(do
  let (es,_,t) <-setState a
  let byText <-(do return (<-ask).params.followText "set-order")
  return !byText && (!t.plain && es.size > 1)):=rfl
theorem iM {α:Type}:∀(l:List α) (i:Nat) (h:i < l.length),(l[i] :: l.eraseIdx i).Perm l
 |a :: l,0,_=>List.Perm.refl _
 |a :: l,i + 1,h=>by
  have hi:i < l.length:=by simpa using h
  show (l[i] :: a :: l.eraseIdx i).Perm (a :: l)
  exact (List.Perm.swap ..).trans ((iM l i hi).cons a)
theorem sY {α:Type}(next:Nat->Nat):∀(fuel k:Nat) (left:List α) (out:Array α),left.length=fuel->(pickOrder.go next fuel k left out).toList.Perm (out.toList ++ left)
 | 0,k,left,out,h=>by
  have:left= []:=Qf.mp h
  subst this
  unfold pickOrder.go
  simp
 |fuel + 1,k,left,out,h=>by
  unfold pickOrder.go
  have hlt:next k % left.length < left.length:=Nat.mod_lt _ (by omega)
  rw[NK hlt]
  dsimp only
  refine (sY next fuel (k + 1) _ _ (by rw[List.length_eraseIdx_of_lt hlt];omega)).trans ?_
  rw[Array.toList_push,OS]
  refine List.Perm.append_left _ ?_
  exact iM left _ hlt
def lI {α:Type}(next:Nat->Nat)(xs:Array α):(pickOrder next xs).toList.Perm xs.toList:=by
 have:=sY next xs.size 0 xs.toList #[] (by simp)
 simpa[pickOrder] using this
section
variable {prog:Program}{w:World}{A:Around}{E:Value->Shared->Prop}{s:Shared}
def told (w:World)(S:Addr)(ep:Nat)(es:Array (Int×Value)):Array (Int×Value):=if w.params.followText "set-order" then pickOrder (w.params.setOrder S ep) es else es
def sL (w:World)(S:Addr)(ep:Nat)(es:Array (Int×Value)):(told w S ep es).toList.Perm es.toList:=by
 unfold told;split
 ·exact lI _ _
 ·exact List.Perm.refl _
abbrev vW (S:Addr)(slot k n ep:Nat):Obj:={cls:=.type "set_iterator",data:=.fields #[.int (slot:Int) 0,.int (k:Int) 0,.ref S,.int (n:Int) 0,.int (ep:Int) 0]}
structure nJ (w:World)(S:Addr)(o:Obj)(es:Array (Int×Value))(ep:Nat)(t:SetTable)(I:Addr)(k:Nat)(h:Heap):Prop where
 set:h.get? S=some o
 data:o.data=.set es ep t
 cls:o.cls=.type "set"
 tab:Tab t (es.toList.map (·.1))
 led:t.led=gL w
 it:∃slot,h.get? I=some (vW S slot k es.size ep)/\(gL w=true->slot=if k=0 then 0 else t.place.getD (k - 1) 0 + 1)
def nJ.fits {S I:Addr}{o:Obj}{es:Array (Int×Value)}{ep k:Nat}{t:SetTable}{h:Heap}(X:nJ w S o es ep t I k h):t.fits es.size=true:=qB X.tab (by simp)
theorem zS {S I:Addr}{o:Obj}{es:Array (Int×Value)}{ep k slot:Nat}{t:SetTable}{Q:Option (Value×Nat)->Shared->Prop}(X:nJ w S o es ep t I k s.heap)(hk:k<=es.size)(hs:gL w=true->slot=if k=0 then 0 else t.place.getD (k - 1) 0 + 1)
  (h:∀(r:Option (Value×Nat)),(k < es.size->∃x nx,r=some (x,nx)/\(told w S ep es)[k]?.map (·.2)=some x/\(gL w=true->nx=t.place.getD k 0 + 1))->(k=es.size->r=none)->Q r s) :
  wpAny (model prog w) A (setNext S slot k ep) Q E s:=by
 rw[Gu]
 refine NL (ON X.set X.data X.fits ?_)
 dsimp only
 refine NL (Qr ?_)
 dsimp only
 cases hb:w.params.followText "set-order" with
 |true=>
  rw[NN (show (model prog w).w.params.followText "set-order"=true from hb)]
  simp only[bne_self_eq_false,Oa,OC]
  rw[FD]
  refine NL (NL (ON X.set X.data X.fits ?_))
  dsimp only
  refine NL (Qr ?_)
  dsimp only
  rw[NN (show (model prog w).w.params.followText "set-order"=true from hb)]
  refine NL (Qr (NU (NU ?_)))
  have et:told w S ep es=pickOrder (w.params.setOrder S ep) es:=by unfold told;rw[NN hb]
  have hsz:(pickOrder (w.params.setOrder S ep) es).size=es.size:=by
   have:=(lI (w.params.setOrder S ep) es).length_eq;simpa using this
  refine h _ (λhlt=>?_) (λe=>?_)
  ·have hlt':k < (pickOrder (w.params.setOrder S ep) es).size:=by rw[hsz];exact hlt
   refine⟨(pickOrder (w.params.setOrder S ep) es)[k].2,slot,?_,?_,λz=>?_⟩
   ·show Option.map _ (pickOrder (w.params.setOrder S ep) es)[k]? =_
    rw[Oo hlt'];rfl
   ·rw[et,Oo hlt'];rfl
   ·unfold gL at z;rw[hb] at z;cases z
  ·show Option.map _ (pickOrder (w.params.setOrder S ep) es)[k]? =_
   rw[Ql (by rw[hsz];omega)];rfl
 |false=>
  rw[NV (show ¬(model prog w).w.params.followText "set-order"=true by intro z;rw[show (model prog w).w.params.followText "set-order"=false from hb] at z;cases z)]
  have hl:gL w=true:=by unfold gL;rw[hb];rfl
  rw[X.tab.plain,X.led,hl]
  simp only[Qh,Bool.false_and,Oa,OC]
  have et:told w S ep es=es:=by unfold told;rw[hb];simp
  have hps:t.place.size=es.size:=by simpa using X.tab.size
  have hbl:below t.place slot=k:=by
   rw[hs hl]
   obtain⟨b1,b2,b3⟩:=eQ X.tab.rise (if k=0 then 0 else t.place.getD (k - 1) 0 + 1)
   by_cases k0:k=0
   ·subst k0
    simp only[OP] at b1 b2 b3 ⊢
    rcases Nat.eq_zero_or_pos (below t.place 0) with z |z
    ·exact z
    ·have:=b2 0 z;omega
   ·rw[NV k0] at b1 b2 b3 ⊢
    have hk1:k - 1 < t.place.size:=by omega
    rcases Qn (below t.place (t.place.getD (k - 1) 0 + 1)) k with z |z |z
    ·have q:=b3 (k - 1) (by omega) hk1
     have e:t.place.getD (k - 1) (t.place.getD (k - 1) 0 + 1)=t.place.getD (k - 1) 0:=by simp[Array.getD,hk1]
     omega
    ·exact z
    ·have hks:k < t.place.size:=by omega
     have q:=b2 k z
     have e:t.place.getD k (t.place.getD (k - 1) 0 + 1)=t.place.getD k 0:=by simp[Array.getD,hks]
     have:=i7 (d:=0) X.tab.rise (show k - 1 < k by omega) hks
     omega
  refine NU ?_
  rw[hbl]
  refine h _ (λhlt=>?_) (λe=>?_)
  ·have hlt2:k < t.place.size:=by omega
   refine⟨es[k].2,t.place[k] + 1,?_,?_,λ_=>?_⟩
   ·rw[Oo hlt,Oo hlt2]
   ·rw[et,Oo hlt];rfl
   ·simp[Array.getD,hlt2]
  ·rw[Ql (by omega)]
def By {S I:Addr}{o:Obj}{es:Array (Int×Value)}{ep:Nat}{t:SetTable}(hh:A.handled=none)(hne:S≠I) :
  Walks prog w A I [I,S] [I] es.size (λi v=>(told w S ep es)[i]?.map (·.2)=some v) (λi h=>nJ w S o es ep t I i h) where
 sub:=λb hb=>NO.mpr (.inl (Oe.mp hb))
 frame:=λi h h' X k=>by
  obtain⟨slot,e,r⟩:=X.it
  exact⟨k S (by simp) _ X.set,X.data,X.cls,X.tab,X.led,slot,k I (by simp) _ e,r⟩
 item:=λi s Q E hi X hQ=>by
  obtain⟨slot,e,r⟩:=X.it
  have hT:s.TypeIs (.ref I) "set_iterator":=⟨_,e,rfl⟩
  unfold pyNext
  refine NL (wpAny_attempt (wpAny_callSpecial?_slot (name:=Str.ofString "__next__") hT cw (Qd cw hT jK ?_ (kT _))))
  unfold Builtin.«set_iterator.__next__»
  refine NL (m:=slotArgs "__next__" 0 _) (NU ?_)
  dsimp only
  unfold fieldsOf
  refine NL (NL (wpAny_load e (NU ?_)))
  dsimp only
  unfold setEntries
  refine NL (NL (ON X.set X.data X.fits (NU ?_)))
  dsimp only
  rw[NV (by simp)]
  refine NL ?_
  simp only[Oj]
  refine zS X (Qq hi) r λrr h1 _=>?_
  obtain⟨x,nx,rfl,h2,h3⟩:=h1 hi
  dsimp only
  refine NL (PN e rfl (by simp) ?_)
  have e2:=OK (Obj.mapFields λvs=>vs.setIfInBounds 0 (rawInt (nx:Int))) e rfl
  refine NL (PN e2 rfl (by simp) ?_)
  refine NU ⟨x,rfl,NU ?_⟩
  have sb:=(Heap.SameBut.update s.heap I (Obj.mapFields λvs=>vs.setIfInBounds 0 (rawInt (nx:Int)))).trans (Heap.SameBut.update _ I (Obj.mapFields λvs=>vs.setIfInBounds 1 (rawInt ((i:Int) + 1))))
  refine hQ x _ _ h2 ⟨(sb.2 S hne).trans X.set,X.data,X.cls,X.tab,X.led,nx,?_,λz=>?_⟩ λb o hb eb=>(sb.2 b (by simpa using hb)).trans eb
  ·exact OK (Obj.mapFields λvs=>vs.setIfInBounds 1 (rawInt ((i:Int) + 1))) e2 rfl
  ·rw[NV (by omega)];exact h3 z
 done:=λs Q E X hQ=>by
  obtain⟨slot,e,r⟩:=X.it
  have hT:s.TypeIs (.ref I) "set_iterator":=⟨_,e,rfl⟩
  unfold pyNext
  refine NL (wpAny_attempt (wpAny_callSpecial?_slot (name:=Str.ofString "__next__") hT cw (Qd cw hT jK ?_ (kT _))))
  unfold Builtin.«set_iterator.__next__»
  refine NL (m:=slotArgs "__next__" 0 _) (NU ?_)
  dsimp only
  unfold fieldsOf
  refine NL (NL (wpAny_load e (NU ?_)))
  dsimp only
  unfold setEntries
  refine NL (NL (ON X.set X.data X.fits (NU ?_)))
  dsimp only
  rw[NV (by simp)]
  refine NL ?_
  simp only[Oj]
  refine zS X (NQ _) r λrr _ h1=>?_
  rw[h1 rfl]
  dsimp only
  refine NL (PN e rfl (by simp) ?_)
  (show wpAny _ _ (newExc (.type "StopIteration") [] >>= λx=>raiseNew x) _ _ _)
  refine NL ?_
  simp only[newExc,newTuple]
  (refine NL (PK ?_ (by size_fits)))
  (refine NL (m:=firstArgMember _ _) (wpAny_of_eq (a:=Value.none) (by first |rfl | (simp only[firstArgMember];rfl)) ?_))
  (refine PK ?_ (by size_fits))
  simp only[raiseNew]
  refine NL (wpAny_handled ?_)
  (rw[show A.in1.handled=none from hh])
  refine NL (NU (wpAny_throw ?_))
  refine NL (wpAny_isInstance (T:="StopIteration") (b:=true) ⟨_,N3 _ rfl,rfl⟩ isSubtype_stop (NU (hQ _ _ λb o hb eb=>?_)))
  exact NM _ (NM _ (((Heap.SameBut.update ..).2 b (by simpa using hb)).trans eb))
 self:=λi s Q E X hQ=>by
  obtain⟨slot,e,r⟩:=X.it
  have hT:s.TypeIs (.ref I) "set_iterator":=⟨_,e,rfl⟩
  refine wpAny_pyIter_slot hT kR (Qd kR hT ou ?_ (pd _))
  show wpAny _ _ (ret (.ref I)) _ _ s
  exact NU ⟨_,rfl,"set_iterator",_,hT,cw.lookup,hQ⟩
def DC {S:Addr}{o:Obj}{es:Array (Int×Value)}{ep:Nat}{t:SetTable}{Q:Value->Shared->Prop}(ho:s.heap.get? S=some o)(hd:o.data=.set es ep t)(hc:o.cls=.type "set")(T:Tab t (es.toList.map (·.1)))(hl:t.led=gL w)
  (h:Q (.ref s.heap.objs.size) {s with heap:=s.heap.push (vW S 0 0 es.size ep)}):wpAny (model prog w) A (pyIter (.ref S)) Q E s:=by
 have hT:s.TypeIs (.ref S) "set":=⟨o,ho,hc⟩
 have hf:t.fits es.size=true:=qB T (by simp)
 refine wpAny_pyIter_slot hT F.slot_set_iter (Qd F.slot_set_iter hT p5 ?_ (F.args_set_iter_1 _))
 unfold Builtin.«frozenset.__iter__» Builtin.Frozenset.slot0
 refine NL (NL (m:=slotArgs "__iter__" 0 _) (NU (NU ?_)))
 unfold Builtin.Frozenset.sizeOf setEntries
 refine NL (NL (NL (ON ho hd hf (NU (NU ?_)))))
 rw[BX]
 refine NL (NL (ON ho hd hf ?_))
 dsimp only
 refine NL (NL (Qr (NU (NU ?_))))
 rw[T.plain]
 simp only[Qh,Bool.false_and,Bool.and_false,Oa,OC]
 refine NL (NU ?_)
 unfold setEpoch
 refine NL (NL (ON ho hd hf (NU ?_)))
 refine NL (PK (NU ⟨_,rfl,"set_iterator",_,⟨_,N3 _ rfl,rfl⟩,cw.lookup,h⟩))
def wC {S:Addr}{o:Obj}{es:Array (Int×Value)}{ep:Nat}{t:SetTable}{Q:List Value->Shared->Prop}(hh:A.handled=none)(ho:s.heap.get? S=some o)(hd:o.data=.set es ep t)(hc:o.cls=.type "set")(T:Tab t (es.toList.map (·.1)))(hl:t.led=gL w)
  (hn:es.size<=64) (h:∀h' tk vs,vs=(told w S ep es).toList.map (·.2)->(∀b o,s.heap.get? b=some o->h'.get? b=some o)->Q vs {s with heap:=h',toks:=tk}):wpAny (model prog w) A (collect (.ref S)) Q E s:=by
 have hz:es.size<=sizeLine:=by rw[Ot];omega
 unfold collect
 (refine NL (wpAny_runValue (PY F.entry_proto_collect ?_)))
 (rw[P7 F.plain_proto_collect _])
 show wpAny _ A.in1 (newList [] >>= λl=>again (.builtin "list.__iadd__" ⟨[l,.ref S],[]⟩)) _ _ s
 refine NL (PK ?_)
 (refine NU ⟨plainId_quiet F.plain_list_iadd _,PY F.entry_list_iadd ?_⟩)
 (rw[P7 F.plain_list_iadd _])
 show wpAny _ A.in1 (Builtin.List.listExtendWith (.ref s.heap.objs.size) (.ref S) (.ref s.heap.objs.size)) _ _ {s with heap:=s.heap.push (seqObj "list" #[] 0)}
 generalize hH:s.heap.push (seqObj "list" #[] 0)=H1
 have kp1:∀b o,s.heap.get? b=some o->H1.get? b=some o:=λb o e=>by rw[<-hH];exact NM _ e
 have hD:H1.get? s.heap.objs.size=some (seqObj "list" #[] 0):=by rw[<-hH];exact N3 _ rfl
 have hHs:H1.objs.size=s.heap.objs.size + 1:=by rw[<-hH];exact Pg ..
 have hSD:S≠s.heap.objs.size:=Oz (N1 ho)
 have hT:Shared.TypeIs {s with heap:=H1} (.ref S) "set":=⟨o,kp1 _ _ ho,hc⟩
 unfold Builtin.List.listExtendWith
 refine NL (wpAny_typeOf hT ?_)
 have h1:Builtin.List.listSameRef (.ref s.heap.objs.size) (.ref S)=false:=by simp[Builtin.List.listSameRef,Ne.symm hSD]
 have h2:(Value.type "set" == Value.type "list")=false:=by decide
 have h3:(Value.type "set" == Value.type "tuple")=false:=by decide
 rw[h1,h2,h3]
 simp only[Bool.or_false,Oa,OC]
 refine NL (DC (s:={s with heap:=H1}) (kp1 _ _ ho) hd hc T hl ?_)
 refine NL (Py ?_)
 unfold Builtin.List.listLengthHint
 have hT2:Shared.TypeIs {s with heap:=H1.push (vW S 0 0 es.size ep)} (.ref S) "set":=⟨o,NM _ (kp1 _ _ ho),hc⟩
 refine NL (wpAny_specialOf hT2 F.slot_set_len.lookup ?_)
 wp_delta
 refine NL (wpAny_isInstance hT2 (b:=true) (by rw[QE];kernel_rfl) ?_)
 show wpAny _ A.in1 (typeOf (Value.ref S) >>= λ_=>_) _ _ _
 refine NL (wpAny_typeOf hT2 ?_)
 refine NU ?_
 show wpAny _ A.in1 (rule "list.extend.makes-room" >>= λ_=>Builtin.List.listTouch (.ref s.heap.objs.size) >>= λ_=>again (.builtin "list.extend.loop" ⟨[.ref s.heap.objs.size,.ref H1.objs.size,.ref s.heap.objs.size],[]⟩)) _ _ _
 refine NL (wpAny_rule (NL ?_))
 generalize hH2:H1.push (vW S 0 0 es.size ep)=H2
 have kp2:∀b o,H1.get? b=some o->H2.get? b=some o:=λb o e=>by rw[<-hH2];exact NM _ e
 have hI:H2.get? H1.objs.size=some (vW S 0 0 es.size ep):=by rw[<-hH2];exact N3 _ rfl
 have hS0:=kp2 _ _ hD
 show wpAny _ A.in1 (updateSeq s.heap.objs.size (·.push .none) >>= λ_=>updateSeq s.heap.objs.size (·.pop)) _ _ _
 refine NL (wpAny_updateSeq (s:={s with heap:=H2}) hS0 rfl ?_)
 have hS2:=OK (Obj.mapSeq (·.push Value.none)) hS0 rfl
 refine wpAny_updateSeq (hz:=by seq_fits) hS2 rfl ?_
 have hS3:=OK (Obj.mapSeq (·.pop)) hS2 rfl
 have oth:∀b o,b≠s.heap.objs.size->H2.get? b=some o->((H2.update s.heap.objs.size (Obj.mapSeq (·.push Value.none))).update s.heap.objs.size (Obj.mapSeq (·.pop))).get? b=some o:=λb o hb e=>
  ((Heap.SameBut.update _ s.heap.objs.size (Obj.mapSeq (·.pop))).2 b hb).trans (((Heap.SameBut.update H2 s.heap.objs.size (Obj.mapSeq (·.push Value.none))).2 b hb).trans e)
 have hIS:S≠H1.objs.size:=by rw[hHs];exact Oz (Nat.lt_succ_of_lt (N1 ho))
 have hID:H1.objs.size≠s.heap.objs.size:=by rw[hHs];exact Nat.succ_ne_self _
 have hDf:s.heap.objs.size∉ [H1.objs.size,S]:=λz=>by
  rcases NO.mp z with e |z
  ·exact hID e.symm
  ·exact hSD (Oe.mp z).symm
 have X0:nJ w S o es ep t H1.objs.size 0 ((H2.update s.heap.objs.size (Obj.mapSeq (·.push Value.none))).update s.heap.objs.size (Obj.mapSeq (·.pop))):=
  ⟨oth _ _ hSD (kp2 _ _ (kp1 _ _ ho)),hd,hc,T,hl,0,oth _ _ hID hI,λ_=>rfl⟩
 refine NU ⟨plainId_quiet F.plain_extend_loop _,codeAny_extend_loopS (By (A:=A.in1) (o:=o) (t:=t) hh hIS).toS hz _ hDf _ es.size 0 _ _ _ rfl (Ov _) X0 hS3 (ItemsOf.nil _) λs' acc' c' hm hS' hacc=>?_⟩
 show wpAny _ A (load s.heap.objs.size >>= λ_=>_) _ _ s'
 refine NL (wpAny_load hS' (NU ?_))
 obtain⟨h',g',d',tk',os'⟩:=s'
 have eg:g'=s.gens:=hm.gens
 have ed:d'=s.drawn:=hm.drawn
 have eo:os'=s.os:=hm.os
 subst eg ed eo
 refine h h' tk' acc'.toList ?_ λb ob e=>hm.heap b ob (λhb=>?_) (oth b ob (Oz (N1 e)) (kp2 _ _ (kp1 _ _ e)))
 ·have hts:(told w S ep es).size=es.size:=by have:=(sL w S ep es).length_eq;simpa using this
  apply QG
  intro i
  rw[NW]
  by_cases hi:i < es.size
  ·have hi1:i < acc'.size:=by rw[hacc.1];exact hi
   have q:=hacc.2 i acc'[i] (Oo hi1)
   rw[PB,PB,Oo hi1]
   exact q.symm
  ·rw[PB,PB,Ql (by rw[hacc.1];omega),Ql (by omega)];rfl
 ·have hlt:=N1 e
  rcases NO.mp hb with z |z
  ·rw[z] at hlt;exact OA _ hlt
  ·rw[Oe.mp z,hHs] at hlt;exact absurd hlt (Nat.not_lt.mpr (Nat.le_succ _))
end
end L2.ST
namespace OM
abbrev Pr:=Int×Int
def GD (p q:Pr):Prop:=p.1 < q.1\/(p.1=q.1/\p.2 < q.2)
def kF (p:Pr):¬GD p p:=by unfold GD;omega
def BG {p q r:Pr}(a:GD p q)(b:GD q r):GD p r:=by unfold GD at *;omega
abbrev vU (l:List Pr):Prop:=l.Pairwise GD
theorem i8:∀{l m:List Pr},vU l->vU m->(∀x,x∈l↔x∈m)->l=m
 | [],[],_,_,_=>rfl
 | [],b :: m,_,_,h=>absurd ((h b).mpr (NR ..)) (by simp)
 |a :: l,[],_,_,h=>absurd ((h a).mp (NR ..)) (by simp)
 |a :: l,b :: m,hl,hm,h=>by
  have hl':=List.pairwise_cons.mp hl
  have hm':=List.pairwise_cons.mp hm
  have e:a=b:=by
   rcases NO.mp ((h a).mp (NR ..)) with e |e
   ·exact e
   ·rcases NO.mp ((h b).mpr (NR ..)) with e' |e'
    ·exact e'.symm
    ·exact absurd (BG (hm'.1 a e) (hl'.1 b e')) (kF _)
  subst e
  congr 1
  refine i8 hl'.2 hm'.2 λx=>⟨λhx=>?_,λhx=>?_⟩
  ·rcases NO.mp ((h x).mp (NP _ hx)) with e |e
   ·subst e;exact absurd (hl'.1 x hx) (kF _)
   ·exact e
  ·rcases NO.mp ((h x).mpr (NP _ hx)) with e |e
   ·subst e;exact absurd (hm'.1 x hx) (kF _)
   ·exact e
def jX {l:List Pr}(h:vU l):l.Nodup:=h.imp λ{a b} hab e=>by subst e;exact kF _ hab
def iO {l:List Pr}(p:Pr->Bool)(h:vU l):vU (l.filter p):=h.sublist Qv
def cN (n:Nat):List Pr:=(List.range (n * n)).map λk=>(((k / n:Nat):Int),((k % n:Nat):Int))
def bH {n:Nat}{p:Pr}:p∈cN n↔(0<=p.1/\p.1 < n)/\(0<=p.2/\p.2 < n):=by
 unfold cN
 rw[NY]
 constructor
 ·rintro⟨k,hk,rfl⟩
  have hk:=N9.mp hk
  have hn:0 < n:=by
   rcases Nat.eq_zero_or_pos n with e |e
   ·subst e;omega
   ·exact e
  have h1:k / n < n:=Nat.div_lt_of_lt_mul hk
  have h2:k % n < n:=Nat.mod_lt _ hn
  generalize k / n=q at h1
  generalize k % n=r at h2
  exact⟨⟨Int.natCast_nonneg _,by dsimp only;omega⟩,⟨Int.natCast_nonneg _,by dsimp only;omega⟩⟩
 ·rintro⟨⟨a0,a1⟩,⟨b0,b1⟩⟩
  have hn:0 < n:=by omega
  refine⟨p.1.toNat * n + p.2.toNat,N9.mpr ?_,?_⟩
  ·have h1:p.1.toNat + 1<=n:=by omega
   have h2:p.2.toNat < n:=by omega
   have:=Nat.mul_le_mul_right n h1
   rw[Nat.add_mul] at this
   omega
  ·have h2:p.2.toNat < n:=by omega
   have e1:(p.1.toNat * n + p.2.toNat) / n=p.1.toNat:=by
    rw[Nat.mul_comm,Nat.mul_add_div hn,Nat.div_eq_of_lt h2];rfl
   have e2:(p.1.toNat * n + p.2.toNat) % n=p.2.toNat:=by
    rw[Nat.mul_comm,Nat.mul_add_mod,Nat.mod_eq_of_lt h2]
   rw[e1,e2]
   refine Prod.ext ?_ ?_ <;> dsimp only <;> omega
def jO (n:Nat):vU (cN n):=by
 unfold cN
 refine O2.mpr (Pf ?_ List.pairwise_lt_range)
 intro a b ha hb hab
 have ha:=N9.mp ha
 have hb:=N9.mp hb
 have hn:0 < n:=by
  rcases Nat.eq_zero_or_pos n with e |e
  ·subst e;omega
  ·exact e
 have h1:a / n<=b / n:=Nat.div_le_div_right (Qq hab)
 have e1:=Nat.div_add_mod a n
 have e2:=Nat.div_add_mod b n
 unfold GD
 dsimp only
 rcases OX (a / n) (b / n) with c |c
 ·left;omega
 ·right
  have e:a / n=b / n:=by omega
  rw[e] at e1
  omega
open Classical in
noncomputable def cJ (n:Nat)(R:Int->Int->Prop):List Pr:=(cN n).filter λp=>decide (R p.1 p.2)
def bF {n:Nat}{R:Int->Int->Prop}{p:Pr}:p∈cJ n R↔((0<=p.1/\p.1 < n)/\(0<=p.2/\p.2 < n))/\R p.1 p.2:=by
 unfold cJ
 rw[NX,bH]
 simp
def dX (n:Nat)(R:Int->Int->Prop):vU (cJ n R):=iO _ (jO n)
def xR {n:Nat}{R S:Int->Int->Prop}(h:∀a b:Int,0<=a->a < n->0<=b->b < n->(R a b↔S a b)):cJ n R=cJ n S:=by
 refine i8 (dX n R) (dX n S) λx=>?_
 rw[bF,bF]
 constructor
 ·rintro⟨⟨⟨a,b⟩,c,d⟩,r⟩;exact⟨⟨⟨a,b⟩,c,d⟩,(h _ _ a b c d).mp r⟩
 ·rintro⟨⟨⟨a,b⟩,c,d⟩,r⟩;exact⟨⟨⟨a,b⟩,c,d⟩,(h _ _ a b c d).mpr r⟩
def Wn (n:Nat)(l:List Pr):Prop:=∀p,p∈l->(0<=p.1/\p.1 < n)/\(0<=p.2/\p.2 < n)
abbrev Mem (l:List Pr)(a b:Int):Prop:=(a,b)∈l
def AB {n:Nat}{l:List Pr}(w:Wn n l)(r:vU l):cJ n (Mem l)=l:=by
 refine i8 (dX n _) r λx=>?_
 rw[bF]
 exact⟨λh=>h.2,λh=>⟨w x h,h⟩⟩
def uC (n:Nat)(R:Int->Int->Prop):Wn n (cJ n R):=λ_ h=>(bF.mp h).1
def Cq (n:Nat)(R:Int->Int->Prop):(cJ n R).length<=n * n:=by
 unfold cJ
 refine OU (O4 ..) ?_
 unfold cN;simp
inductive Tr (R:Int->Int->Prop):Int->Int->Prop
 |one {a b}:R a b->Tr R a b
 |more {a b c}:R a b->Tr R b c->Tr R a c
theorem Tr.trans {R:Int->Int->Prop}{a b c:Int}(h:Tr R a b)(k:Tr R b c):Tr R a c:=by
 induction h with
 |one r=>exact .more r k
 |more r _ ih=>exact .more r (ih k)
theorem Tr.least {R S:Int->Int->Prop}(f:∀a b,R a b->S a b)(t:∀a b c,S a b->S b c->S a c){a b:Int}(h:Tr R a b):S a b:=by
 induction h with
 |one r=>exact f _ _ r
 |more r _ ih=>exact t _ _ _ (f _ _ r) ih
structure Ord (n:Nat)(l:List Pr):Prop where
 lo:1<=n
 hi:n<=8
 wn:Wn n l
 ris:vU l
 irr:∀a,(a,a)∉l
 tr:∀a b c,(a,b)∈l->(b,c)∈l->(a,c)∈l
def Ord.tr_mem {n:Nat}{l:List Pr}(O:Ord n l){a b:Int}:Tr (Mem l) a b↔(a,b)∈l:=
 ⟨λh=>h.least (λ_ _ r=>r) λa b c=>O.tr a b c,λh=>.one h⟩
def Ord.closed {n:Nat}{l:List Pr}(O:Ord n l):cJ n (Tr (Mem l))=l:=by
 rw[xR (S:=Mem l) λa b _ _ _ _=>O.tr_mem,AB O.wn O.ris]
def JL {n:Nat}{l:List Pr}(h1:1<=n)(h8:n<=8)(w:Wn n l)(hr:∀a,¬Tr (Mem l) a a):Ord n (cJ n (Tr (Mem l))):=
 ⟨h1,h8,uC n _,dX n _,λa h=>hr a (bF.mp h).2,λa b c h k=>bF.mpr ⟨⟨(bF.mp h).1.1,(bF.mp k).1.2⟩,(bF.mp h).2.trans (bF.mp k).2⟩⟩
theorem pY {l m:List Pr}(hl:l.Nodup)(h:∀x,x∈l->x∈m):l.length<=m.length:=by
 induction l generalizing m with
 |nil=>exact Ov _
 |cons a l ih=>
  have ha:=h a (NR ..)
  have hl':=Om.mp hl
  have:=ih (m:=m.erase a) hl'.2 λx hx=>by
   refine (List.mem_erase_of_ne ?_).mpr (h x (NP _ hx))
   rintro rfl;exact hl'.1 hx
  rw[Qb ha] at this
  have:0 < m.length:=Qk ha
  simp only[N5];omega
def sub_eq {l m:List Pr}(hl:vU l)(hm:vU m)(h:∀x,x∈l->x∈m)(e:l.length=m.length):l=m:=by
 refine i8 hl hm λx=>⟨h x,λhx=>Classical.byContradiction λhn=>?_⟩
 have:=pY (l:=x :: l) (m:=m) (Om.mpr ⟨hn,jX hl⟩) λy hy=>by
  rcases NO.mp hy with e |e
  ·subst e;exact hx
  ·exact h y e
 simp only[N5] at this
 omega
def more (l:List Pr):List Pr:=l.flatMap λp=>(l.filter λq=>decide (q.1=p.2)).map λq=>(p.1,q.2)
def p8 {l:List Pr}{x:Pr}:x∈more l↔∃b,(x.1,b)∈l/\(b,x.2)∈l:=by
 unfold more
 rw[List.mem_flatMap]
 constructor
 ·rintro⟨p,hp,hx⟩
  obtain⟨q,hq,rfl⟩:=NY.mp hx
  obtain⟨hq,e⟩:=NX.mp hq
  have e:q.1=p.2:=by simpa using e
  exact⟨p.2,hp,by rw[<-e];exact hq⟩
 ·rintro⟨b,h1,h2⟩
  exact⟨(x.1,b),h1,NY.mpr ⟨(b,x.2),NX.mpr ⟨h2,by simp⟩,rfl⟩⟩
noncomputable def lb (n:Nat)(l:List Pr):List Pr:=cJ n (Mem (l ++ more l))
structure GV (n:Nat)(ps l:List Pr):Prop where
 wn:Wn n l
 ris:vU l
 sub:∀x,x∈ps->x∈l
 sup:∀x,x∈l->Tr (Mem ps) x.1 x.2
def Bj {n:Nat}{ps:List Pr}(w:Wn n ps):GV n ps (cJ n (Mem ps)):=
 ⟨uC n _,dX n _,λx hx=>bF.mpr ⟨w x hx,hx⟩,λ_ hx=>.one (bF.mp hx).2⟩
def Cn {n:Nat}{ps l:List Pr}(B:GV n ps l):Wn n (l ++ more l):=λx hx=>by
 rcases Ob.mp hx with h |h
 ·exact B.wn x h
 ·obtain⟨b,h1,h2⟩:=p8.mp h
  exact⟨(B.wn _ h1).1,(B.wn _ h2).2⟩
def wN {n:Nat}{ps l:List Pr}(B:GV n ps l):GV n ps (lb n l)/\∀x,x∈l->x∈lb n l:=by
 have hs:∀x,x∈l->x∈lb n l:=λx hx=>bF.mpr ⟨B.wn x hx,OV _ hx⟩
 refine⟨⟨uC n _,dX n _,λx hx=>hs x (B.sub x hx),λx hx=>?_⟩,hs⟩
 rcases Ob.mp (bF.mp hx).2 with h |h
 ·exact B.sup _ h
 ·obtain⟨b,h1,h2⟩:=p8.mp h
  exact (B.sup _ h1).trans (B.sup _ h2)
def CA {n:Nat}{ps l:List Pr}(B:GV n ps l)(e:(lb n l).length=l.length):lb n l=cJ n (Tr (Mem ps)):=by
 obtain⟨B2,hs⟩:=wN B
 have q:l=lb n l:=sub_eq B.ris B2.ris hs e.symm
 refine i8 B2.ris (dX n _) λx=>⟨λh=>bF.mpr ⟨B2.wn x h,B2.sup x h⟩,λh=>?_⟩
 rw[<-q]
 have tr:∀a b c:Int,(a,b)∈l->(b,c)∈l->(a,c)∈l:=λa b c h1 h2=>by
  rw[q]
  exact bF.mpr ⟨⟨(B.wn _ h1).1,(B.wn _ h2).2⟩,Ow _ (p8.mpr ⟨b,h1,h2⟩)⟩
 exact (bF.mp h).2.least (S:=Mem l) (λa b r=>B.sub _ r) tr
abbrev Tb:=Nat->Nat->Bool
def Tb.set (M:Tb)(a b:Nat):Tb:=λx y=>if x=a/\y=b then true else M x y
def Gf (M:Tb)(m:Nat):Prop:=∀k a b,k < m->M a k=true->M k b=true->M a b=true
def Phase (M0 M:Tb)(m:Nat)(D:Nat->Nat->Prop):Prop:=∀a b,M a b=true↔M0 a b=true\/(D a b/\M0 a m=true/\M0 m b=true)
def Phase.start (M:Tb)(m:Nat):Phase M M m λ_ _=>False:=λa b=>by simp
def Phase.row {M0 M:Tb}{m:Nat}{D:Nat->Nat->Prop}(P:Phase M0 M m D)(a:Nat):M a m=true↔M0 a m=true:=by
 rw[P]
 exact⟨λh=>h.elim id λh=>h.2.1,.inl⟩
def Phase.col {M0 M:Tb}{m:Nat}{D:Nat->Nat->Prop}(P:Phase M0 M m D)(b:Nat):M m b=true↔M0 m b=true:=by
 rw[P]
 exact⟨λh=>h.elim id λh=>h.2.2,.inl⟩
def Phase.step {M0 M:Tb}{m:Nat}{D:Nat->Nat->Prop}(P:Phase M0 M m D)(x y:Nat) :
  Phase M0 (if M x m=true/\M m y=true then M.set x y else M) m (λa b=>D a b\/(a=x/\b=y)):=λa b=>by
 have r:=P.row x
 have c:=P.col y
 by_cases h:M x m=true/\M m y=true
 ·rw[NN h]
  unfold Tb.set
  by_cases e:a=x/\b=y
  ·rw[NN e]
   obtain⟨rfl,rfl⟩:=e
   simp only[true_iff]
   exact .inr ⟨.inr (by simp),r.mp h.1,c.mp h.2⟩
  ·rw[NV e,P]
   constructor
   ·rintro (q | ⟨d,q⟩)
    ·exact .inl q
    ·exact .inr ⟨.inl d,q⟩
   ·rintro (q | ⟨d |d,q⟩)
    ·exact .inl q
    ·exact .inr ⟨d,q⟩
    ·exact absurd d e
 ·rw[NV h,P]
  constructor
  ·rintro (q | ⟨d,q⟩)
   ·exact .inl q
   ·exact .inr ⟨.inl d,q⟩
  ·rintro (q | ⟨d | ⟨rfl,rfl⟩,q1,q2⟩)
   ·exact .inl q
   ·exact .inr ⟨d,q1,q2⟩
   ·exact absurd ⟨r.mpr q1,c.mpr q2⟩ h
def Phase.done {M0 M:Tb}{m n:Nat}{D:Nat->Nat->Prop}(P:Phase M0 M m D)(hD:∀a b,a < n->b < n->D a b)(hM:∀a b,M0 a b=true->a < n/\b < n)(T:Gf M0 m) :
  Gf M (m + 1)/\∀a b,M a b=true->a < n/\b < n:=by
 have hM':∀a b,M a b=true->a < n/\b < n:=λa b h=>by
  rcases (P a b).mp h with q | ⟨_,q1,q2⟩
  ·exact hM a b q
  ·exact⟨(hM _ _ q1).1,(hM _ _ q2).2⟩
 have put:∀a b,M0 a m=true->M0 m b=true->M a b=true:=λa b h1 h2=>(P a b).mpr (.inr ⟨hD a b (hM _ _ h1).1 (hM _ _ h2).2,h1,h2⟩)
 refine⟨λk a b hk h1 h2=>?_,hM'⟩
 rcases OX k m with c |c
 ·rcases (P a k).mp h1 with q1 | ⟨_,q1,q1'⟩
  ·rcases (P k b).mp h2 with q2 | ⟨_,q2,q2'⟩
   ·exact (P a b).mpr (.inl (T k a b c q1 q2))
   ·exact put a b (T k a m c q1 q2) q2'
  ·rcases (P k b).mp h2 with q2 | ⟨_,q2,q2'⟩
   ·exact put a b q1 (T k m b c q1' q2)
   ·exact put a b q1 q2'
 ·have e:k=m:=by omega
  subst e
  exact put a b ((P.row a).mp h1) ((P.col b).mp h2)
structure Tab (n:Nat)(ps:List Pr)(M:Tb):Prop where
 inn:∀a b,M a b=true->a < n/\b < n
 sub:∀a b:Nat,((a:Int),(b:Int))∈ps->M a b=true
 sup:∀a b:Nat,M a b=true->Tr (Mem ps) a b
def Tab.phase {n:Nat}{ps:List Pr}{M0 M:Tb}{m:Nat}{D:Nat->Nat->Prop}(T:Tab n ps M0)(P:Phase M0 M m D):Tab n ps M:=
 ⟨λa b h=>by
  rcases (P a b).mp h with q | ⟨_,q1,q2⟩
  ·exact T.inn a b q
  ·exact⟨(T.inn _ _ q1).1,(T.inn _ _ q2).2⟩,
  λa b h=>(P a b).mpr (.inl (T.sub a b h)),
  λa b h=>by
  rcases (P a b).mp h with q | ⟨_,q1,q2⟩
  ·exact T.sup a b q
  ·exact (T.sup _ _ q1).trans (T.sup _ _ q2)⟩
def Tab.all {n:Nat}{ps:List Pr}{M:Tb}(w:Wn n ps)(T:Tab n ps M)(H:Gf M n)(a b:Nat):M a b=true↔Tr (Mem ps) a b:=by
 refine⟨T.sup a b,λh=>?_⟩
 have key:∀{x y:Int},Tr (Mem ps) x y->M x.toNat y.toNat=true:=λ{x y} h=>by
  induction h with
  | @one x y r=>
   have:=w _ r
   refine T.sub _ _ ?_
   have e1:((x.toNat:Nat):Int)=x:=by simp only at this;omega
   have e2:((y.toNat:Nat):Int)=y:=by simp only at this;omega
   rw[e1,e2];exact r
  | @more x y z r _ ih=>
   have:=w _ r
   have e1:((x.toNat:Nat):Int)=x:=by simp only at this;omega
   have e2:((y.toNat:Nat):Int)=y:=by simp only at this;omega
   have q:M x.toNat y.toNat=true:=T.sub _ _ (by rw[e1,e2];exact r)
   exact H y.toNat _ _ (T.inn _ _ q).2 q ih
 have:=key h
 simpa using this
end OM
namespace L2.ST
open PySem PySem.SetTable PySem.W PyProof.Rows
section
variable {prog:Program}{w:World}{A:Around}{E:Value->Shared->Prop}{s:Shared}
def IT {ps:List Pr}(hs:∀p,p∈ps->Sm p){ix:Array Nat}(P:L2.SO.Pm ps.length ix)(U:L2.SO.Up (rl ps) ix ps.length):OM.vU (ix.toList.map λi=>ps.getD i (0,0)):=by
 refine O2.mpr (P6.mpr λi j hi hj hij=>?_)
 have hi':i < ix.size:=by simpa using hi
 have hj':j < ix.size:=by simpa using hj
 have q:=U i j hij (by rw[<-P.sz];exact hj')
 unfold L2.SO.Kp rl at q
 have ei:ix.getD i 0=ix.toList[i]:=by simp[Array.getD,hi']
 have ej:ix.getD j 0=ix.toList[j]:=by simp[Array.getD,hj']
 rw[ei,ej] at q
 have ai:ix.toList[i] < ps.length:=P.lt _ (by simp)
 have aj:ix.toList[j] < ps.length:=P.lt _ (by simp)
 have bi:Sm (ps.getD ix.toList[i] (0,0)):=by rw[N7,NK ai];exact hs _ (O8 ai)
 have bj:Sm (ps.getD ix.toList[j] (0,0)):=by rw[N7,NK aj];exact hs _ (O8 aj)
 exact (Ae bi bj).mp q
def Iu {n:Nat}{ix:Array Nat}(P:L2.SO.Pm n ix){k:Nat}(hk:k < n):k∈ix.toList:=by
 refine Classical.byContradiction λhn=>?_
 have:=bL (l:=k :: ix.toList) (m:=List.range n) (Om.mpr ⟨hn,P.nd⟩) λx hx=>by
  rcases NO.mp hx with e |e
  ·rw[e];exact N9.mpr hk
  ·exact N9.mpr (P.lt x (by simpa using e))
 simp[P.sz] at this
 omega
theorem Kl {h:Heap}{vs:List Value}{ps:List Pr}(hps:dD prog w h vs ps){ix:Array Nat}(P:L2.SO.Pm vs.length ix) :
  dD prog w h (ix.toList.map λi=>vs.getD i Value.none) (ix.toList.map λi=>ps.getD i (0,0)):=by
 refine⟨by simp,λi v p h1 h2=>?_⟩
 rw[NW] at h1 h2
 cases e:ix.toList[i]? with
 |none=>rw[e] at h1;cases h1
 |some k=>
  rw[e] at h1 h2
  have hk:k < vs.length:=P.lt k (by simpa using N6 e)
  have hk':k < ps.length:=by rw[<-hps.1];exact hk
  simp[hk,hk'] at h1 h2
  exact hps.2 k v p (by rw[NK hk,h1]) (by rw[NK hk',h2])
def Ak {v:Value}{vs:List Value}{ps:List Pr}{Q:Value->Shared->Prop}(hps:dD prog w s.heap vs ps)(nd:ps.Nodup)(h64:vs.length < 64)
  (hcol:∀(Q':List Value->Shared->Prop),(∀h' tk,(∀b o,s.heap.get? b=some o->h'.get? b=some o)->Q' vs {s with heap:=h',toks:=tk})->wpAny (model prog w) A.in1 (collect v) Q' (λe s'=>E e s') s)
  (h:∀(h1 h':Heap) (tk:Nat) (D:Addr) (out:List Value) (qs:List Pr) (c:Nat),(∀b o,s.heap.get? b=some o->h1.get? b=some o)->D=h1.objs.size->(∀b o,h1.get? b=some o->h'.get? b=some o)->h'.get? D=some (seqObj "list" out.toArray c)->dD prog w h' out qs->(∀u,u∈out->u∈vs)->OM.vU qs->(∀p,p∈qs↔p∈ps)->
   Q (.ref D) {s with heap:=h',toks:=tk}):wpAny (model prog w) A (call (.builtin "sorted") [v]) Q E s:=by
 have hsm:∀p,p∈ps->Sm p:=λp hp=>by
  obtain⟨i,hi,e⟩:=Oy.mp hp
  have hi':i < vs.length:=by rw[hps.1];exact hi
  obtain⟨_,_,_,hs⟩:=hps.2 i vs[i] p (NK hi') (by rw[NK hi,e])
  exact hs
 (refine Calls.call_function_entry kind_sorted plain_sorted entry_sorted (args_sorted1 _) ?_)
 unfold Builtin.«sorted»
 refine NL (m:=checkCount "sorted" 1 1 ([v]:List Value).length) (NU ?_)
 refine NL (hcol _ λh1 tk1 k1=>?_)
 have hz:vs.length<=sizeLine:=by rw[Ot];omega
 refine NL (wpAny_newList ?_ hz)
 show wpAny _ _ _ _ _ {s with heap:=h1.push (seqObj "list" vs.toArray 0),toks:=tk1}
 have hoL:(h1.push (seqObj "list" vs.toArray 0)).get? h1.objs.size=some (seqObj "list" vs.toArray 0):=N3 _ rfl
 have kp:∀b o,s.heap.get? b=some o->(h1.push (seqObj "list" vs.toArray 0)).get? b=some o:=λb o e=>NM _ (k1 b o e)
 have hp1:dD prog w (h1.push (seqObj "list" vs.toArray 0)) vs ps:=⟨hps.1,λi v p a b=>by
  obtain⟨c,e,⟨o,it,n,ho,r⟩,hs⟩:=hps.2 i v p a b
  exact⟨c,e,⟨o,it,n,kp _ _ ho,r⟩,hs⟩⟩
 have hne:∀b o,s.heap.get? b=some o->b≠h1.objs.size:=λb o e=>Oz (N1 (k1 b o e))
 refine NL (Py (Qd slot_list_sort ⟨_,hoL,rfl⟩ entry_list_sort ?_ (args_list_sort _)))
 refine wu (s:={s with heap:=h1.push (seqObj "list" vs.toArray 0),toks:=tk1}) hoL hp1 nd h64 λh' c ix P U hk ho=>?_
 refine⟨_,rfl,NU ⟨_,rfl,?_⟩⟩
 have kk:∀b o,s.heap.get? b=some o->h'.get? b=some o:=λb o e=>hk b o (hne b o e) (kp b o e)
 have P':L2.SO.Pm ps.length ix:=by rw[<-hps.1];exact P
 have k2:∀b o,h1.get? b=some o->h'.get? b=some o:=λb o e=>hk b o (Oz (N1 e)) (NM _ e)
 refine h h1 h' tk1 h1.objs.size _ (ix.toList.map λi=>ps.getD i (0,0)) c k1 rfl k2 ho (Kl ⟨hps.1,λi v p a b=>?_⟩ P) (λu hu=>?_) (IT hsm P' (by rw[<-hps.1];exact U)) λp=>⟨λhp=>?_,λhp=>?_⟩
 ·obtain⟨c,e,⟨o,it,n,ho,r⟩,hs⟩:=hps.2 i v p a b
  exact⟨c,e,⟨o,it,n,kk _ _ ho,r⟩,hs⟩
 ·obtain⟨i,hi,rfl⟩:=NY.mp hu
  have:i < vs.length:=P.lt i (by simpa using hi)
  rw[N7,NK this]
  exact O8 this
 ·obtain⟨i,hi,rfl⟩:=NY.mp hp
  have:i < ps.length:=P'.lt i (by simpa using hi)
  rw[N7,NK this]
  exact O8 this
 ·obtain⟨i,hi,e⟩:=Oy.mp hp
  refine NY.mpr ⟨i,Iu P' hi,?_⟩
  rw[N7,NK hi,e];rfl
end
end L2.ST
namespace L2
open PySem PySem.Spec PyProof.Rows
abbrev Pr:=Int×Int
abbrev Sm:=L2.ST.Sm
section
variable {X:Cx}{pins:List (Addr×Obj)}{σ:St}{H H':Hp}{s:Shared}
def iX (H H':Hp):Prop:=(∀b xs,H b=some (.tup xs)->H' b=some (.tup xs))/\∀b o u,H b=some (.bp o u)->H' b=some (.bp o u)
def iX.trans {H H1 H2:Hp}(a:iX H H1)(b:iX H1 H2):iX H H2:=⟨λc xs h=>b.1 c xs (a.1 c xs h),λc o u h=>b.2 c o u (a.2 c o u h)⟩
def aC.grow {H H':Hp}(e:aC H H'):iX H H':=⟨λb xs h=>e b _ h,λb o u h=>e b _ h⟩
def iX.new {H:Hp}{l:Addr}{o:HO}(h:H l=none):iX H (upd H l o):=⟨λb xs e=>by rw[aH (aP e h)];exact e,λb o' u e=>by rw[aH (aP e h)];exact e⟩
def aC.new {H:Hp}{l:Addr}{o:HO}(h:H l=none):aC H (upd H l o):=λb u e=>by rw[aH (aP e h)];exact e
def fV.grow {K:Frag}{a:Addr}{xs:List V}(h:fV K H a xs)(g:iX H H'):fV K H' a xs:=by
 rcases h with (h | ⟨o,h⟩) |h
 ·exact .inl (.inl (g.1 _ _ h))
 ·exact .inl (.inr ⟨o,g.2 _ _ _ h⟩)
 ·exact .inr h
def iX.list {a:Addr}{ys:List V}{o:HO}(h:H a=some (.lst ys)):iX H (upd H a o):=
 ⟨λb xs e=>by rw[aH (He e h (by intro z;cases z))];exact e,λb o' u e=>by rw[aH (He e h (by intro z;cases z))];exact e⟩
theorem rY {α β:Type}{f:α->β}:∀{l:List α} {m:List β},m.Perm (l.map f)->∃l':List α,m=l'.map f/\l'.Perm l:=by
 intro l m h
 generalize hk:l.map f=k at h
 induction h generalizing l with
 |nil=>
  have:l= []:=by simpa using hk
  exact⟨[],rfl,by rw[this]⟩
 | @cons x m1 m2 _ ih=>
  cases l with
  |nil=>cases hk
  |cons a l=>
   simp only[OE,List.cons.injEq] at hk
   obtain⟨l',e,p⟩:=ih hk.2
   exact⟨a :: l',by rw[OE,hk.1,e],p.cons a⟩
 |swap x y m1=>
  cases l with
  |nil=>cases hk
  |cons a l=>
   cases l with
   |nil=>simp at hk
   |cons b l=>
    simp only[OE,List.cons.injEq] at hk
    exact⟨b :: a :: l,by rw[OE,OE,hk.1,hk.2.1,hk.2.2],List.Perm.swap ..⟩
 |trans _ _ ih1 ih2=>
  obtain⟨l1,e1,p1⟩:=ih2 hk
  obtain⟨l2,e2,p2⟩:=ih1 e1.symm
  exact⟨l2,e2,p2.trans p1⟩
def bh (K:Frag)(H:Hp):List V->List Pr->Prop:=Paired λv p=>∃a,v=.ref a/\fV K H a [.int p.1,.int p.2]
def bh.grow {K:Frag}{vs:List V}{ps:List Pr}(h:bh K H vs ps)(g:iX H H'):bh K H' vs ps:=Paired.mapP h λv p ⟨a,e,q⟩=>⟨a,e,q.grow g⟩
theorem Paired.getP {α β:Type}{F:α->β->Prop}:∀{l:List α} {m:List β} {i:Nat} {x:α},Paired F l m->l[i]? =some x->∃y,m[i]? =some y/\F x y
 |_,_,_,_,.nil,e=>by simp at e
 |_,_,0,_,.cons r _,e=>by simp at e;subst e;exact⟨_,rfl,r⟩
 |_,_,i + 1,x,.cons _ t,e=>by
  obtain⟨u,h1,h2⟩:=Paired.getP (i:=i) (x:=x) t (by simpa using e)
  exact⟨u,by simpa using h1,h2⟩
theorem Paired.getQ {α β:Type}{F:α->β->Prop}:∀{l:List α} {m:List β} {i:Nat} {y:β},Paired F l m->m[i]? =some y->∃x,l[i]? =some x/\F x y
 |_,_,_,_,.nil,e=>by simp at e
 |_,_,0,_,.cons r _,e=>by simp at e;subst e;exact⟨_,rfl,r⟩
 |_,_,i + 1,x,.cons _ t,e=>by
  obtain⟨u,h1,h2⟩:=Paired.getQ (i:=i) (y:=x) t (by simpa using e)
  exact⟨u,by simpa using h1,h2⟩
theorem uD (I:Inv X pins σ H s){a:Addr}{p:Pr}(h:fV X.K H a [.int p.1,.int p.2]):L2.ST.b8 X.prog X.w s.heap p a:=by
 obtain⟨its,r,⟨o,ho,hc,n,hd⟩,_⟩:=I.tuple h
 cases r with
 |cons r1 r=>
  cases r with
  |cons r2 r=>
   cases r
   obtain⟨t1,rfl⟩:=r1
   obtain⟨t2,rfl⟩:=r2
   exact⟨o,_,n,ho,hc,hd,.cons (intKind_is ..) (.cons (intKind_is ..) .nil)⟩
def pairs_at (I:Inv X pins σ H s){vs:List V}{us:List Value}{ps:List Pr}(hv:Vals vs us)(h:bh X.K H vs ps)(hs:∀p,p∈ps->Sm p):L2.ST.dD X.prog X.w s.heap us ps:=by
 refine⟨by rw[<-hv.length];exact Paired.length h,λi u p e1 e2=>?_⟩
 obtain⟨v,ev,a,rfl,q⟩:=Paired.getQ h e2
 obtain⟨u',eu,ru⟩:=hv.get ev
 rw[e1] at eu;cases eu
 cases ru
 exact⟨a,rfl,uD I q,hs p (N6 e2)⟩
theorem rh (I:Inv X pins σ H s){vs:List V}{us:List Value}{ps:List Pr}(hv:Vals vs us)(h:bh X.K H vs ps){h':Heap}(k:∀b o,s.heap.get? b=some o->h'.get? b=some o):∀{out:List Value} {qs:List Pr},
  (∀u,u∈out->u∈us)->L2.ST.dD X.prog X.w h' out qs->∃ws,Vals ws out/\bh X.K H ws qs
 | [],[],_,_=>⟨[],.nil,.nil⟩
 | [],_ :: _,_,hp=>by have:=hp.1;simp at this
 |_ :: _,[],_,hp=>by have:=hp.1;simp at this
 |u :: out,q :: qs,hm,hp=>by
  obtain⟨ws,a1,a2⟩:=rh I hv h k (out:=out) (qs:=qs) (λx hx=>hm x (NP _ hx)) ⟨by have:=hp.1;simpa using this,λi v p e1 e2=>hp.2 (i + 1) v p (by simpa using e1) (by simpa using e2)⟩
  obtain⟨i,hi,e⟩:=Oy.mp (hm u (NR ..))
  have hi':i < vs.length:=by rw[hv.length];exact hi
  obtain⟨u',eu,ru⟩:=hv.get (NK hi')
  rw[NK hi,e] at eu
  cases eu
  obtain⟨p,ep,a,ea,qa⟩:=Paired.getP h (NK hi')
  rw[ea] at ru
  cases ru
  obtain⟨b,eb,hb,_⟩:=hp.2 0 (.ref a) q rfl rfl
  cases eb
  have pa:L2.ST.b8 X.prog X.w h' p a:=by
   obtain⟨o,it,n,ho,r⟩:=uD I qa
   exact⟨o,it,n,k _ _ ho,r⟩
  have:p=q:=L2.ST.b8.inj pa hb
  subst this
  exact⟨.ref a :: ws,.cons rfl a1,.cons ⟨a,rfl,qa⟩ a2⟩
def yk (I:Inv X pins σ H s){vs:List V}{us:List Value}{ps:List Pr}(hv:Vals vs us)(hp:bh X.K H vs ps)(hlen:ps.length < 64){Q:VK}
  (q:∀l ws qs,H l=none->bh X.K H ws qs->OM.vU qs->(∀p,p∈qs↔p∈ps)->Q (.ref l) (upd H l (.lst ws)))
  {h1 h':Heap} {tk:Nat} {D:Addr} {out:List Value} {qs:List Pr} {c:Nat} (k1:∀b o,s.heap.get? b=some o->h1.get? b=some o) (eD:D=h1.objs.size) (k2:∀b o,h1.get? b=some o->h'.get? b=some o)
  (ho:h'.get? D=some (seqObj "list" out.toArray c)) (hpq:L2.ST.dD X.prog X.w h' out qs) (hm:∀u,u∈out->u∈us) (hr:OM.vU qs) (hmem:∀p,p∈qs↔p∈ps):EP X pins σ Q (.ref D) {s with heap:=h',toks:=tk}:=by
 obtain⟨ws,r1,r2⟩:=rh I hv hp (λb o e=>k2 b o (k1 b o e)) hm hpq
 have I1:Inv X pins σ H {s with heap:=h1,toks:=tk}:=I.kept k1
 have hf:H D=none:=by rw[eD];exact I1.hok.fresh (NQ _)
 have hz:ws.length<=sizeLine:=by
  have e1:=r1.length
  have e2:out.length=qs.length:=hpq.1
  have e3:=OM.pY (OM.jX hr) λx hx=>(hmem x).mp hx
  rw[Ot];omega
 have I2:Inv X pins σ (upd H D (.lst ws)) {s with heap:=h',toks:=tk}:=I1.laid (t':=tk) k2 (by rw[eD];exact NQ _) (show c4 X.prog X.w _ h' _ (.lst ws) from⟨hz,out,c,r1,ho⟩)
 exact⟨.ref D,_,I2,rfl,q D ws qs hf r2 hr hmem⟩
abbrev vq (qs:List (Addr×Pr)):List V:=qs.map λq=>V.ref q.1
abbrev pq (qs:List (Addr×Pr)):List Pr:=qs.map (·.2)
def Hr (prog:Program)(w:World)(S:Addr)(qs:List (Addr×Pr))(h:Heap):Prop:=∃o ep t,h.get? S=some o/\o.ExactSet/\o.data=.set (qs.map λq=>(L2.ST.BL prog w q.2,Value.ref q.1)).toArray ep t/\L2.ST.Tab t (qs.map λq=>L2.ST.BL prog w q.2)/\t.led=L2.ST.gL w
def AR (prog:Program)(w:World)(S:Addr)(qs:List (Addr×Pr)):HO:=.ext (Hr prog w S qs)
def K9 (P:Program)(w:World)(K:Frag):List V->Hp->VK->Prop:=λxs H Q=>∃a vs ps,xs= [.ref a]/\(gY K H a vs\/fV K H a vs)/\bh K H vs ps/\(∀p,p∈ps->Sm p)/\
 ∀S qs,H S=none->bh K H (vq qs) (pq qs)->(pq qs).Nodup->(∀p,p∈pq qs↔p∈ps)->Q (.ref S) (upd H S (AR P w S qs))
def C2 (hc:X.calm=true)(hu:X.A.units + 64 < cLine):dm X (.type "set") (K9 X.prog X.w X.K):=by
 intro pins s σ H xs us Q I r h
 obtain⟨a,vs,ps,rfl,hq,hp,hs,q⟩:=h
 obtain⟨u,rfl,rx⟩:=vals1 r
 cases rx
 have hh:=I.ok.hd hc
 have core:∀{its:List Value} {T:String} {itO:Obj} {St:Addr->Nat->Heap->Prop},Vals vs its->L2.ST.Src X.prog X.w s.heap a its T itO St->wpAny (model X.prog X.w) X.A (call (.type "set") [.ref a]) (EP X pins σ Q) X.xe s:=λ{its T itO St} rv src=>by
  refine L2.ST.qS src hh hu (pairs_at I rv hp hs) λh' tk F k=>?_
  obtain⟨qs,P1,P2,P3⟩:=F
  have hlen:its.length=vs.length:=rv.length.symm
  have back:∀qv:Addr×Pr,qv∈qs->∃b,b=qv.1/\fV X.K H b [.int qv.2.1,.int qv.2.2]:=λqv hqv=>by
   obtain⟨i,hi,e⟩:=Oy.mp (P8 (P2 qv hqv).1)
   have hi':i < vs.length:=by rw[<-hlen];exact hi
   obtain⟨u',eu,ru⟩:=rv.get (NK hi')
   rw[NK hi,e] at eu
   cases eu
   obtain⟨p,ep,b,eb,qb⟩:=Paired.getP hp (NK hi')
   rw[eb] at ru
   cases ru
   have pa:L2.ST.b8 X.prog X.w h' p qv.1:=by
    obtain⟨o,it,n,ho,r⟩:=uD I qb
    exact⟨o,it,n,k _ _ ho,r⟩
   have:p=qv.2:=L2.ST.b8.inj pa (P1.at' qv hqv).1
   subst this
   exact⟨_,rfl,qb⟩
  have hpv:∀{l:List (Addr×Pr)},(∀x,x∈l->x∈qs)->bh X.K H (vq l) (pq l):=λ{l}=>by
   induction l with
   |nil=>intro _;exact .nil
   |cons y l ih=>
    intro hl
    obtain⟨b,eb,qb⟩:=back y (hl y (NR ..))
    subst eb
    exact .cons ⟨_,rfl,qb⟩ (ih λx hx=>hl x (NP _ hx))
  have hmem:∀p,p∈pq qs↔p∈ps:=λp=>by
   have hpl:ps.length=its.length:=by rw[hlen];exact (Paired.length hp).symm
   constructor
   ·intro hx
    obtain⟨qv,hqv,rfl⟩:=NY.mp hx
    exact P8 (P2 qv hqv).2
   ·intro hx
    exact P3 p (by rw[<-hpl,O9 (NQ _)];exact hx)
  have hf:H s.heap.objs.size=none:=I.hok.fresh (NQ _)
  obtain⟨o,ep,t,ho,r1⟩:=P1.ex
  have new:c4 X.prog X.w (upd H s.heap.objs.size (AR X.prog X.w s.heap.objs.size qs)) h' s.heap.objs.size (AR X.prog X.w s.heap.objs.size qs):=
   ⟨⟨o,ep,t,ho,r1⟩,⟨o,ho⟩,λh1 h2 ⟨o1,ep1,t1,g1,g2⟩ kk=>⟨o1,ep1,t1,kk _ g1,g2⟩⟩
  exact⟨.ref _,_,I.laid (t':=tk) k (NQ _) new,rfl,q _ qs hf (hpv λx hx=>hx) P1.nd hmem⟩
 rcases hq with hq |hq
 ·obtain⟨its,rv,pl,hz⟩:=I.list hq
  exact core rv (L2.ST.Src.list pl.isList)
 ·obtain⟨its,rv,pl,hz⟩:=I.tuple hq
  exact core rv (L2.ST.Src.tuple pl)
def wq (P:Program)(w:World)(K:Frag):List V->Hp->VK->Prop:=λxs H Q=>∃S qs,xs= [.ref S]/\H S=some (AR P w S qs)/\bh K H (vq qs) (pq qs)/\(∀p,p∈pq qs->Sm p)/\(pq qs).Nodup/\qs.length < 64/\
 ∀l ws rs,H l=none->bh K H ws rs->OM.vU rs->(∀p,p∈rs↔p∈pq qs)->Q (.ref l) (upd H l (.lst ws))
def um (hc:X.calm=true):dm X (.builtin "sorted") (wq X.prog X.w X.K):=by
 intro pins s σ H xs us Q I r h
 obtain⟨S,qs,rfl,hS,hp,hs,nd,hl,q⟩:=h
 obtain⟨u,rfl,rx⟩:=vals1 r
 cases rx
 have hh:=I.ok.hd hc
 obtain⟨⟨o,ep,t,ho,hex,hd,T,hled⟩,_,_⟩:Hr X.prog X.w S qs s.heap/\_:=I.hok S _ hS
 have T':L2.ST.Tab t ((qs.map λq=>(L2.ST.BL X.prog X.w q.2,Value.ref q.1)).toArray.toList.map (·.1)):=by
  rw[Pp,Pq];exact T
 have htp:=L2.ST.sL X.w S ep (qs.map λq=>(L2.ST.BL X.prog X.w q.2,Value.ref q.1)).toArray
 have hmem:∀x,x∈(L2.ST.told X.w S ep (qs.map λq=>(L2.ST.BL X.prog X.w q.2,Value.ref q.1)).toArray).toList->∃q,q∈qs/\x=(L2.ST.BL X.prog X.w q.2,Value.ref q.1):=λx hx=>by
  have:=htp.mem_iff.mp hx
  simp only[Pp] at this
  obtain⟨q,hq,e⟩:=NY.mp this
  exact⟨q,hq,e.symm⟩
 obtain⟨q2,e2,p2⟩:∃q2:List (Addr×Pr),(L2.ST.told X.w S ep (qs.map λq=>(L2.ST.BL X.prog X.w q.2,Value.ref q.1)).toArray).toList=q2.map (λq=>(L2.ST.BL X.prog X.w q.2,Value.ref q.1))/\q2.Perm qs:=by
  have:=htp
  simp only[Pp] at this
  exact rY this
 have hp2:bh X.K H (vq q2) (pq q2):=by
  have key:∀{l:List (Addr×Pr)},(∀x,x∈l->x∈qs)->bh X.K H (vq l) (pq l):=λ{l}=>by
   induction l with
   |nil=>intro _;exact .nil
   |cons y l ih=>
    intro hl
    obtain⟨i,hi,e⟩:=Oy.mp (hl y (NR ..))
    obtain⟨p,ep',a,ea,qa⟩:=Paired.getP (l:=vq qs) (m:=pq qs) (i:=i) (x:=.ref y.1) hp (by simp[hi,e])
    have:p=y.2:=by simp[hi,e] at ep';exact ep'.symm
    subst this
    exact .cons ⟨a,ea,qa⟩ (ih λx hx=>hl x (NP _ hx))
  exact key λx hx=>p2.mem_iff.mp hx
 have hv2:Vals (vq q2) (q2.map λq=>Value.ref q.1):=by
  induction q2 with
  |nil=>exact .nil
  |cons y l ih=>exact .cons rfl (by
    clear ih e2 p2 hp2
    induction l with
    |nil=>exact .nil
    |cons z l ih2=>exact .cons rfl ih2)
 have hm2:∀p,p∈pq q2↔p∈pq qs:=λp=>(p2.map (·.2)).mem_iff
 have hpa:=pairs_at I hv2 hp2 λp hpp=>hs p ((hm2 p).mp hpp)
 have hl2:q2.length < 64:=by rw[p2.length_eq];exact hl
 refine L2.ST.Ak (v:=.ref S) hpa ((p2.map (·.2)).nodup_iff.mpr nd) (by simpa using hl2) (λQ' hQ'=>L2.ST.wC (by simpa using hh) ho hd hex.1 T' hled (by simp;omega) λh' tk vs ev k=>?_) λh1 h' tk D out qs' c k1 eD k2 ho' hpq hm hr hmem'=>?_
 ·rw[ev,e2]
  rw[Pq]
  exact hQ' h' tk k
 ·exact yk I hv2 hp2 (by simpa using hl2) (λl ws rs a1 a2 a3 a4=>q l ws rs a1 a2 a3 λp=>(a4 p).trans (hm2 p)) k1 eD k2 ho' hpq hm hr hmem'
end
def oA (cells:List (Str×Addr)):List (Str×NameKind)->List (Str×Addr)->List (Str×Addr)
 | [],cs=>cs
 | (n,k) :: r,cs=>oA cells r (if k == .free then (n,(cells.lookup n).getD 0) :: cs else cs)
def pX {scope:Scope}{env:Env}(h:∀y∈scope.names,y.2=.free->∃c,env.cells.lookup y.1=some c):closureFor scope env=pure (oA env.cells scope.names []):=by
 unfold closureFor
 have key:∀(l:List (Str×NameKind)) (cs:List (Str×Addr)),(∀y∈l,y.2=.free->∃c,env.cells.lookup y.1=some c)->
   (forIn l cs (λ(x:Str×NameKind) (r:List (Str×Addr))=>if (x.2 == NameKind.free)=true then (do let a <-cellOf env x.1;pure (ForInStep.yield ((x.1,a) :: r)):Sem _) else pure (ForInStep.yield r)):Sem (List (Str×Addr)))=pure (oA env.cells l cs):=by
  intro l
  induction l with
  |nil=>intro cs _;rfl
  |cons y l ih=>
   intro cs hy
   obtain⟨n,k⟩:=y
   rw[List.forIn_cons]
   unfold oA
   by_cases hk:(k == NameKind.free)=true
   ·have hk':k=.free:=by simpa using hk
    obtain⟨c,hc⟩:=hy (n,k) (NR ..) hk'
    have hce:cellOf env n=pure c:=by unfold cellOf;rw[hc]
    simp only[hk,OP]
    have hc':env.cells.lookup n=some c:=hc
    rw[hce,hc']
    simp only[pure_bind,Option.getD_some]
    exact ih _ λz hz=>hy z (NP _ hz)
   ·simp only[hk,OC,Oa]
    simp only[pure_bind]
    exact ih _ λz hz=>hy z (NP _ hz)
 have:=key scope.names [] h
 simp only[bind_pure_comp] at this ⊢
 first
  |exact this
  | (rw[this];rfl)
  | (simpa using this)
theorem oF {cells:List (Str×Addr)}{x:Str}:∀{l:List (Str×NameKind)} {cs:List (Str×Addr)},((x,NameKind.free)∈l\/cs.lookup x=some ((cells.lookup x).getD 0))->(oA cells l cs).lookup x=some ((cells.lookup x).getD 0)
 | [],cs,h=>by
  rcases h with h |h
  ·cases h
  ·exact h
 | (n,k) :: r,cs,h=>by
  unfold oA
  refine oF ?_
  by_cases hk:(k == NameKind.free)=true
  ·rw[NN hk]
   by_cases hx:x=n
   ·subst hx;right;simp
   ·rcases h with h |h
    ·rcases NO.mp h with e |e
     ·injection e with e1 _;exact absurd e1 hx
     ·exact .inl e
    ·right
     rw[lookup_cons,show (x == n)=false by simpa using hx]
     exact h
  ·rw[NV hk]
   rcases h with h |h
   ·rcases NO.mp h with e |e
    ·injection e with _ e2;exact absurd (by rw[<-e2];rfl) hk
    ·exact .inl e
   ·exact .inr h
theorem oI {cells:List (Str×Addr)}{x:Str}{c:Addr}:∀{l:List (Str×NameKind)} {cs:List (Str×Addr)},(oA cells l cs).lookup x=some c->((x,NameKind.free)∈l/\c=(cells.lookup x).getD 0)\/cs.lookup x=some c
 | [],cs,h=>.inr h
 | (n,k) :: r,cs,h=>by
  unfold oA at h
  rcases oI h with⟨a,b⟩ |a
  ·exact .inl ⟨NP _ a,b⟩
  ·by_cases hk:(k == NameKind.free)=true
   ·rw[NN hk,lookup_cons] at a
    by_cases hx:x=n
    ·subst hx
     simp at a
     have:k=.free:=by simpa using hk
     subst this
     exact .inl ⟨NR ..,a.symm⟩
    ·rw[show (x == n)=false by simpa using hx] at a
     exact .inr a
   ·rw[NV hk] at a
    exact .inr a
theorem oO {f:Str->NameKind->NameKind}{x:Str}:∀(l:List (Str×NameKind)),(l.map λy=>(y.1,f y.1 y.2)).lookup x=(l.lookup x).map (f x)
 | []=>rfl
 | (n,k) :: l=>by
  rw[OE,lookup_cons,lookup_cons]
  by_cases hx:x=n
  ·subst hx;simp
  ·have hb:(x == n)=false:=by simpa using hx
   simp only[hb]
   exact oO l
def qd (scope:Scope)(env:Env)(x:Str):(relabel scope env).names.lookup x=(scope.names.lookup x).map λk=>if (k == .free && env.scope.kind == .function && env.kindOf x == some .cell) then .cell else k:=by
 have e:(relabel scope env).names=scope.names.map λy=>(y.1,if (y.2 == .free && env.scope.kind == .function && env.kindOf y.1 == some .cell) then .cell else y.2):=by
  unfold relabel
  dsimp only
  refine OR λy _=>?_
  obtain⟨n,k⟩:=y
  dsimp only
  split <;> rfl
 rw[e]
 exact oO (f:=λn k=>if (k == .free && env.scope.kind == .function && env.kindOf n == some .cell) then .cell else k) scope.names
def jx (X:Cx)(NB:List Str)(scope:Scope)(C:Addr)(ex:List Addr)(s3:Shared)(H3:Hp)(pn:List (Addr×Obj)):Cx:=
 {X with N:=NB,s₀:=s3,H₀:=H3,env:=compEnvC scope (oA X.env.cells scope.names []) C X.env,outer:=X.stack,ex:=ex,fn:=λ_=>false,pn:=pn,xe:=λ_ _=>False}
def bN (own:Nat)(ixs:List Nat)(σ:St):St:=List.replicate own none ++ ixs.map λi=>(σ[i]?).join
structure dH (X:Cx)(NB:List Str)(own:Nat)(ixs:List Nat)(scope:Scope):Prop where
 kind:scope.kind=.function
 nocell:∀y∈scope.names,y.2≠.cell
 names:∀y∈scope.names,scope.names.lookup y.1=some y.2
 frees:∀y∈scope.names,y.2=.free->X.env.kindOf y.1=some .cell\/X.env.kindOf y.1=some .free
 nd:NB.Nodup
 len:NB.length=own + ixs.length
 at':∀k,k < ixs.length->NB[own + k]? =X.N[ixs.getD k 0]?/\∀x,NB[own + k]? =some x->(x,NameKind.free)∈scope.names
section
variable {X:Cx}{NB:List Str}{own:Nat}{ixs:List Nat}{scope:Scope}{pins:List (Addr×Obj)}{σ:St}{H:Hp}{s:Shared}
def Be (S:dH X NB own ixs scope)(I:Inv X pins σ H s){fp:List Addr}(hfp:∀b∈fp,oz X pins H b)(hob:∀b∈fp,∃o,s.heap.get? b=some o){h1:Heap}{tk:Nat}
  (hn:h1.Ns s.heap.objs.size (λ_=>none)) (hk:∀b o,s.heap.get? b=some o->h1.get? b=some o) :
  Inv (jx X NB scope s.heap.objs.size fp s H (X.pn ++ pins)) [] (bN own ixs σ) H {s with heap:=h1,toks:=tk}:=by
 have stk:=I.stack
 have frees:∀{x:Str},(x,NameKind.free)∈scope.names->∃c,X.env.cells.lookup x=some c:=λ{x} hx=>I.ok.has x (S.frees _ hx rfl)
 have clE:∀{x:Str} {c:Addr},(oA X.env.cells scope.names []).lookup x=some c->(x,NameKind.free)∈scope.names/\X.env.cells.lookup x=some c:=λ{x c} h=>by
  rcases oI h with⟨a,b⟩ |a
  ·obtain⟨c',e⟩:=frees a
   rw[e] at b
   exact⟨a,by rw[e,b];rfl⟩
  ·simp at a
 have kindB:∀x,(jx X NB scope s.heap.objs.size fp s H (X.pn ++ pins)).env.kindOf x=(scope.names.lookup x).map λk=>if (k == .free && X.env.scope.kind == .function && X.env.kindOf x == some .cell) then .cell else k:=λx=>qd scope X.env x
 have isFree:∀{x:Str},((jx X NB scope s.heap.objs.size fp s H (X.pn ++ pins)).env.kindOf x=some .cell\/(jx X NB scope s.heap.objs.size fp s H (X.pn ++ pins)).env.kindOf x=some .free)->(x,NameKind.free)∈scope.names:=λ{x} h=>by
  rw[kindB] at h
  cases e:scope.names.lookup x with
  |none=>rw[e] at h;simp at h
  |some k=>
   have hm:=PM e
   cases k with
   |free=>exact hm
   |cell=>exact absurd rfl (S.nocell _ hm)
   |_=>rw[e] at h;simp at h
 have neN:∀b o,s.heap.get? b=some o->b≠s.heap.objs.size:=λb o e=>Oz (N1 e)
 have cellN:∀{x:Str} {c:Addr},X.env.cells.lookup x=some c->c < s.heap.objs.size:=λ{x c} e=>by
  obtain⟨v,o,ho,_⟩:=I.cell x c e
  exact N1 ho
 have ok:(jx X NB scope s.heap.objs.size fp s H (X.pn ++ pins)).Ok:=by
  refine⟨I.ok.mod,S.kind,I.ok.glob,I.ok.blt,NQ _,λx y c h1 h2=>I.ok.inj x y c (clE h1).2 (clE h2).2,λx hx=>?_,λx c h=>(by cases h),I.ok.hd,I.ok.frames,.inl rfl,λb hb=>?_,I.bs,OU I.ok.bsz I.sz,λb o e hb=>?_,λb hb hs=>?_,stk,I.stkFree⟩
  ·have hm:=isFree hx
   exact⟨_,oF (.inl hm)⟩
  ·obtain⟨_,f1,f2,f3,f4,f5⟩:=hfp b hb
   refine⟨?_,λx c h z=>f4 x c (clE h).2 z⟩
   obtain⟨o,ho⟩:=hob b hb
   exact neN b o ho
  ·obtain⟨_,f1,f2,f3,f4,f5⟩:=hfp b hb
   rcases f3 with f3 |f3
   ·exact I.ok.noex b o e f3
   ·exact absurd (Oi (N1 e) (OU I.ok.bsz f3)) (OA _)
  ·obtain⟨_,f1,f2,f3,f4,f5⟩:=hfp b hb
   rcases NO.mp (I.stkSub b hs) with z |z
   ·exact f1 z
   ·exact f2 z
 refine⟨ok,rfl,I.bare,Un.kept hk,⟨_,hn,λi x v h1' h2' h3'=>?_⟩,λx c h=>?_,I.hok.fresh (NQ _),λx c h=>I.freeC x c (clE h).2,λp hp=>?_,I.hok.kept hk,?_⟩
 ·
  have h1':NB[i]? =some x:=h1'
  have hown:own<=i:=by
   refine Classical.byContradiction λhc=>?_
   have hlt:i < own:=Nat.lt_of_not_le hc
   unfold bN at h2'
   rw[Oh (by simpa using hlt),Pk,NN hlt] at h2'
   cases h2'
  obtain⟨k,rfl⟩:∃k,i=own + k:=⟨i - own,by omega⟩
  have hk':k < ixs.length:=by
   have:=(N0.mp h1').1
   rw[S.len] at this;omega
  obtain⟨e1,e2⟩:=S.at' k hk'
  have hm:=e2 x h1'
  unfold bN at h2'
  rw[Ol (by simp),PV,Nat.add_sub_cancel_left,NW,NK hk'] at h2'
  simp only[Option.map_some,Option.some.injEq] at h2'
  have hix:ixs.getD k 0=ixs[k]:=by simp[hk']
  have hσ:σ[ixs[k]]? =some (some v):=by
   cases e:σ[ixs[k]]? with
   |none=>rw[e] at h2';cases h2'
   |some o=>rw[e] at h2';simp at h2';rw[h2']
  rw[e1,hix] at h1'
  have hkind:=S.frees _ hm rfl
  have hvis:AF X.env.scope x:=hkind.elim (λz=>.inr (.inl z)) (λz=>.inr (.inr z))
  obtain⟨m,hm',hl⟩:=I.loc
  obtain⟨u,r,look⟩:=hl _ x v h1' hσ hvis
  refine⟨u,r,.inr ⟨?_,?_⟩⟩
  ·rw[kindB]
   have hfr:scope.names.lookup x=some .free:=S.names _ hm
   rw[hfr]
   simp only[Option.map_some]
   split
   ·exact .inl rfl
   ·exact .inr rfl
  ·rcases look with⟨z,_⟩ | ⟨_,c,hc,hcell⟩
   ·rcases hkind with q |q
    ·rw[q] at z;cases z
    ·rw[q] at z;cases z
   ·refine⟨c,?_,?_⟩
    ·have:=oF (cells:=X.env.cells) (cs:=[]) (.inl hm)
     rw[hc] at this
     exact this
    ·obtain⟨o,ho,hd⟩:=hcell
     exact⟨o,hk _ _ ho,hd⟩
 ·obtain⟨v,o,ho,hd⟩:=I.cell x c (clE h).2
  exact⟨v,o,hk _ _ ho,hd⟩
 ·have hp':p∈X.pn ++ pins:=by
   rcases Ob.mp hp with z |z
   ·exact z
   ·cases z
  obtain⟨e,n,ne,nf,d⟩:=I.pin p hp'
  refine⟨hk _ _ e,n,neN _ _ e,λz=>?_,d⟩
  rcases NO.mp (I.stkSub _ z) with q |q
  ·exact ne q
  ·exact nf q
 ·show (bN own ixs σ).length=NB.length
  unfold bN
  rw[S.len];simp
end
abbrev zO (ifs:List Expr)(env:Env):Sem Bool:=forIn ifs true λc r=>if r=true then do let ok <-isTrue c env (eval c env);pure (ForInStep.yield ok) else pure (ForInStep.yield r)
theorem Ah {prog:Program}{w:World}{A:Around}{R:Result->Shared->Prop}{s:Shared}{elt target iter:Expr}{ifs:List Expr}{scope:Scope}{pos:Pos}{it acc:Value}{env:Env}(I:Nat->Shared->Prop)
  (turn:∀n s,I n s->wpAny (model prog w) A (pyNext it) (λr s1=>match r with
   |none=>R (.ok .next) s1
   |some v=>wpAny (model prog w) A (letOwnedTupleGo target it v) (λ_ s1'=>wpAny (model prog w) A (assign target env v) (λ_ s2=>
     wpAny (model prog w) A (zO ifs env) (λok s3=>
      if ok=true then wpAny (model prog w) A (eval elt env) (λx s4=>wpAny (model prog w) A (call (.builtin "list.append") [acc,x]) (λ_ s5=>∃m,m < n/\I m s5) (λ_ _=>False) s4) (λ_ _=>False) s3
      else ∃m,m < n/\I m s3) (λ_ _=>False) s2) (λ_ _=>False) s1') (λ_ _=>False) s1) (λ_ _=>False) s)
  (n:Nat) (h:I n s):codeAny (model prog w) A (.compLoop (.ListComp elt [⟨target,iter,ifs,0⟩] scope pos) 0 it acc env) R s:=by
 refine codeAny_loop rfl I (λn s hI=>?_) n h
 (show wpAny _ A ((compTurn (.ListComp elt [⟨target,iter,ifs,0⟩] scope pos) 0 it acc env).onRaise (λx=>do (noteFrame x env);theTreesLotGoes x)) _ _ s)
 refine wpAny_noted ?_
 rw[compTurn_list]
 refine NL (wpAny_standAt (NL (Px (turn n s hI) (λr s1 h1=>?_) λ_ _ z=>z.elim)))
 cases r with
 |none=>exact NU h1
 |some v=>
  refine NL (Px h1 (λ_ s1' h1'=>?_) λ_ _ z=>z.elim)
  refine NL (Px h1' (λ_ s2 h2=>NL (Px h2 (λok s3 h3=>?_) λ_ _ z=>z.elim)) λ_ _ z=>z.elim)
  cases ok with
  |false=>exact NU ⟨rfl,h3⟩
  |true=>exact NL (NL (Px h3 (λx s4 h4=>NL (Px h4 (λ_ s5 h5=>NU (NU ⟨rfl,h5⟩)) λ_ _ z=>z.elim)) λ_ _ z=>z.elim))
def Dl (X:Cx)(ifs:List Expr)(t:TT):Prop:=
 ∀(pins:List (Addr×Obj)) (s:Shared) (σ:St) (H:Hp) (Q:Bool->Hp->Prop),Inv X pins σ H s->t σ H Q->wpAny (model X.prog X.w) X.A (zO ifs X.env) (TP X pins σ Q) X.xe s
def HV:TT:=λ_ H Q=>Q true H
def uG {X:Cx}:Dl X [] HV:=λpins s σ H Q I h=>NU ⟨H,I,h⟩
def Ad {X:Cx}{c:Expr}{t:TT}(h:PT X c t):Dl X [c] t:=λpins s σ H Q I q=>wpAny_tests_one (h pins s σ H Q I q)
def yY (own:Nat)(ixs:List Nat)(wi:TI)(g:TG)(tt:TT)(te:TE)(σ:St)(H:Hp)(Q:VK):Prop:=wi σ H λJ H1=>∀D,H1 D=none->∃W:Nat->Nat->St->Hp->Prop,(∃m,W 0 m (bN own ixs σ) (upd H1 D (.lst [])))/\∀i m σ' H',W i m σ' H'->
 (J.stop i H'/\(∃acc,H' D=some (.lst acc))/\Q (.ref D) H')\/
 (J.go i H'/\∃N:St->Hp->Prop,(∀σ2 H2,N σ2 H2->∃m',m' < m/\W (i + 1) m' σ2 H2)/\∀x H2,J.yld i H' x H2->g x σ' H2 λσ3 H3=>tt σ3 H3 λb H4=>
  if b=true then te σ3 H4 λv H5=>∃acc,H5 D=some (.lst acc)/\acc.length < sizeLine/\N σ3 (upd H5 D (.lst (acc ++ [v]))) else N σ3 H4)
section
variable {X:Cx}{NB:List Str}{own:Nat}{ixs:List Nat}{scope:Scope}{elt tg iter:Expr}{ifs:List Expr}{pos:Pos}{wi:TI}{g:TG}{tt:TT}{te:TE}
def tu (hc:X.calm=true)(S:dH X NB own ixs scope)
  (hg:∀C ex s3 H3 pn,PG (jx X NB scope C ex s3 H3 pn) tg g) (ht:∀C ex s3 H3 pn,Dl (jx X NB scope C ex s3 H3 pn) ifs tt) (he:∀C ex s3 H3 pn,PE (jx X NB scope C ex s3 H3 pn) elt te)
  {pins:List (Addr×Obj)} {σ:St} {H1:Hp} {s2:Shared} {it:Addr} {fp:List Addr} {tn:Nat->Heap->Prop} {J:It} {Q:VK} (I2:Inv X pins σ H1 s2) (T:Turn X.prog X.w X.K tg J fp it tn) (st2:tn 0 s2.heap) (f2:∀b∈fp,oz X pins H1 b)
  (hQ:∀D,H1 D=none->∃W:Nat->Nat->St->Hp->Prop,(∃m,W 0 m (bN own ixs σ) (upd H1 D (.lst [])))/\∀i m σ' H',W i m σ' H'->
   (J.stop i H'/\(∃acc,H' D=some (.lst acc))/\Q (.ref D) H')\/
   (J.go i H'/\∃N:St->Hp->Prop,(∀σ2 H2,N σ2 H2->∃m',m' < m/\W (i + 1) m' σ2 H2)/\∀x H2,J.yld i H' x H2->g x σ' H2 λσ3 H3=>tt σ3 H3 λb H4=>
    if b=true then te σ3 H4 λv H5=>∃acc,H5 D=some (.lst acc)/\acc.length < sizeLine/\N σ3 (upd H5 D (.lst (acc ++ [v]))) else N σ3 H4))
  {E:Value->Shared->Prop} {RR:Value->Addr->Result->Shared->Prop}
  (fin:∀D C H' s' m,Inv X pins σ H' s'->Q (.ref D) H'->s'.heap.Ns C m->H' C=none->C≠X.env.locals->(∀x c,X.env.cells.lookup x=some c->c≠C)->X.s₀.heap.objs.size<=C->(∀p∈X.pn ++ pins,p.1≠C)->RR (.ref D) C (.ok .next) s') :
  wpAny (model X.prog X.w) X.A (newList []) (λacc s3=>wpAny (model X.prog X.w) X.A (newFunctionEnv scope X.env.globals (oA X.env.cells scope.names []) [] X.env.qual none .none (some X.env)) (λcenv s4=>
   codeAny (model X.prog X.w) X.A (.compStart (.ListComp elt [⟨tg,iter,ifs,0⟩] scope pos) 0 (.ref it) acc {cenv with scope:=relabel scope X.env}) (RR acc cenv.locals) s4) E s3) E s2:=by
 refine wpAny_newList ?_ (Ov _)
 have hD:H1 s2.heap.objs.size=none:=I2.hok.fresh (NQ _)
 obtain⟨W,⟨m0,w0⟩,turn⟩:=hQ s2.heap.objs.size hD
 generalize hs3:({s2 with heap:=s2.heap.push (seqObj "list" ([]:List Value).toArray 0)}:Shared)=s3
 have I3:Inv X pins σ (upd H1 s2.heap.objs.size (.lst [])) s3:=by
  rw[<-hs3]
  exact I2.lnew (ys:=[]) (its:=[]) (t':=s2.toks) .nil (Ov _)
 have k3:∀b o,s2.heap.get? b=some o->s3.heap.get? b=some o:=λb o e=>by rw[<-hs3];exact NM _ e
 have sz3:s3.heap.objs.size=s2.heap.objs.size + 1:=by rw[<-hs3];exact Pg ..
 have ob2:∀b∈fp,∃o,s2.heap.get? b=some o:=λb hb=>let ⟨o,e,_⟩:=T.obj 0 _ st2 b hb;⟨o,e⟩
 have neD:∀b∈fp,b≠s2.heap.objs.size:=λb hb=>let ⟨o,e⟩:=ob2 b hb;Oz (N1 e)
 have f3:∀b∈fp,oz X pins (upd H1 s2.heap.objs.size (.lst [])) b:=λb hb=>by
  obtain⟨a1,a2⟩:=f2 b hb
  exact⟨by rw[aH (neD b hb)];exact a1,a2⟩
 have st3:tn 0 s3.heap:=T.keep _ _ _ st2 λb _ o e=>k3 b o e
 refine wpAny_newFunctionEnv S.nocell (λy hy=>by simp at hy) (λh4 hn4 sb4=>?_) S.kind
 have k4:∀b o,s3.heap.get? b=some o->h4.get? b=some o:=λb o e=>sb4.extBut b o (Oz (N1 e)) (NM _ e)
 have I4:Inv (jx X NB scope s3.heap.objs.size fp s3 (upd H1 s2.heap.objs.size (.lst [])) (X.pn ++ pins)) [] (bN own ixs σ) (upd H1 s2.heap.objs.size (.lst [])) {s3 with heap:=h4,toks:=s3.toks + ([]:List (Str×Value)).length}:=
  Be S I3 f3 (λb hb=>let ⟨o,e⟩:=ob2 b hb;⟨o,k3 _ _ e⟩) (by simpa using hn4) k4
 have st4:tn 0 h4:=T.keep _ _ _ st3 λb _ o e=>k4 b o e
 generalize hB:jx X NB scope s3.heap.objs.size fp s3 (upd H1 s2.heap.objs.size (.lst [])) (X.pn ++ pins)=B at I4
 have hgB:PG B tg g:=by rw[<-hB];exact hg _ _ _ _ _
 have htB:Dl B ifs tt:=by rw[<-hB];exact ht _ _ _ _ _
 have heB:PE B elt te:=by rw[<-hB];exact he _ _ _ _ _
 have eP:B.prog=X.prog:=by rw[<-hB];rfl
 have eW:B.w=X.w:=by rw[<-hB];rfl
 have eK:B.K=X.K:=by rw[<-hB];rfl
 have eA:B.A=X.A:=by rw[<-hB];rfl
 have eC:B.calm=true:=by rw[<-hB];exact hc
 have eX:B.xe=λ_ _=>False:=by rw[<-hB];rfl
 have eE:B.env=compEnvC scope (oA X.env.cells scope.names []) s3.heap.objs.size X.env:=by rw[<-hB];rfl
 have ex:B.ex=fp:=by rw[<-hB];rfl
 have eL:B.env.locals=s3.heap.objs.size:=by rw[eE];rfl
 have stat:∀{H':Hp},(∀b∈fp,H' b=none)->∀b∈fp,oz B [] H' b:=λ{H'} hn b hb=>by
  obtain⟨a1,a2,a3,a4,a5,a6⟩:=f3 b hb
  obtain⟨o,eo⟩:=ob2 b hb
  refine⟨hn b hb,?_,λz=>?_,.inl (by rw[ex];exact hb),λx c e z=>?_,λp hp z=>?_⟩
  ·rw[eL];exact Oz (N1 (k3 _ _ eo))
  ·have hz:b∈jD X.stack:=by rw[<-hB] at z;exact z
   rcases NO.mp (I3.stkSub b hz) with q |q
   ·exact a2 q
   ·exact a3 q
  ·rw[eE] at e
   rcases oI e with⟨m1,m2⟩ |m1
   ·obtain⟨c',e'⟩:=I3.ok.has x (S.frees _ m1 rfl)
    rw[e'] at m2
    exact a5 x c' e' (by rw[<-z,m2];rfl)
   ·simp at m1
  ·have hp':p∈X.pn ++ pins:=by
    rw[<-hB] at hp
    rcases Ob.mp hp with q |q
    ·exact q
    ·cases q
   exact a6 p hp' z
 have back:∀{σ':St} {H':Hp} {s':Shared},Inv B [] σ' H' s'->Inv X pins σ H' s':=λ{σ' H' s'} J'=>by
  have u:=J'.base
  have os:=J'.os
  have bare:=J'.bare
  have hok:=J'.hok
  subst hB
  exact I3.call' (ch:=fp) os u hok bare λb hb=>by
   obtain⟨a1,a2,a3,a4,a5,a6⟩:=f3 b hb
   exact⟨a4,a2,a5,a6⟩
 have loop:∀s5:Shared,s5={s3 with heap:=h4,toks:=s3.toks + ([]:List (Str×Value)).length}->
   codeAny (model X.prog X.w) X.A (.compLoop (.ListComp elt [⟨tg,iter,ifs,0⟩] scope pos) 0 (.ref it) (.ref s2.heap.objs.size) (compEnvC scope (oA X.env.cells scope.names []) s3.heap.objs.size X.env)) (RR (.ref s2.heap.objs.size) s3.heap.objs.size) s5:=by
  rintro s5 rfl
  refine Ah (λn s'=>∃i σ' H',Inv B [] σ' H' s'/\tn i s'.heap/\(∀b∈fp,H' b=none)/\W i n σ' H') ?_ m0 ⟨0,_,_,I4,st4,λb hb=>(f3 b hb).1,w0⟩
  rintro n s6 ⟨i,σ6,H6,I6,st6,fr6,w6⟩
  rcases turn i n σ6 H6 w6 with⟨stop,⟨acc,hacc⟩,qn⟩ | ⟨go,N,hN,step⟩
  ·have:=T.done B eP eW eK eC i [] s6 σ6 H6 (λ_ _=>False) I6 (stat fr6) st6 stop
   rw[eA] at this
   refine cM this λr s7 ⟨hr,I7⟩=>?_
   subst hr
   obtain⟨m7,hn7,_⟩:=I7.loc
   rw[eL] at hn7
   have J7:=back I7
   refine fin _ _ H6 s7 m7 J7 qn hn7 (by rw[<-eL];exact I7.free) (λz=>?_) (λx c e z=>?_) ?_ λp hp z=>?_
   ·have:=I3.lt
    rw[<-z] at this
    exact OA _ this
   ·obtain⟨v,o,ho,_⟩:=I3.cell x c e
    exact absurd (N1 ho) (by rw[z];exact OA _)
   ·exact I3.sz
   ·have:=N1 (I3.pin p hp).1
    rw[z] at this
    exact OA _ this
  ·have hitem:=T.item B eP eW eK eC i [] s6 σ6 H6 (λ_ _=>False) I6 (stat fr6) st6 go
   rw[eA] at hitem
   refine cM hitem λr s7 ⟨u,hr,h7⟩=>?_
   subst hr
   refine cM h7 λ_ s8 ⟨x,H8,I8,r8,y8,st8,fr8⟩=>?_
   have I8':=I8.pinned (stat fr8) (T.obj _ _ st8)
   have ha:=hgB _ s8 σ6 H8 x u _ I8' r8 (step x H8 y8)
   rw[eP,eW,eA,eE,eX] at ha
   refine cM ha λ_ s9 ⟨σ9,H9,I9,q9⟩=>?_
   have hb:=htB _ s9 σ9 H9 _ I9 q9
   rw[eP,eW,eA,eE,eX] at hb
   refine cM hb λok s10 ⟨H10,I10,q10⟩=>?_
   have again:∀{σ7:St} {H7:Hp} {s7:Shared},Inv B ([] ++ qc fp s8.heap) σ7 H7 s7->N σ7 H7->∃m,m < n/\∃i σ' H',Inv B [] σ' H' s7/\tn i s7.heap/\(∀b∈fp,H' b=none)/\W i m σ' H':=λ{σ7 H7 s7} I7 n7=>by
    obtain⟨m',hm,w7⟩:=hN σ7 H7 n7
    refine⟨m',hm,i + 1,σ7,H7,I7.unpinned,T.keep _ _ _ st8 λb hb o e=>(I7.pin (b,o) (Ow _ (Ow _ (ku hb e)))).1,λb hb=>?_,w7⟩
    obtain⟨o,e,d⟩:=T.obj _ _ st8 b hb
    exact (I7.pin (b,o) (Ow _ (Ow _ (ku hb e)))).2.1
   cases ok with
   |false=>
    simp only[Oa,OC] at q10 ⊢
    exact again I10 q10
   |true=>
    simp only[OP] at q10 ⊢
    have hv:=heB _ s10 σ9 H10 _ I10 q10
    rw[eP,eW,eA,eE,eX] at hv
    refine cM hv λy s11 ⟨v,H11,I11,r11,acc,hacc,hz,q11⟩=>?_
    have hap:=ot (X:=B) _ s11 σ9 H11 (.ref s2.heap.objs.size) [v] (.ref s2.heap.objs.size) [y] (λz H'=>z=.non/\N σ9 H') I11 rfl (.cons r11 .nil) ⟨_,acc,v,rfl,rfl,hacc,hz,rfl,q11⟩
    rw[eP,eW,eA,eX] at hap
    exact cM hap λ_ s12 ⟨_,H12,I12,_,_,q12⟩=>again I12 q12
 exact codeAny_compStart_list (loop _ rfl) (T.self X.A 0 _ _ _ st4 (loop _ rfl))
def wO (hc:X.calm=true)(S:dH X NB own ixs scope)(hi:PI X tg iter wi)
  (hg:∀C ex s3 H3 pn,PG (jx X NB scope C ex s3 H3 pn) tg g) (ht:∀C ex s3 H3 pn,Dl (jx X NB scope C ex s3 H3 pn) ifs tt) (he:∀C ex s3 H3 pn,PE (jx X NB scope C ex s3 H3 pn) elt te)
  (hs:∀x,foldedSetIterable iter X.env x=pure x:=by intro _;rfl) :
  PE X (.ListComp elt [⟨tg,iter,ifs,0⟩] scope pos) (yY own ixs wi g tt te):=by
 intro pins s σ H Q I h
 rw[eval_ListComp]
 refine wpAny_comprehension_free (use:=none) rfl hs (pX λy hy e=>I.ok.has _ (S.frees y hy e)) S.kind (λy hy e=>by rw[S.names y hy,e]) ?_
 refine cM (hi pins s σ H _ I h) λv s1 h1=>cM h1 λitv s2 h2=>?_
 obtain⟨it,fp,tn,J,H2,e,I2,T,st2,f2,q2⟩:=h2
 subst e
 refine tu hc S hg ht he I2 T st2 f2 q2 (RR:=λacc C=>compPost (model X.prog X.w) X.A X.xe none (EP X pins σ Q) acc C) λD C H' s' m J' q hn hC n1 n2 n3 n4=>?_
 refine⟨m,hn,λh'' sb=>⟨.ref D,H',?_,rfl,q⟩⟩
 exact J'.turned (t':=s'.toks) (it:=C) (λb o hb e=>sb.extBut b o hb e) hC n1 (.inr n3) n2 n4
def DL {i:Nat}{y:Str}{py spos:Pos}(hc:X.calm=true)(S:dH X NB own ixs scope)(hi:PI X tg iter wi)
  (hg:∀C ex s3 H3 pn,PG (jx X NB scope C ex s3 H3 pn) tg g) (ht:∀C ex s3 H3 pn,Dl (jx X NB scope C ex s3 H3 pn) ifs tt) (he:∀C ex s3 H3 pn,PE (jx X NB scope C ex s3 H3 pn) elt te)
  (hN:X.N.Nodup) (hy:X.N[i]? =some y) (hl:X.env.scope.names.lookup y=some .local)
  (hsw:swapsWith (.ListComp elt [⟨tg,iter,ifs,0⟩] scope pos) (some (.Name y py)) spos.line X.env=pure true)
  (hs:∀x,foldedSetIterable iter X.env x=pure x:=by intro _;rfl) :
  PS X (.Assign [.Name y py] (.ListComp elt [⟨tg,iter,ifs,0⟩] scope pos) spos) (λD σ H=>yY own ixs wi g tt te σ H λv H'=>D.nx (σ.set i (some v)) H'):=by
 intro pins s σ H D I h
 rw[exec_Assign_Name_used _ _ _ _ hsw]
 refine NL (wpAny_standAt (NL ?_))
 show wpAny _ X.A (comprehension (.ListComp elt [⟨tg,iter,ifs,0⟩] scope pos) scope X.env _ (newList []) false (eval iter X.env) (some (assign (.Name y py) X.env)) >>= λ_=>pure ()) _ _ s
 refine NL (Px (wpAny_comprehension_free (use:=some (assign (.Name y py) X.env)) (Q:=λ_ s'=>SP X pins D .next s') rfl hs (pX λy hy e=>I.ok.has _ (S.frees y hy e)) S.kind (λy hy e=>by rw[S.names y hy,e]) ?_)
  (λ_ s' hq=>NU (NU hq)) λ_ _ e=>e)
 refine cM (hi pins s σ H _ I h) λv s1 h1=>cM h1 λitv s2 h2=>?_
 obtain⟨it,fp,tn,J,H2,e,I2,T,st2,f2,q2⟩:=h2
 subst e
 refine tu hc S hg ht he I2 T st2 f2 q2 (Q:=λv H'=>D.nx (σ.set i (some v)) H') (RR:=λacc C=>compPost (model X.prog X.w) X.A X.xe (some (assign (.Name y py) X.env)) (λ_ s'=>SP X pins D .next s') acc C) λD' C H' s' m J' q hn hC n1 n2 n3 n4=>?_
 show wpAny _ X.A (assign (.Name y py) X.env (.ref D')) _ _ s'
 refine wpAny_assign_Name (su J' hN hy (.inl hl) (v:=.ref D') rfl (λs'' I'' ⟨a,sb,ha⟩=>?_) (.inr hl))
 have hCa:C≠a:=by
  rcases ha with z |z
  ·rw[z];exact n1
  ·exact (n2 _ _ z).symm
 refine⟨m,hn.sameBut sb hCa,λh3 sb3=>⟨_,H',?_,q⟩⟩
 exact I''.turned (t':=s''.toks) (it:=C) (λb o hb e=>sb3.extBut b o hb e) hC n1 (.inr n3) n2 n4
end
section
variable {own:Nat}{ixs:List Nat}{g:TG}{tt:TT}{te:TE}{σ:St}{H:Hp}{Q:VK}{K:Frag}{D a:Addr}{xs:List V}
abbrev fB (g:TG)(tt:TT)(te:TE)(D:Addr)(x:V)(σ:St)(H:Hp)(N:St->Hp->Prop):Prop:=g x σ H λσ3 H3=>tt σ3 H3 λb H4=>
  if b=true then te σ3 H4 λv H5=>∃acc,H5 D=some (.lst acc)/\acc.length < sizeLine/\N σ3 (upd H5 D (.lst (acc ++ [v]))) else N σ3 H4
def BH (Pv:Nat->St->Hp->Prop)(h0:Pv 0 (bN own ixs σ) (upd H D (.lst [])))(hl:∀i σ H,i<=xs.length->Pv i σ H->gY K H a xs)
  (hs:∀i x σ H,xs[i]? =some x->Pv i σ H->fB g tt te D x σ H (Pv (i + 1))) (hd:∀σ H,Pv xs.length σ H->(∃acc,H D=some (.lst acc))/\Q (.ref D) H) :
  ∃W:Nat->Nat->St->Hp->Prop,(∃m,W 0 m (bN own ixs σ) (upd H D (.lst [])))/\∀i m σ' H',W i m σ' H'->
   ((BA K a).stop i H'/\(∃acc,H' D=some (.lst acc))/\Q (.ref D) H')\/
   ((BA K a).go i H'/\∃N:St->Hp->Prop,(∀σ2 H2,N σ2 H2->∃m',m' < m/\W (i + 1) m' σ2 H2)/\∀x H2,(BA K a).yld i H' x H2->fB g tt te D x σ' H2 N):=by
 refine⟨λi m σ H=>m=xs.length - i/\i<=xs.length/\Pv i σ H,⟨xs.length,by simp,Ov _,h0⟩,?_⟩
 rintro i m σ H ⟨rfl,hi,p⟩
 have q:=hl i σ H hi p
 by_cases hlt:i < xs.length
 ·refine .inr ⟨⟨xs,xs[i],q,by simp[hlt]⟩,Pv (i + 1),λσ' H' p'=>⟨xs.length - (i + 1),by omega,rfl,hlt,p'⟩,λx H' y=>?_⟩
  obtain⟨e,y⟩:=y
  subst e
  exact hs i x σ _ (y xs q) p
 ·have e:i=xs.length:=by omega
  subst e
  exact .inl ⟨⟨xs,q,NQ _⟩,hd σ H p⟩
def yG {lo:Int}{n:Nat}(Pv:Nat->St->Hp->Prop)(h0:Pv 0 (bN own ixs σ) (upd H D (.lst [])))
  (hs:∀i σ H,i < n->Pv i σ H->fB g tt te D (.int (lo + i)) σ H (Pv (i + 1))) (hd:∀σ H,Pv n σ H->(∃acc,H D=some (.lst acc))/\Q (.ref D) H) :
  ∃W:Nat->Nat->St->Hp->Prop,(∃m,W 0 m (bN own ixs σ) (upd H D (.lst [])))/\∀i m σ' H',W i m σ' H'->
   ((BF lo n).stop i H'/\(∃acc,H' D=some (.lst acc))/\Q (.ref D) H')\/
   ((BF lo n).go i H'/\∃N:St->Hp->Prop,(∀σ2 H2,N σ2 H2->∃m',m' < m/\W (i + 1) m' σ2 H2)/\∀x H2,(BF lo n).yld i H' x H2->fB g tt te D x σ' H2 N):=by
 refine⟨λi m σ H=>m=n - i/\i<=n/\Pv i σ H,⟨n,by simp,Ov _,h0⟩,?_⟩
 rintro i m σ H ⟨rfl,hi,p⟩
 by_cases hlt:i < n
 ·refine .inr ⟨hlt,Pv (i + 1),λσ' H' p'=>⟨n - (i + 1),by omega,rfl,hlt,p'⟩,λx H' y=>?_⟩
  obtain⟨e,y⟩:=y
  subst e y
  exact hs i σ _ hlt p
 ·have e:i=n:=by omega
  subst e
  exact .inl ⟨NQ _,hd σ H p⟩
end
mutual
inductive Rep (K:Frag)(H:Hp):V->PyData->Prop
 |non:Rep K H .non .none
 |bl (b:Bool):Rep K H (.bl b) (.bool b)
 |int (i:Int):Rep K H (.int i) (.int i)
 |str (x:Str):Rep K H (.str x) (.str x)
 |tup {a:Addr} {xs:List V} {ds:List PyData}:fV K H a xs->lD K H xs ds->Rep K H (.ref a) (.tuple ds)
 |lst {a:Addr} {xs:List V} {ds:List PyData}:gY K H a xs->lD K H xs ds->Rep K H (.ref a) (.list ds)
inductive lD (K:Frag)(H:Hp):List V->List PyData->Prop
 |nil:lD K H [] []
 |cons {x:V} {xs:List V} {d:PyData} {ds:List PyData}:Rep K H x d->lD K H xs ds->lD K H (x :: xs) (d :: ds)
end
section
variable {X:Cx}{pins:List (Addr×Obj)}{σ:St}{H H':Hp}{s:Shared}
mutual
theorem Rep.reads (I:Inv X pins σ H s):∀{x:V} {d:PyData} {u:Value},Rep X.K H x d->RelV x u->∃as,Reads s.heap u d as
 |_,_,_,.non,r=>by cases r;exact⟨_,.none⟩
 |_,_,_,.bl b,r=>by cases r;exact⟨_,.bool b⟩
 |_,_,_,.int i,r=>by obtain⟨t,rfl⟩:=r;exact⟨_,.int i t⟩
 |_,_,_,.str x,r=>by obtain⟨t,rfl⟩:=r;exact⟨_,.str x t⟩
 |_,_,_,.tup h hs,r=>by
  cases r
  obtain⟨its,rv,⟨o,ho,hc,n,hd⟩,_⟩:=I.tuple h
  obtain⟨as,q⟩:=lD.reads I hs rv
  exact⟨_,.tuple ho hc hd (by simpa using q)⟩
 |_,_,_,.lst h hs,r=>by
  cases r
  obtain⟨its,rv,pl,_⟩:=I.list h
  obtain⟨o,ho,hc,n,hd⟩:=pl.isList
  obtain⟨as,q⟩:=lD.reads I hs rv
  exact⟨_,.list ho hc hd (by simpa using q)⟩
theorem lD.reads (I:Inv X pins σ H s):∀{xs:List V} {ds:List PyData} {us:List Value},lD X.K H xs ds->Vals xs us->∃as,ReadsAll s.heap us ds as
 |_,_,_,.nil,r=>by cases r;exact⟨_,.nil⟩
 |_,_,_,.cons h hs,r=>by
  cases r with
  |cons r1 r2=>
   obtain⟨as,q⟩:=Rep.reads I h r1
   obtain⟨bs,q'⟩:=lD.reads I hs r2
   exact⟨_,.cons q q'⟩
end
def HQ (K:Frag)(neg:Bool):R2:=λx y H Q=>∃d e,Rep K H x d/\Rep K H y e/\SeqAt.shaped d=true/\SeqAt.shaped e=true/\Q (.bl (if neg then !PyData.eqv d e else PyData.eqv d e)) H
def cL (hu:X.A.units + 64 < cLine):mD X (compareOp .Eq) (HQ X.K false):=by
 intro pins s σ H x y v u Q I rx ry h
 obtain⟨d,e,h1,h2,s1,s2,q⟩:=h
 obtain⟨as,r1⟩:=h1.reads I rx
 obtain⟨bs,r2⟩:=h2.reads I ry
 exact SeqAt.compareEq_shaped r1 r2 s1 s2 hu ⟨.bl _,H,I,rfl,q⟩
def eJ (hu:X.A.units + 64 < cLine):mD X (compareOp .NotEq) (HQ X.K true):=by
 intro pins s σ H x y v u Q I rx ry h
 obtain⟨d,e,h1,h2,s1,s2,q⟩:=h
 obtain⟨as,r1⟩:=h1.reads I rx
 obtain⟨bs,r2⟩:=h2.reads I ry
 exact SeqAt.compareNe_shaped r1 r2 s1 s2 hu ⟨.bl _,H,I,rfl,q⟩
def HN (K:Frag)(neg:Bool):R2:=λx y H Q=>∃p xs d ds,y=.ref p/\(gY K H p xs\/fV K H p xs)/\lD K H xs ds/\Rep K H x d/\SeqAt.shaped d=true/\(∀e,e∈ds->SeqAt.shaped e=true)/\
 Q (.bl (if neg then !(ds.any λe=>PyData.eqv e d) else ds.any λe=>PyData.eqv e d)) H
theorem lD.at' {K:Frag}:∀{xs:List V} {ds:List PyData} {i:Nat} {x:V},lD K H xs ds->xs[i]? =some x->∃d,ds[i]? =some d/\Rep K H x d
 |_,_,_,_,.nil,e=>by simp at e
 |_,_,0,_,.cons r _,e=>by simp at e;subst e;exact⟨_,rfl,r⟩
 |_,_,i + 1,x,.cons _ t,e=>by
  obtain⟨u,h1,h2⟩:=lD.at' (i:=i) (x:=x) t (by simpa using e)
  exact⟨u,by simpa using h1,h2⟩
open Classical in
theorem nX (I:Inv X pins σ H s)(d:PyData):∀{xs:List V} {us:List Value} {ds:List PyData},Vals xs us->lD X.K H xs ds->(∀e,e∈ds->SeqAt.shaped e=true)->∃f:Value->Bool,us.any f=(ds.any λe=>PyData.eqv e d)/\∀u,u∈us->∃e as,e∈ds/\Reads s.heap u e as/\f u=PyData.eqv e d:=by
 intro xs us ds hv hr hs
 let f:Value->Bool:=λu=>if h:∃e as,SeqAt.shaped e=true/\Reads s.heap u e as then PyData.eqv (Classical.choose h) d else false
 have hf:∀{u:Value} {e:PyData} {as:List Addr},SeqAt.shaped e=true->Reads s.heap u e as->f u=PyData.eqv e d:=λ{u e as} h1 h2=>by
  have hx:∃e as,SeqAt.shaped e=true/\Reads s.heap u e as:=⟨e,as,h1,h2⟩
  show (if h:∃e as,SeqAt.shaped e=true/\Reads s.heap u e as then PyData.eqv (Classical.choose h) d else false)=_
  rw[dif_pos hx]
  obtain⟨bs,q1,q2⟩:=Classical.choose_spec hx
  rw[SeqAt.Reads.unique _ _ _ _ _ (Pt q1) q2 h2]
 refine⟨f,?_,?_⟩
 ·induction hv generalizing ds with
  |nil=>cases hr;rfl
  | @cons x u xs us r1 r2 ih=>
   cases hr with
   | @cons _ _ e es h1 h2=>
    obtain⟨as,q⟩:=h1.reads I r1
    rw[P0,P0,hf (hs e (NR ..)) q,ih h2 λz hz=>hs z (NP _ hz)]
 ·intro u hu
  obtain⟨i,hi,e0⟩:=Oy.mp hu
  have hi':i < xs.length:=by rw[hv.length];exact hi
  obtain⟨u',eu,ru⟩:=hv.get (NK hi')
  rw[NK hi,e0] at eu
  cases eu
  obtain⟨e,ee,re⟩:=lD.at' hr (NK hi')
  obtain⟨as,q⟩:=re.reads I ru
  have hm:=N6 ee
  exact⟨e,as,hm,q,hf (hs e hm) q⟩
def x9 (hu:X.A.units + 100 < cLine):mD X (compareOp .In) (HN X.K false):=by
 intro pins s σ H x y v u Q I rx ry h
 obtain⟨p,xs,d,ds,rfl,hq,hs,hx,s1,s2,q⟩:=h
 cases ry
 obtain⟨bs,r2⟩:=hx.reads I rx
 have key:∀{e:PyData} {as:List Addr} {u:Value},SeqAt.shaped e=true->Reads s.heap u e as->SeqAt.EqAt X.A.in1 s u v (PyData.eqv e d):=λ{e as u} h1 h2=>by
  refine SeqAt.eqAt_reads _ _ _ _ _ _ _ _ h2 r2 (Pt h1) (Pt s1) ?_
  have:=SeqAt.depth_of_shaped h1
  show X.A.units + 1 + _ < _
  omega
 rcases hq with hq |hq
 ·obtain⟨its,r,pl,hz⟩:=I.list hq
  obtain⟨f,e1,e2⟩:=nX I d r hs s2
  refine SeqAt.in_listAt f pl.isList (λw hw=>?_) ⟨.bl _,H,I,rfl,?_⟩
  ·obtain⟨e,as,hm,rd,ef⟩:=e2 w (by simpa using hw)
   rw[ef];exact key (s2 e hm) rd
  ·rw[show its.toArray.any f=its.any f by simp,e1];exact q
 ·obtain⟨its,r,pl,hz⟩:=I.tuple hq
  obtain⟨f,e1,e2⟩:=nX I d r hs s2
  refine SeqAt.in_tupleAt f pl (λw hw=>?_) ⟨.bl _,H,I,rfl,?_⟩
  ·obtain⟨e,as,hm,rd,ef⟩:=e2 w (by simpa using hw)
   rw[ef];exact key (s2 e hm) rd
  ·rw[show its.toArray.any f=its.any f by simp,e1];exact q
inductive Gy (K:Frag)(H:Hp):V->String->Prop
 |non:Gy K H .non "NoneType"
 |bl (b:Bool):Gy K H (.bl b) "bool"
 |int (i:Int):Gy K H (.int i) "int"
 |str (x:Str):Gy K H (.str x) "str"
 |tup {a:Addr} {xs:List V}:fV K H a xs->Gy K H (.ref a) "tuple"
 |lst {a:Addr} {xs:List V}:gY K H a xs->Gy K H (.ref a) "list"
 |dic {a:Addr} {kvs:List (Key×V)}:H a=some (.dK kvs)->Gy K H (.ref a) "dict"
def Ms (K:Frag):List V->Hp->VK->Prop:=λxs H Q=>∃x T t b,xs= [x,.ty T]/\Gy K H x t/\PySem.W.kitOne K (.type t) (.type T)=some b/\Q (.bl b) H
theorem CM:dm X (.builtin "isinstance") (Ms X.K):=by
 intro pins s σ H xs us Q I r h
 obtain⟨x,T,t,b,rfl,ty,e,q⟩:=h
 obtain⟨u,c,rfl,rx,rc⟩:=vals2 r
 cases rc
 have fin:∀tk,EP X pins σ Q (.bool b) {s with toks:=tk}:=λtk=>⟨.bl b,H,I.tok tk,rfl,q⟩
 cases ty with
 |non=>exact jZ I rx .non e fin
 |bl b=>exact jZ I rx (.bl b) e fin
 |int i=>exact jZ I rx (.int i) e fin
 |str z=>exact jZ I rx (.str z) e fin
 |dic hk=>exact jZ I rx (.dK hk) e fin
 |tup hq=>
  cases rx
  obtain⟨its,rv,⟨o,h1,h2,_⟩,_⟩:=I.tuple hq
  exact OJ PySem.W.kitx_tuple I.kIn ⟨o,h1,h2⟩ e (λz=>nomatch z) fin
 |lst hq=>
  cases rx
  obtain⟨its,rv,pl,_⟩:=I.list hq
  obtain⟨o,h1,h2,_⟩:=pl.isList
  exact OJ PySem.W.kitx_list I.kIn ⟨o,h1,h2⟩ e (λz=>nomatch z) fin
def wW {A:Around}{its:List Value}{bs:List Bool}(hv:Vals (bs.map V.bl) its):TruthOf X.prog X.w A (λi v=>its[i]? =some v) (λi=>bs.getD i false):=λi v s Q E hi hq=>by
 have hl:=hv.length
 have hi2:i < bs.length:=by
  have:=(N0.mp hi).1
  rw[<-hl] at this;simpa using this
 obtain⟨u,eu,ru⟩:=hv.get (i:=i) (x:=.bl bs[i]) (by simp[hi2])
 rw[hi] at eu;cases eu
 cases ru
 refine Pa ?_
 have:bs.getD i false=bs[i]:=by simp[hi2]
 rw[<-this];exact hq
theorem range_all (bs:List Bool):(List.range bs.length).all (λi=>bs.getD i false)=bs.all id:=by
 induction bs with
 |nil=>rfl
 |cons b bs ih=>
  rw[N5,List.range_succ_eq_map,all_cons,all_map,all_cons,<-ih]
  rfl
theorem range_any (bs:List Bool):(List.range bs.length).any (λi=>bs.getD i false)=bs.any id:=by
 induction bs with
 |nil=>rfl
 |cons b bs ih=>
  rw[N5,List.range_succ_eq_map,P0,List.any_map,P0,<-ih]
  rfl
def yT (K:Frag)(f:List Bool->Bool):List V->Hp->VK->Prop:=λxs H Q=>∃a bs,xs= [.ref a]/\gY K H a (bs.map V.bl)/\Q (.bl (f bs)) H
def qx (hc:X.calm=true){a:Addr}{bs:List Bool}{Q:VK}(I:Inv X pins σ H s)(hq:gY X.K H a (bs.map V.bl)){f:List Bool->Bool}{g:(Nat->Bool)->Nat->Bool}(hfg:g (λi=>bs.getD i false) bs.length=f bs)(q:Q (.bl (f bs)) H) :
  wpAny (model X.prog X.w) X.A.in1 (pyIter (.ref a)) (λit s2=>∃Ii fp wr n P St tr,it=.ref Ii/\Walks X.prog X.w X.A.in1 Ii fp wr n P St/\St 0 s2.heap/\TruthOf X.prog X.w X.A.in1 P tr/\
   ∀h' tk,(∀b o,b∉wr->s2.heap.get? b=some o->h'.get? b=some o)->EP X pins σ Q (.bool (g tr n)) {s2 with heap:=h',toks:=tk}) X.xe s:=by
 obtain⟨its,rv,pl,hz⟩:=I.list hq
 have hh:X.A.in1.handled=none:=I.ok.hd hc
 have hlen:its.length=bs.length:=by rw[<-rv.length];simp
 obtain⟨o,ho,_⟩:=id pl.isList
 refine Qm pl.isList ?_
 have W:=Walks.list (prog:=X.prog) (w:=X.w) hh s.heap.objs.size a (Oz (N1 ho)) its.toArray
 refine⟨s.heap.objs.size,_,_,_,_,_,λi=>bs.getD i false,rfl,W,⟨⟨_,N3 _ rfl,rfl,rfl⟩,pl.isList.push _⟩,?_,λh' tk k=>?_⟩
 ·have:=wW (X:=X) (A:=X.A.in1) rv
  simpa using this
 ·have e:its.toArray.size=bs.length:=by simpa using hlen
  rw[e,hfg]
  have I1:Inv X pins σ H {s with heap:=s.heap.push {cls:=.type "list_iterator",data:=.fields #[.ref a,.int 0 0]}}:=I.kept (t':=s.toks) λb o e=>NM _ e
  have hf:H s.heap.objs.size=none:=I.hok.fresh (NQ _)
  have fp:=I.fpOk (H':=H) (b:=s.heap.objs.size) (NQ _) hf
  refine⟨.bl _,H,I1.turned (it:=s.heap.objs.size) (t':=tk) (λb o hb e=>k b o (by simpa using hb) e) hf fp.2.1 fp.2.2.2.1 fp.2.2.2.2.1 fp.2.2.2.2.2,rfl,q⟩
def lJ (hc:X.calm=true):dm X (.builtin "all") (yT X.K λbs=>bs.all id):=by
 intro pins s σ H xs us Q I r h
 obtain⟨a,bs,rfl,hq,q⟩:=h
 obtain⟨u,rfl,rx⟩:=vals1 r
 cases rx
 exact call_all_walk (qx hc I hq (f:=λbs=>bs.all id) (g:=λtr n=>(List.range n).all tr) (range_all bs) q)
def Dh (hc:X.calm=true):dm X (.builtin "any") (yT X.K λbs=>bs.any id):=by
 intro pins s σ H xs us Q I r h
 obtain⟨a,bs,rfl,hq,q⟩:=h
 obtain⟨u,rfl,rx⟩:=vals1 r
 cases rx
 exact call_any_walk (qx hc I hq (f:=λbs=>bs.any id) (g:=λtr n=>(List.range n).any tr) (range_any bs) q)
def Cg:dm X (.type "range") (λxs H Q=>∃n:Int,xs= [.int n]/\∀p,H p=none->Q (.ref p) (upd H p (.dW 0 n))):=by
 intro pins s σ H xs us Q I r h
 obtain⟨n,rfl,q⟩:=h
 obtain⟨u,rfl,rx⟩:=vals1 r
 obtain⟨t,rfl⟩:=rx
 refine call_range_1 ⟨.ref s.heap.objs.size,upd H s.heap.objs.size (.dW 0 n),?_,rfl,q _ (I.hok.fresh (NQ _))⟩
 exact I.laid (λb o e=>NM _ e) (NQ _) ⟨_,_,_,N3 _ rfl⟩
def r0 (hc:X.calm=true):dm X (.type "list") (λxs H Q=>∃p n,xs= [.ref p]/\H p=some (.dW 0 n)/\0<=n/\n<=1000/\∀l,H l=none->Q (.ref l) (upd H l (.lst ((List.range n.toNat).map λ(i:Nat)=>V.int (i:Int))))):=by
 intro pins s σ H xs us Q I r h
 obtain⟨p,n,rfl,hp,h0,h1,q⟩:=h
 obtain⟨u,rfl,rx⟩:=vals1 r
 cases rx
 obtain⟨t,u,v,hr⟩:∃t u v,s.heap.get? p=some {cls:=.type "range",data:=.fields #[.int 0 t,.int n u,.int 1 v]}:=I.hok p _ hp
 have hsz:Builtin.Range.rangeSize 0 n 1=(n.toNat:Int):=by rw[rangeSize_one];split <;> omega
 refine call_list_range (I.ok.hd hc) hr (small_one (by omega) (by omega) (by omega) (by omega)) hsz (by omega) λh' tk acc c k hS hacc=>?_
 have hv:Vals ((List.range n.toNat).map λ(i:Nat)=>V.int (i:Int)) acc.toList:=by
  have key:∀(m:Nat) (us:List Value) (j:Nat),us.length=m->(∀(i:Nat) (v:Value),us[i]? =some v->∃t,v=Value.int ((j + i:Nat):Int) t)->Vals ((List.range' j m).map λ(i:Nat)=>V.int (i:Int)) us:=by
   intro m
   induction m with
   |zero=>intro us j hl _;cases us with
    |nil=>exact .nil
    |cons a b=>simp at hl
   |succ m ih=>
    intro us j hl hh
    cases us with
    |nil=>simp at hl
    |cons u us=>
     rw[List.range'_succ,OE]
     refine .cons (by have:=hh 0 u rfl;simp at this;exact this) (ih us (j + 1) (by simpa using hl) λi v hi=>?_)
     obtain⟨t,e⟩:=hh (i + 1) v (by simpa using hi)
     exact⟨t,by rw[e];congr 2;omega⟩
  have:=key n.toNat acc.toList 0 (by simpa using hacc.1) λi v hi=>by
   obtain⟨t,e⟩:=hacc.2 i v (by simpa using hi)
   exact⟨t,by rw[e];simp⟩
  rw[List.range_eq_range'];exact this
 refine⟨.ref s.heap.objs.size,_,I.laid (t':=tk) k (NQ _) (show c4 X.prog X.w _ h' _ (.lst _) from⟨by simp;rw[Ot];omega,acc.toList,c,hv,by simpa using hS⟩),rfl,q _ (I.hok.fresh (NQ _))⟩
end
def Rc (h:Heap)(e:Addr)(cls:Value)(T:Addr)(fl:Value):Prop:=∃oe vs oT ts,h.get? e=some oe/\oe.cls=cls/\oe.dict=none/\oe.data=.fields vs/\vs[1]? =some (.ref T)/\T≠e/\h.get? T=some oT/\oT.data=.fields ts/\ts[3]? =some fl
abbrev Keeps (F:List Addr)(ch:List Addr)(h h':Heap):Prop:=∀b o,h.get? b=some o->b∉F->b∉ch->h'.get? b=some o
abbrev Slots (F:List Addr)(h h':Heap):Prop:=∀b o,h.get? b=some o->b∈F->∃sl,h'.get? b=some {o with slots:=sl}
section
variable {M:Model}{A:Around}{E:Value->Shared->Prop}{s:Shared}{base:Heap}{env:Env}{outer:List Env}{L e:Addr}{cls:Value}{Q:Unit->Shared->Prop}
def DG {oe:Obj}{vs:Array Value}{head:Value}{hadNext:Bool}(hfr:A.frames=some (env :: outer))(hl:s.heap.FunFrames base (env :: outer))(hf:env.frame=some L)(he:s.heap.get? e=some oe)(hc:oe.cls=cls)(hdd:oe.dict=none)(hd:oe.data=.fields vs)(hsz:1 < vs.size)
  (h:∀h' T,Keeps (jD (env :: outer)) [e] s.heap h'->Slots (jD (env :: outer)) s.heap h'->s.heap.get? T=none->Rc h' e cls T (rawInt L)->Q () {s with heap:=h'}) :
  wpAny M A (do let a <-frameOf env;let pl <-entryPlaceOf L hadNext;let b <-EntryCells.newEntry head a .none (rawInt L) .none pl;setField (.ref e) 1 b) Q E s:=by
 have eF:e∉jD (env :: outer):=λz=>by
  obtain⟨_,o,q,n⟩:=hl.mem z
  rw[he] at q;cases q;exact n _ hd
 refine NL (wpAny_frameOf_fun hfr hl hf λh1 s1=>?_)
 refine NL (wpAny_entryPlaceOf λpl hpl=>?_)
 unfold EntryCells.newEntry newFields
 refine NL (PK ?_ (hpl.sizeOk5 _ _ _ _ _))
 have e1:h1.get? e=some oe:=(s1.2.1 e eF).trans he
 have e2:=NM (h:=h1) {cls:=.type "traceback",dict:=none,data:=.fields ([head,.ref L,.none,rawInt L,.none] ++ (if pl.isEmpty then List.replicate 6 Value.none else pl)).toArray} e1
 have tn:h1.objs.size≠e:=Nat.ne_of_gt (N1 e1)
 refine PN e2 hd hsz (h _ h1.objs.size (λb o q hb hn=>?_) (λb o q hb=>?_) ?_ ?_)
 ·have hbe:b≠e:=by simpa using hn
  have q1:h1.get? b=some o:=(s1.2.1 b hb).trans q
  rw[OZ _ _ (Ne.symm hbe)]
  exact NM _ q1
 ·obtain⟨sl,q1⟩:=s1.2.2 b o q
  have hbe:b≠e:=λz=>eF (z▸hb)
  refine⟨sl,?_⟩
  rw[OZ _ _ (Ne.symm hbe)]
  exact NM _ q1
 ·cases q:s.heap.get? h1.objs.size with
  |none=>rfl
  |some o=>obtain⟨sl,q1⟩:=s1.2.2 _ o q;exact absurd (N1 q1) (OA _)
 ·have d3:=QB hd (·.setIfInBounds 1 (Value.ref h1.objs.size))
  have e3:=OK (Obj.mapFields (·.setIfInBounds 1 (Value.ref h1.objs.size))) e2 (Obj.isFreed_of_fields d3)
  refine⟨_,_,_,_,e3,(Obj.cls_mapFields _ _).trans hc,?_,d3,by simp[hsz],tn,(OZ _ _ (Ne.symm tn)).trans (N3 h1 rfl),rfl,?_⟩
  ·unfold Obj.mapFields
   split <;> exact hdd
  ·rcases hpl with rfl | ⟨_,_,_,_,_,_,_,rfl⟩ <;> simp
def yP {oe:Obj}{vs:Array Value}(hfr:A.frames=some (env :: outer))(hl:s.heap.FunFrames base (env :: outer))(hf:env.frame=some L)(he:s.heap.get? e=some oe)(hc:oe.cls=cls)(hdd:oe.dict=none)(hd:oe.data=.fields vs)(h1:vs[1]? =some .none)
  (h:∀h' T,Keeps (jD (env :: outer)) [e] s.heap h'->Slots (jD (env :: outer)) s.heap h'->s.heap.get? T=none->Rc h' e cls T (rawInt L)->Q () {s with heap:=h'}):wpAny M A (noteFrame (.ref e) env) Q E s:=by
 unfold noteFrame
 simp only[hf]
 refine NL (wpAny_field he hd h1 ?_)
 rw[NV (by decide)]
 exact DG hfr hl hf he hc hdd hd (OL.mp h1).1 h
def Am {T0:Addr}(hfr:A.frames=some (env :: outer))(hl:s.heap.FunFrames base (env :: outer))(hf:env.frame=some L)(r:Rc s.heap e cls T0 .none)
  (h:∀h' T,Keeps (jD (env :: outer)) [e,T0] s.heap h'->Slots (jD (env :: outer)) s.heap h'->(s.heap.get? T=none\/T=T0)->Rc h' e cls T (rawInt L)->Q () {s with heap:=h'}):wpAny M A (noteFrame (.ref e) env) Q E s:=by
 obtain⟨oe,vs,oT,ts,he,hc,hdd,hd,h1,hTe,hT,hdT,h3⟩:=r
 have tF:T0∉jD (env :: outer):=λz=>by
  obtain⟨_,o,q,n⟩:=hl.mem z
  rw[hT] at q;cases q;exact n _ hdT
 unfold noteFrame
 simp only[hf]
 refine NL (wpAny_field he hd h1 ?_)
 rw[NN (show (Value.ref T0 != Value.none)=true from by simp)]
 refine NL (wpAny_field hT hdT h3 ?_)
 rw[NV (show ¬((Value.none == rawInt L)=true) from by simp[rawInt])]
 refine NL (PN hT hdT (OL.mp h3).1 ?_)
 have oth:∀b,b≠T0->(s.heap.update T0 (Obj.mapFields (·.setIfInBounds 3 Value.none))).get? b=s.heap.get? b:=λb hb=>OZ _ _ (Ne.symm hb)
 have nf:∀b o,s.heap.get? b=some o->(∀ws,o.data≠.fields ws)->b≠T0:=λb o q n z=>by
  rw[z,hT] at q;cases q;exact n _ hdT
 refine DG (base:=base) hfr (hl.of_keeps λb o q n=>⟨o,(oth b (nf b o q n)).trans q,rfl⟩) hf ((oth e (Ne.symm hTe)).trans he) hc hdd hd (OL.mp h1).1 λh' T kp sl tn rc=>?_
 refine h h' T (λb o q hb hn=>?_) (λb o q hb=>?_) ?_ rc
 ·simp only[NO,OF,PF,not_or] at hn
  exact kp b o ((oth b hn.2).trans q) hb (by simp[hn.1])
 ·exact sl b o ((oth b λz=>tF (z▸hb)).trans q) hb
 ·by_cases z:T=T0
  ·exact .inr z
  ·exact .inl ((oth T z).symm.trans tn)
def zp {T:Addr}{fl:Value}(r:Rc s.heap e cls T fl)(h:∀h',Keeps [] [T] s.heap h'->Rc h' e cls T .none->Q () {s with heap:=h'}):wpAny M A (setFlight (.ref e) none) Q E s:=by
 obtain⟨oe,vs,oT,ts,he,hc,hdd,hd,h1,hTe,hT,hdT,h3⟩:=r
 have sz:3 < ts.size:=(OL.mp h3).1
 unfold setFlight
 refine NL (wpAny_field he hd h1 ?_)
 rw[NN (show (Value.ref T != Value.none)=true from by simp)]
 refine PN hT hdT sz (h _ (λb o q _ hn=>?_) ?_)
 ·have hb:b≠T:=by simpa using hn
  exact (OZ _ _ (Ne.symm hb)).trans q
 ·have d3:=QB hdT (·.setIfInBounds 3 ((none:Option Addr).elim Value.none λf=>rawInt f))
  exact⟨oe,vs,_,_,(OZ _ _ hTe).trans he,hc,hdd,hd,h1,hTe,OK _ hT (Obj.isFreed_of_fields d3),d3,by simp[sz]⟩
end
section
variable {P:Program}{w:World}
theorem c4.there {H:Hp}{h:Heap}{a:Addr}{o:HO}(x:c4 P w H h a o):∃u,h.get? a=some u:=by
 cases o with
 |lst xs=>obtain⟨_,_,_,_,e⟩:=x;exact⟨_,e⟩
 |tup xs=>obtain⟨_,_,_,u,e,_⟩:=x;exact⟨u,e⟩
 |dK kvs=>obtain⟨_,_,_,_,o,_,_,e,_⟩:=x;exact⟨_,e⟩
 |dT kvs=>obtain⟨_,_,_,_,o,_,_,e,_⟩:=x;exact⟨_,e⟩
 |set S n=>obtain⟨o,_,_,_,e,_⟩:=x;exact⟨_,e⟩
 |ins C dx fs=>obtain⟨_,_,_,e,_⟩:=x;exact⟨_,e⟩
 |own y=>obtain⟨_,e⟩:=x;exact⟨_,e⟩
 |xd fs=>obtain⟨_,⟨_,_,_,e,_⟩,_⟩:=x;exact⟨_,e⟩
 |dW lo hi=>obtain⟨_,_,_,e⟩:=x;exact⟨_,e⟩
 |bp ob u=>obtain⟨e,_⟩:=x;exact⟨_,e⟩
 |tbl ps=>exact⟨_,show h.get? a=some _ from x⟩
 |met f y=>exact⟨_,show h.get? a=some _ from x⟩
 |ext φ=>obtain⟨_,⟨_,e⟩,_⟩:=x;exact⟨_,e⟩
end
structure Lies (h₀:Heap)(H:Hp)(h:Heap)(e:Addr)(cls:Value):Prop where
 free:H e=none
 new:h₀.get? e=none
 ob:∃T,Rc h e cls T .none/\H T=none/\h₀.get? T=none
def pw (P:Program)(w:World):A0:=λouter H s E e s'=>∃ea cls H',e=.ref ea/\s'.os=s.os/\AllBare s'.gens/\Un (jD outer) [] H H' s.heap s'.heap/\mS P w H' s'.heap/\Lies s.heap H' s'.heap ea cls/\E cls none H'
section
variable {P:Program}{w:World}{M:Model}{A:Around}{E':Value->Shared->Prop}{s:Shared}{env:Env}{outer:List Env}{L e:Addr}{cls:Value}{base h₀:Heap}{H:Hp}{Q:Unit->Shared->Prop}
def wt {h h':Heap}(hok:mS P w H h)(k:∀b o,h.get? b=some o->(∃u,H b=some u)->h'.get? b=some o):mS P w H h':=λa o ha=>
 (hok a o ha).stay (λb u hb q=>k b u q (hb.elim (λz=>⟨o,by rw[z];exact ha⟩) λz=>⟨_,z⟩)) (λ_ q=>q) λ_ _ q=>q
def DU (hfr:A.frames=some (env :: outer))(hf:env.frame=some L)(hfn:s.heap.FunFrames base (env :: outer))(hok:mS P w H s.heap)(hff:∀b∈jD (env :: outer),H b=none)(Ly:Lies h₀ H s.heap e cls)(hex:∀b o,h₀.get? b=some o->∃o',s.heap.get? b=some o')
  (hQ:∀h',(∀b o,s.heap.get? b=some o->b∉jD (env :: outer)->((∃o0,h₀.get? b=some o0)\/∃u,H b=some u)->h'.get? b=some o)->(∀b o,s.heap.get? b=some o->b∈jD (env :: outer)->∃sl,h'.get? b=some {o with slots:=sl})->Lies h₀ H h' e cls->mS P w H h'->Q () {s with heap:=h'}) :
  wpAny M A (leaving env (.ref e)) Q E' s:=by
 obtain⟨fr,nw,T0,rc,hHT,hnT⟩:=Ly
 obtain⟨oe,vs,oT,ts,he,hc,hdd,hd,h1,hTe,hT,hdT,h3⟩:=id rc
 have tF:T0∉jD (env :: outer):=λz=>by
  obtain⟨_,o,q,n⟩:=hfn.mem z
  rw[hT] at q;cases q;exact n _ hdT
 unfold leaving
 refine NL (Am hfr hfn hf rc λh4 T kp sl tn rc4=>zp rc4 λh5 kp5 rc5=>?_)
 have nT:∀b o,s.heap.get? b=some o->b≠T0->b≠T:=λb o q n z=>by
  rcases tn with tn |tn
  ·rw[z,tn] at q;cases q
  ·exact n (z.trans tn)
 have kept:∀b o,s.heap.get? b=some o->b∉jD (env :: outer)->((∃o0,h₀.get? b=some o0)\/∃u,H b=some u)->h5.get? b=some o:=λb o q hb hor=>by
  have be:b≠e:=λz=>by subst z;rcases hor with⟨_,z⟩ | ⟨_,z⟩ <;> simp_all
  have bT:b≠T0:=λz=>by subst z;rcases hor with⟨_,z⟩ | ⟨_,z⟩ <;> simp_all
  exact kp5 b o (kp b o q hb (by simp[be,bT])) (by simp) (by simp[nT b o q bT])
 have slot:∀b o,s.heap.get? b=some o->b∈jD (env :: outer)->∃sl,h5.get? b=some {o with slots:=sl}:=λb o q hb=>by
  obtain⟨x,q4⟩:=sl b o q hb
  exact⟨x,kp5 b _ q4 (by simp) (by simp[nT b o q λz=>tF (z▸hb)])⟩
 have fresh:H T=none/\h₀.get? T=none:=by
  rcases tn with tn |tn
  ·refine⟨?_,?_⟩
   ·cases q:H T with
    |none=>rfl
    |some u=>obtain⟨o,qo⟩:=(hok T u q).there;rw[tn] at qo;cases qo
   ·cases q:h₀.get? T with
    |none=>rfl
    |some u=>obtain⟨o,qo⟩:=hex T u q;rw[tn] at qo;cases qo
  ·rw[tn];exact⟨hHT,hnT⟩
 refine hQ h5 kept slot ⟨fr,nw,T,rc5,fresh.1,fresh.2⟩ (wt hok λb o q hu=>kept b o q (λz=>?_) (.inr hu))
 obtain⟨u,hu⟩:=hu
 rw[hff b z] at hu;cases hu
def ye {h:Heap}{args:List Value}(hfr:A.frames=some (env :: outer))(hf:env.frame=some L)(hfn:h.FunFrames base (env :: outer))(hok:mS P w H h)(hff:∀b∈jD (env :: outer),H b=none)(hex:∀b o,h₀.get? b=some o->∃o',h.get? b=some o')(hx:Heap.MadeExcOf h s.heap e cls args)
  (hQ:∀h',(∀b o,h.get? b=some o->b∉jD (env :: outer)->h'.get? b=some o)->(∀b o,h.get? b=some o->b∈jD (env :: outer)->∃sl,h'.get? b=some {o with slots:=sl})->Lies h₀ H h' e cls->mS P w H h'->Q () {s with heap:=h'}) :
  wpAny M A (leaving env (.ref e)) Q E' s:=by
 obtain⟨t,he,_,_⟩:=hx.there
 unfold leaving
 refine NL (yP (cls:=cls) hfr (hfn.of_keeps λb o q _=>⟨o,hx.keeps b o q,rfl⟩) hf he rfl rfl rfl rfl λh4 T kp sl tn rc4=>zp rc4 λh5 kp5 rc5=>?_)
 have ne:∀b o,h.get? b=some o->b≠e:=λb o q z=>by rw[z,hx.new] at q;cases q
 have nT:∀b o,h.get? b=some o->b≠T:=λb o q z=>by
  have:=hx.keeps b o q
  rw[z,tn] at this;cases this
 have kept:∀b o,h.get? b=some o->b∉jD (env :: outer)->h5.get? b=some o:=λb o q hb=>kp5 b o (kp b o (hx.keeps b o q) hb (by simp[ne b o q])) (by simp) (by simp[nT b o q])
 have slot:∀b o,h.get? b=some o->b∈jD (env :: outer)->∃sl,h5.get? b=some {o with slots:=sl}:=λb o q hb=>by
  obtain⟨x,q4⟩:=sl b o (hx.keeps b o q) hb
  exact⟨x,kp5 b _ q4 (by simp) (by simp[nT b o q])⟩
 have fresh:∀{b:Addr},h.get? b=none->H b=none/\h₀.get? b=none:=λ{b} hb=>by
  refine⟨?_,?_⟩
  ·cases q:H b with
   |none=>rfl
   |some u=>obtain⟨o,qo⟩:=(hok b u q).there;rw[hb] at qo;cases qo
  ·cases q:h₀.get? b with
   |none=>rfl
   |some u=>obtain⟨o,qo⟩:=hex b u q;rw[hb] at qo;cases qo
 have no:h.get? T=none:=by
  cases q:h.get? T with
  |none=>rfl
  |some o=>exact absurd rfl (nT T o q)
 obtain⟨f1,f2⟩:=fresh hx.new
 obtain⟨g1,g2⟩:=fresh no
 refine hQ h5 kept slot ⟨f1,f2,T,rc5,g1,g2⟩ (wt hok λb o q hu=>kept b o q λz=>?_)
 obtain⟨u,hu⟩:=hu
 rw[hff b z] at hu;cases hu
end
section
variable {P:Program}{w:World}{K:Frag}{mg:Str->Option Value}{base:Heap}{N:List Str}{qual:Str}{scope:Scope}{f:Addr}{cd:Value}{A:Around}{outer:List Env}{s0:Shared}{H0:Hp}{E:XK}
def aO:Passes (pw P w) (ml (pw P w) P w K mg base N qual scope f cd A outer s0 H0 E) E:=by
 intro pins σ H s e s' I hcx
 obtain⟨ea,cls,H',rfl,os,bare,un,hok,Ly,q⟩:=hcx
 have I':=I.call' os un hok bare (λb hb=>absurd hb (by simp))
 have old:∀{b:Addr},s.heap.get? b=none->s0.heap.get? b=none:=λ{b} hb=>by
  cases z:s0.heap.get? b with
  |none=>rfl
  |some o=>obtain⟨o',z'⟩:=I.base.there b o z (show b∉([]:List Addr) by simp);rw[hb] at z';cases z'
 have Ly0:Lies s0.heap H' s'.heap ea cls:=by
  obtain⟨fr,nw,T,rc,hHT,hnT⟩:=Ly
  exact⟨fr,old nw,T,rc,hHT,old hnT⟩
 have above:s0.heap.objs.size<=(envOfC qual scope s0.heap.objs.size f cd).locals:=I.ok.above
 refine DU (base:=base) (h₀:=s0.heap) I'.ok.frames rfl I'.stack I'.hok I'.stkFree Ly0 (λb o z=>I'.base.there b o z (show b∉([]:List Addr) by simp)) λh' kept slot Ly' hok'=>?_
 have nL:∀{b:Addr} {o:Obj},s0.heap.get? b=some o->b∉jD outer->b∉jD (envOfC qual scope s0.heap.objs.size f cd :: outer):=λ{b o} z hb hm=>by
  rcases NO.mp (I'.stkSub b hm) with e |e
  ·have:=N1 z
   rw[e] at this
   exact absurd (Oi this above) (OA _)
  ·exact hb e
 have inn:∀{b:Addr},b∈jD outer->b∈jD (envOfC qual scope s0.heap.objs.size f cd :: outer):=λ{b} hb=>by
  obtain⟨en,h1,h2⟩:=Pz.mp hb
  exact Pz.mpr ⟨en,NP _ h1,h2⟩
 refine⟨ea,cls,H',rfl,os.trans I.os,bare,⟨λb o z n hb _=>?_,λb o z n hb _=>?_,λb o z n _=>I'.base.free b o z n (show b∉([]:List Addr) by simp),λb o z _=>?_,I'.base.tups,I'.base.frzs,I'.base.tbls⟩,hok',Ly',q⟩
 ·exact kept b o (I'.base.keep b o z n hb (show b∉([]:List Addr) by simp)) (nL z hb) (.inl ⟨o,z⟩)
 ·obtain⟨sl,z1⟩:=I'.base.slot b o z n hb (show b∉([]:List Addr) by simp)
  obtain⟨sl2,z2⟩:=slot b _ z1 (inn hb)
  exact⟨sl2,z2⟩
 ·obtain⟨o',z1⟩:=I'.base.there b o z (show b∉([]:List Addr) by simp)
  by_cases hb:b∈jD (envOfC qual scope s0.heap.objs.size f cd :: outer)
  ·obtain⟨sl,z2⟩:=slot b o' z1 hb
   exact⟨_,z2⟩
  ·exact⟨o',kept b o' z1 hb (.inl ⟨o,z⟩)⟩
def HA (C:Addr)(E:XK)(t:TA):TS:=λ_ σ H=>t σ H λvs H1=>vs.length<=sizeLine/\E (.ref C) none H1
def CV {x:Str}{C:Addr}{np cpos pos:Pos}{e0:Expr}{es:List Expr}{t:TA}{Bn newId initId:String}{bmB:List Value}(FB:ExcBaseFacts Bn newId initId bmB)(hbb:bmB.contains (.type "BaseException")=true)(q:PySem.W.excIn K C bmB newId=true)
  (hg:Gl (ml (pw P w) P w K mg base N qual scope f cd A outer s0 H0 E) x) (hm:mg x=some (.ref C)) (ha:PA (ml (pw P w) P w K mg base N qual scope f cd A outer s0 H0 E) (e0 :: es) t)
  (he:starEach (e0 :: es) (envOfC qual scope s0.heap.objs.size f cd)=(false,eval e0 (envOfC qual scope s0.heap.objs.size f cd)) :: starEach es (envOfC qual scope s0.heap.objs.size f cd):=by rfl)
  (hpl:(backTo cpos (starEach es (envOfC qual scope s0.heap.objs.size f cd))).any (·.1)=false:=by rfl) (hdb:(x == ("__debug__":Str))=false:=by decide) :
  PS (ml (pw P w) P w K mg base N qual scope f cd A outer s0 H0 E) (.Raise (some (.Call (.Name x np) (e0 :: es) [] cpos)) none pos) (HA C E t):=by
 intro pins s σ H D I h
 have own:∀{hh:Heap},K.In hh->∃bm Nn nm qn bs hdct sn sub ab col dd k0 k1 k2 k3 k5 mN,hh.get? C=some (excClassObj nm qn C Nn bs bm hdct sn sub ab col dd k0 k1 k2 k3 k5 newId)/\hh.Ns Nn mN/\mN "__init__"=none/\OwnTail hh bmB bm:=λ{hh} X=>by
  have q:=q
  unfold PySem.W.excIn at q
  split at q
  ·rename_i dd cdd sl ho
   split at q
   ·rename_i C' bm k0 k1 k2 k3 n k5 hm hs
    simp only[N4,beq_iff_eq,Pn] at q
    obtain⟨⟨⟨⟨⟨rfl,rfl⟩,hdel⟩,ht⟩,hok⟩,hni⟩:=q
    obtain⟨nm,bs,mro,ns,qn,hd,sn,sub,ab,col,del⟩:=cdd
    dsimp only at hm hdel hok hni
    subst hm hdel
    have hsl:sl=#[k0,k1,k2,k3,some (.builtin n),k5]:=by
     obtain⟨l⟩:=sl
     simp only at hs
     rw[hs]
    subst hsl
    exact⟨bm,ns,nm,qn,bs,hd,sn,sub,ab,col,dd,k0,k1,k2,k3,k5,_,X _ _ ho,.of_isNs (PySem.W.isNs_of_in X hok),PySem.W.nsMap_none_of_in X hok hni,PySem.W.tail_of_in X ht⟩
   ·cases q
  ·cases q
 obtain⟨bm,Nn,nm,qn,bs,hdct,sn,sub,ab,col,dd,k0,k1,k2,k3,k5,mN,hC,hN,hni,TL⟩:=own I.ok.mod.kin
 have hA:=ha cpos pins s σ H _ I h
 refine wpAny_Raise_call_subT (C:=C) (nm:=nm) (q:=qn) (N:=Nn) (bs:=bs) (bm:=bm) (hdct:=hdct) (sn:=sn) (sub:=sub) (ab:=ab) (col:=col) (dd:=dd) (k0:=k0) (k1:=k1) (k2:=k2) (k3:=k3) (k5:=k5) FB (mN:=mN) (TL.hasType hbb) (I.ok.hd rfl) ?_ hni (ve I hg hm ⟨rfl,?_⟩ hdb)
 ·show (backTo cpos (starEach (e0 :: es) (envOfC qual scope s0.heap.objs.size f cd))).any (·.1)=false
  rw[he]
  show (false || (backTo cpos (starEach es (envOfC qual scope s0.heap.objs.size f cd))).any (·.1))=false
  rw[hpl];rfl
 have hA:wpAny _ _ (spliced (backTo cpos (starEach (e0 :: es) (envOfC qual scope s0.heap.objs.size f cd)))) _ _ s:=hA
 show wpAny _ _ (evalArgs (.ref C) true (backTo cpos (starEach (e0 :: es) (envOfC qual scope s0.heap.objs.size f cd))) []) _ _ s
 rw[he] at hA ⊢
 refine Calls.evalArgs_plain (cM hA λus s2 ⟨vs,H2,I2,r2,hl2,q2⟩=>⟨rfl,by show us.length<=_;rw[<-r2.length];exact hl2,I2.bk _ _ hC,hN.keeps I2.bk,TL.keeps I2.bk,λh' e hx=>?_⟩)
 have above:s0.heap.objs.size<=(envOfC qual scope s0.heap.objs.size f cd).locals:=I2.ok.above
 have nil:∀b:Addr,b∉([]:List Addr):=λb=>by simp
 refine ye (s:={s2 with heap:=h'}) (h:=s2.heap) (base:=base) (h₀:=s0.heap) I2.ok.frames rfl I2.stack I2.hok I2.stkFree (λb o z=>I2.base.there b o z (nil b)) hx λh2 kept slot Ly hok=>?_
 have nL:∀{b:Addr} {o:Obj},s0.heap.get? b=some o->b∉jD outer->b∉jD (envOfC qual scope s0.heap.objs.size f cd :: outer):=λ{b o} z hb hm=>by
  rcases NO.mp (I2.stkSub b hm) with e |e
  ·have:=N1 z
   rw[e] at this
   exact absurd (Oi this above) (OA _)
  ·exact hb e
 have inn:∀{b:Addr},b∈jD outer->b∈jD (envOfC qual scope s0.heap.objs.size f cd :: outer):=λ{b} hb=>by
  obtain⟨en,h1,h2⟩:=Pz.mp hb
  exact Pz.mpr ⟨en,NP _ h1,h2⟩
 refine⟨e,.ref C,H2,rfl,I2.os,I2.bare,⟨λb o z n hb _=>?_,λb o z n hb _=>?_,λb o z n _=>I2.base.free b o z n (nil b),λb o z _=>?_,I2.base.tups,I2.base.frzs,I2.base.tbls⟩,hok,Ly,q2⟩
 ·exact kept b o (I2.base.keep b o z n hb (nil b)) (nL z hb)
 ·obtain⟨sl,z1⟩:=I2.base.slot b o z n hb (nil b)
  obtain⟨sl2,z2⟩:=slot b _ z1 (inn hb)
  exact⟨sl2,z2⟩
 ·obtain⟨o',z1⟩:=I2.base.there b o z (nil b)
  by_cases hb:b∈jD (envOfC qual scope s0.heap.objs.size f cd :: outer)
  ·obtain⟨sl,z2⟩:=slot b o' z1 hb
   exact⟨_,z2⟩
  ·exact⟨o',kept b o' z1 hb⟩
end
def mroIn (K:Frag)(C:Addr):List Value:=match K.lookup C with
 |some ⟨_,_,.cls cd,_⟩=>cd.mro
 |_=>[]
structure Dt (k:Nat)(A:Around):Prop where
 dp:A.depth + 3 * k + 5 < recursionLimit
 un:A.units + 16 * k + 200 < cLine
 gd:A.guards=some []
def fX.h {k:Nat}{A:Around}(r:fX k A):Dt k A:=⟨r.dp,r.un,r.gd⟩
def Dt.units {k:Nat}{A:Around}(r:Dt k A):A.units + 64 < cLine:=by have:=r.un;omega
section
variable {P:Program}{w:World}{K:Frag}{mg:Str->Option Value}{base:Heap}
def Eu.vh {x qual:Str}{st:Stmt}{f:Addr}{fd:FuncData}{N ps:List Str}{k:Nat}{sp:Sp}(F:Eu K x qual st f fd)(S:aK N ps (ay st))(len:∀vs H Q E,sp vs H Q E->vs.length=ps.length)
  (hbody:∀(cdv:Value) (A:Around) (outer:List Env) (s:Shared) (H:Hp) (vs:List V) (Q:VK) (E:XK),fX k (A.deeper (envOfC qual (ay st) s.heap.objs.size f cdv))->sp vs H Q E->
   ∃t,sC (ml (pw P w) P w K mg base N qual (ay st) f cdv A outer s H E) (df st) t/\t {nx:=λ_ H'=>Q .non H',rt:=Q} (start N vs) H):gN P w K mg base (pw P w) (k + 1) f fd ps sp:=by
 obtain⟨oc,od,kV,doc,pm,an,cdv,ct,osl,rfl,lk,hcd⟩:=F.ex
 exact Hm lk hcd S len λA outer s H vs Q E hr hsp=>hbody cdv A outer s H vs Q E hr hsp
end
section
variable {X:Cx}
def iB (hu:X.A.units + 100 < cLine):mD X (compareOp .NotIn) (HN X.K true):=by
 intro pins s σ H x y v u Q I rx ry h
 obtain⟨p,xs,d,ds,rfl,hq,hs,hx,s1,s2,q⟩:=h
 cases ry
 obtain⟨bs,r2⟩:=hx.reads I rx
 have key:∀{e:PyData} {as:List Addr} {u:Value},SeqAt.shaped e=true->Reads s.heap u e as->SeqAt.EqAt X.A.in1 s u v (PyData.eqv e d):=λ{e as u} h1 h2=>by
  refine SeqAt.eqAt_reads _ _ _ _ _ _ _ _ h2 r2 (Pt h1) (Pt s1) ?_
  have:=SeqAt.depth_of_shaped h1
  show X.A.units + 1 + _ < _
  omega
 rcases hq with hq |hq
 ·obtain⟨its,r,pl,hz⟩:=I.list hq
  obtain⟨f,e1,e2⟩:=nX I d r hs s2
  refine SeqAt.notIn_listAt f pl.isList (λw hw=>?_) ⟨.bl _,H,I,rfl,?_⟩
  ·obtain⟨e,as,hm,rd,ef⟩:=e2 w (by simpa using hw)
   rw[ef];exact key (s2 e hm) rd
  ·rw[show its.toArray.any f=its.any f by simp,e1];exact q
 ·obtain⟨its,r,pl,hz⟩:=I.tuple hq
  obtain⟨f,e1,e2⟩:=nX I d r hs s2
  refine SeqAt.notIn_tupleAt f pl (λw hw=>?_) ⟨.bl _,H,I,rfl,?_⟩
  ·obtain⟨e,as,hm,rd,ef⟩:=e2 w (by simpa using hw)
   rw[ef];exact key (s2 e hm) rd
  ·rw[show its.toArray.any f=its.any f by simp,e1];exact q
end
abbrev D:=PyData
def kD:Key->D
 | .inl i=>.int i
 | .inr x=>.str x
mutual
inductive Rp (K:Frag)(G:Hp):V->D->Prop
 |non:Rp K G .non .none
 |bl (b:Bool):Rp K G (.bl b) (.bool b)
 |int (i:Int):Rp K G (.int i) (.int i)
 |str (x:Str):Rp K G (.str x) (.str x)
 |tup {a:Addr} {xs:List V} {ds:List D}:fV K G a xs->cF K G xs ds->Rp K G (.ref a) (.tuple ds)
 |lst {a:Addr} {xs:List V} {ds:List D}:G a=some (.lst xs)->cF K G xs ds->Rp K G (.ref a) (.list ds)
 |scr {a:Addr} {ns:List Int}:gY K G a (ns.map V.int)->Rp K G (.ref a) (.dict [(.none,.list (ns.map int))])
 |dK {a:Addr} {kvs:List (Key×V)} {ds:List (D×D)}:G a=some (.dK kvs)->BK K G kvs ds->Rp K G (.ref a) (.dict ds)
 |dT {a:Addr} {kvs:List (List Key×V)} {ds:List (D×D)}:G a=some (.dT kvs)->BN K G kvs ds->Rp K G (.ref a) (.dict ds)
inductive cF (K:Frag)(G:Hp):List V->List D->Prop
 |nil:cF K G [] []
 |cons {x:V} {xs:List V} {d:D} {ds:List D}:Rp K G x d->cF K G xs ds->cF K G (x :: xs) (d :: ds)
inductive BK (K:Frag)(G:Hp):List (Key×V)->List (D×D)->Prop
 |nil:BK K G [] []
 |cons {k:Key} {x:V} {xs:List (Key×V)} {d:D} {ds:List (D×D)}:Rp K G x d->BK K G xs ds->BK K G ((k,x) :: xs) ((kD k,d) :: ds)
inductive BN (K:Frag)(G:Hp):List (List Key×V)->List (D×D)->Prop
 |nil:BN K G [] []
 |cons {k:List Key} {x:V} {xs:List (List Key×V)} {d:D} {ds:List (D×D)}:Rp K G x d->BN K G xs ds->BN K G ((k,x) :: xs) ((.tuple (k.map kD),d) :: ds)
end
section
variable {K:Frag}{G G' H H':Hp}
def Rd.mono {a:Addr}{u:HO}(h:Rd G a u)(s:aC G G'):Rd G' a u:=h.elim (λe=>.inl (s _ _ e)) λ⟨o,e⟩=>.inr ⟨o,s _ _ e⟩
mutual
theorem Rp.mono (s:aC G G'):∀{x:V} {d:D},Rp K G x d->Rp K G' x d
 |_,_,.non=>.non
 |_,_,.bl b=>.bl b
 |_,_,.int i=>.int i
 |_,_,.str x=>.str x
 |_,_,.tup h hs=>.tup (h.grow s.grow) (cF.mono s hs)
 |_,_,.lst h hs=>.lst (s _ _ h) (cF.mono s hs)
 |_,_,.scr h=>.scr (s.seq h)
 |_,_,.dK h hs=>.dK (s _ _ h) (BK.mono s hs)
 |_,_,.dT h hs=>.dT (s _ _ h) (BN.mono s hs)
theorem cF.mono (s:aC G G'):∀{xs:List V} {ds:List D},cF K G xs ds->cF K G' xs ds
 |_,_,.nil=>.nil
 |_,_,.cons h hs=>.cons (Rp.mono s h) (cF.mono s hs)
theorem BK.mono (s:aC G G'):∀{xs:List (Key×V)} {ds:List (D×D)},BK K G xs ds->BK K G' xs ds
 |_,_,.nil=>.nil
 |_,_,.cons h hs=>.cons (Rp.mono s h) (BK.mono s hs)
theorem BN.mono (s:aC G G'):∀{xs:List (List Key×V)} {ds:List (D×D)},BN K G xs ds->BN K G' xs ds
 |_,_,.nil=>.nil
 |_,_,.cons h hs=>.cons (Rp.mono s h) (BN.mono s hs)
end
theorem cF.len:∀{xs:List V} {ds:List D},cF K G xs ds->xs.length=ds.length
 |_,_,.nil=>rfl
 |_,_,.cons _ t=>by simp[cF.len t]
theorem cF.at:∀{xs:List V} {ds:List D} {i:Nat} {d:D},cF K G xs ds->ds[i]? =some d->∃x,xs[i]? =some x/\Rp K G x d
 |_,_,_,_,.nil,e=>by simp at e
 |_,_,0,_,.cons r _,e=>by simp at e;subst e;exact⟨_,rfl,r⟩
 |_,_,i + 1,x,.cons _ t,e=>by
  obtain⟨u,h1,h2⟩:=cF.at (i:=i) (d:=x) t (by simpa using e)
  exact⟨u,by simpa using h1,h2⟩
theorem cF.at':∀{xs:List V} {ds:List D} {i:Nat} {x:V},cF K G xs ds->xs[i]? =some x->∃d,ds[i]? =some d/\Rp K G x d
 |_,_,_,_,.nil,e=>by simp at e
 |_,_,0,_,.cons r _,e=>by simp at e;subst e;exact⟨_,rfl,r⟩
 |_,_,i + 1,x,.cons _ t,e=>by
  obtain⟨u,h1,h2⟩:=cF.at' (i:=i) (x:=x) t (by simpa using e)
  exact⟨u,by simpa using h1,h2⟩
theorem cF.append:∀{xs ys:List V} {ds es:List D},cF K G xs ds->cF K G ys es->cF K G (xs ++ ys) (ds ++ es)
 |_,_,_,_,.nil,s=>s
 |_,_,_,_,.cons r t,s=>.cons r (cF.append t s)
def cF.snoc {xs:List V}{ds:List D}{x:V}{d:D}(h:cF K G xs ds)(q:Rp K G x d):cF K G (xs ++ [x]) (ds ++ [d]):=h.append (.cons q .nil)
theorem cF.take:∀{xs:List V} {ds:List D} (n:Nat),cF K G xs ds->cF K G (xs.take n) (ds.take n)
 |_,_,0,_=>.nil
 |_,_,_ + 1,.nil=>.nil
 |_,_,n + 1,.cons r t=>.cons r (cF.take n t)
theorem cF.drop:∀{xs:List V} {ds:List D} (n:Nat),cF K G xs ds->cF K G (xs.drop n) (ds.drop n)
 |_,_,0,r=>r
 |_,_,_ + 1,.nil=>.nil
 |_,_,n + 1,.cons _ t=>cF.drop n t
theorem cF.set {x:V}{d:D}(r:Rp K G x d):∀{xs:List V} {ds:List D} (i:Nat),cF K G xs ds->cF K G (xs.set i x) (ds.set i d)
 |_,_,_,.nil=>.nil
 |_,_,0,.cons _ t=>.cons r t
 |_,_,i + 1,.cons q t=>.cons q (cF.set r i t)
theorem cF.rep {n:Nat}{xs:List V}{ds:List D}(h:cF K G xs ds):cF K G (List.replicate n xs).flatten (List.replicate n ds).flatten:=by
 induction n with
 |zero=>exact .nil
 |succ n ih=>rw[OH,OH,Pl,Pl];exact h.append ih
mutual
def Df:D->Bool
 | .dict _=>false
 | .list ds=>rR ds
 | .tuple ds=>rR ds
 |_=>true
def rR:List D->Bool
 | []=>true
 |d :: ds=>Df d && rR ds
end
mutual
theorem Rp.rep:∀{x:V} {d:D},Rp K G x d->Df d=true->Rep K G x d
 |_,_,.non,_=>.non
 |_,_,.bl b,_=>.bl b
 |_,_,.int i,_=>.int i
 |_,_,.str x,_=>.str x
 |_,_,.tup h hs,e=>.tup h (cF.reps hs (by simpa[Df] using e))
 |_,_,.lst h hs,e=>.lst (.inl (.inl h)) (cF.reps hs (by simpa[Df] using e))
 |_,_,.scr _,e=>by simp[Df] at e
 |_,_,.dK _ _,e=>by simp[Df] at e
 |_,_,.dT _ _,e=>by simp[Df] at e
theorem cF.reps:∀{xs:List V} {ds:List D},cF K G xs ds->rR ds=true->lD K G xs ds
 |_,_,.nil,_=>.nil
 |_,_,.cons h hs,e=>.cons (Rp.rep h (by simp[rR] at e;exact e.1)) (cF.reps hs (by simp[rR] at e;exact e.2))
end
def Own (K:Frag)(G H:Hp)(a:Addr):D->Prop
 | .list ds=>∃xs,H a=some (.lst xs)/\cF K G xs ds
 | .dict ds=>(∃kvs,H a=some (.dK kvs)/\BK K G kvs ds)\/∃kvs,H a=some (.dT kvs)/\BN K G kvs ds
 |_=>False
def Own.obj {a:Addr}{d:D}(h:Own K G H a d):∃o,H a=some o:=by
 cases d <;> first |exact h.elim |skip
 ·obtain⟨xs,e,_⟩:=h;exact⟨_,e⟩
 ·rcases h with⟨_,e,_⟩ | ⟨_,e,_⟩ <;> exact⟨_,e⟩
def Own.mono {a:Addr}{d:D}(h:Own K G H a d)(s:aC G G')(m:∀o,H a=some o->H' a=some o):Own K G' H' a d:=by
 cases d <;> first |exact h.elim |skip
 ·obtain⟨xs,e,r⟩:=h;exact⟨xs,m _ e,r.mono s⟩
 ·rcases h with⟨k,e,r⟩ | ⟨k,e,r⟩
  ·exact .inl ⟨k,m _ e,r.mono s⟩
  ·exact .inr ⟨k,m _ e,r.mono s⟩
def Own.rp {a:Addr}{d:D}(h:Own K G H a d)(n:G a=none){G':Hp}(s:aC G G')(e:∀o,H a=some o->G' a=some o):Rp K G' (.ref a) d:=by
 cases d <;> first |exact h.elim |skip
 ·obtain⟨xs,q,r⟩:=h;exact .lst (e _ q) (r.mono s)
 ·rcases h with⟨k,q,r⟩ | ⟨k,q,r⟩
  ·exact .dK (e _ q) (r.mono s)
  ·exact .dT (e _ q) (r.mono s)
def mK (K:Frag)(B:Option Addr)(G H:Hp)(v:V)(d:D):Prop:=Rp K G v d\/∃a,v=.ref a/\B≠some a/\Own K G H a d
def iY (B:Option Addr)(H H':Hp):Prop:=∀b o,H b=some o->B≠some b->H' b=some o
def iY.refl (B:Option Addr)(H:Hp):iY B H H:=λ_ _ h _=>h
def iY.trans {B:Option Addr}{H1:Hp}(x:iY B H H1)(y:iY B H1 H'):iY B H H':=λb o h n=>y b o (x b o h n) n
def aC.mov (s:aC H H')(B:Option Addr):iY B H H':=λb o h _=>s b o h
def mK.mono {B:Option Addr}{v:V}{d:D}(h:mK K B G H v d)(s:aC G G')(m:iY B H H'):mK K B G' H' v d:=by
 rcases h with h | ⟨a,e,n,h⟩
 ·exact .inl (h.mono s)
 ·exact .inr ⟨a,e,n,h.mono s λo q=>m a o q n⟩
def mK.rpH {B:Option Addr}{v:V}{d:D}(h:mK K B G H v d)(s:aC G H):Rp K H v d:=by
 rcases h with h | ⟨a,rfl,n,h⟩
 ·exact h.mono s
 ·cases d <;> first |exact h.elim |skip
  ·obtain⟨xs,q,r⟩:=h;exact .lst q (r.mono s)
  ·rcases h with⟨k,q,r⟩ | ⟨k,q,r⟩
   ·exact .dK q (r.mono s)
   ·exact .dT q (r.mono s)
def mK.list {B:Option Addr}{v:V}{ds:List D}(h:mK K B G H v (.list ds))(s:aC G H):∃a xs,v=.ref a/\Rd H a (.lst xs)/\cF K G xs ds:=by
 rcases h with h | ⟨a,rfl,n,xs,q,r⟩
 ·cases h with
  |lst h r=>exact⟨_,_,rfl,.inl (s _ _ h),r⟩
 ·exact⟨a,xs,rfl,.inl q,r⟩
def mK.tuple {B:Option Addr}{v:V}{ds:List D}(h:mK K B G H v (.tuple ds))(s:aC G H):∃a xs,v=.ref a/\fV K H a xs/\cF K G xs ds:=by
 rcases h with h | ⟨a,rfl,n,h⟩
 ·cases h with
  |tup h r=>exact⟨_,_,rfl,h.grow s.grow,r⟩
 ·exact h.elim
def mK.int {B:Option Addr}{v:V}{i:Int}(h:mK K B G H v (.int i)):v=.int i:=by
 rcases h with h | ⟨a,rfl,n,h⟩
 ·cases h;rfl
 ·exact h.elim
def mK.bool {B:Option Addr}{v:V}{b:Bool}(h:mK K B G H v (.bool b)):v=.bl b:=by
 rcases h with h | ⟨a,rfl,n,h⟩
 ·cases h;rfl
 ·exact h.elim
def mK.str {B:Option Addr}{v:V}{x:Str}(h:mK K B G H v (.str x)):v=.str x:=by
 rcases h with h | ⟨a,rfl,n,h⟩
 ·cases h;rfl
 ·exact h.elim
def mK.none {B:Option Addr}{v:V}(h:mK K B G H v .none):v=.non:=by
 rcases h with h | ⟨a,rfl,n,h⟩
 ·cases h;rfl
 ·exact h.elim
end
def Fz:HO->Prop
 | .tup _=>True
 | .bp _ _=>True
 |_=>False
def Mx (H:Hp)(b:Addr):Prop:=H b≠none/\∀o,H b=some o->¬Fz o
def Mx.lst {H:Hp}{b:Addr}{xs:List V}(h:H b=some (.lst xs)):Mx H b:=⟨by rw[h];simp,λys z=>by rw[h] at z;cases z;exact λy=>y⟩
theorem Mx.same {H H':Hp}{b:Addr}(h:Mx H b)(m:∀o,H b=some o->H' b=some o):Mx H' b:=by
 obtain⟨h1,h2⟩:=h
 cases e:H b with
 |none=>exact absurd e h1
 |some o=>
  refine⟨by rw[m o e];simp,λxs z=>?_⟩
  rw[m o e] at z
  cases z
  exact h2 o e
def Own.mx {K:Frag}{G H:Hp}{a:Addr}{d:D}(h:Own K G H a d):Mx H a:=by
 cases d <;> first |exact h.elim |skip
 ·obtain⟨xs,e,_⟩:=h;exact Mx.lst e
 ·rcases h with⟨k,e,_⟩ | ⟨k,e,_⟩ <;> exact⟨by rw[e];simp,λys z=>by rw[e] at z;cases z;exact λy=>y⟩
open Classical in
noncomputable def oM (G H:Hp):Hp:=λb=>match G b with
 |some o=>some o
 |none=>match H b with
  |some o=>if Fz o then some o else none
  |none=>none
def sZ {G H:Hp}:aC G (oM G H):=λb o e=>by unfold oM;rw[e]
theorem zg {G H:Hp}(s:aC G H){b:Addr}{o:HO}(e:H b=some o)(f:Fz o):oM G H b=some o:=by
 unfold oM
 cases q:G b with
 |some u=>have:=s b u q;rw[e] at this;cases this;rfl
 |none=>simp only[e];rw[NN f]
theorem vK {G H:Hp}(s:aC G H):aC (oM G H) H:=λb o e=>by
 unfold oM at e
 cases q:G b with
 |some u=>rw[q] at e;cases e;exact s b _ q
 |none=>
  rw[q] at e
  cases q2:H b with
  |none=>rw[q2] at e;cases e
  |some u=>
   rw[q2] at e
   dsimp only at e
   split at e
   ·cases e;rfl
   ·cases e
theorem zA {G H H':Hp}(hh:aC H H'){b:Addr}(m:Mx H b):oM G H' b=G b:=by
 unfold oM
 cases q:G b with
 |some u=>rfl
 |none=>
  obtain⟨h1,h2⟩:=m
  cases e:H b with
  |none=>exact absurd e h1
  |some o=>
   simp only[hh b o e]
   rw[NV (h2 o e)]
def qI {K:Frag}{G H:Hp}(s:aC G H){a:Addr}{xs:List V}(h:fV K H a xs):fV K (oM G H) a xs:=by
 rcases h with (h | ⟨o,h⟩) |h
 ·exact .inl (.inl (zg s h trivial))
 ·exact .inl (.inr ⟨o,zg s h trivial⟩)
 ·exact .inr h
structure Fx where
 K:Frag
 H0:Hp
 G0:Hp
 par:List Addr
 ca:Str->Addr
 br:Nat->Bool
 bx:Option Addr
inductive Sl where
 |no |fz (d:D) |ow (d:D) |bx |br (d:D)
abbrev En:=List Sl
inductive Nv where
 |no |da (d:D) |bx
def Sl.val:Sl->Nv
 | .no=>.no
 | .fz d=>.da d
 | .ow d=>.da d
 | .br d=>.da d
 | .bx=>.bx
def vl (env:En):List Nv:=env.map Sl.val
def MD (Γ:Fx)(B:Option Addr)(G H:Hp)(i:Nat)(o:Option (Option V)):Sl->Prop
 | .no=>True
 | .fz d=>∃v,o=some (some v)/\Rp Γ.K G v d
 | .ow d=>∃a,o=some (some (.ref a))/\Γ.H0 a=none/\G a=none/\B≠some a/\Own Γ.K G H a d
 | .bx=>∃a,o=some (some (.ref a))/\B=some a
 | .br d=>Γ.br i=true/\∃a,o=some (some (.ref a))/\B≠some a/\a∉Γ.par/\Own Γ.K G H a d
structure SR (Γ:Fx)(B:Option Addr)(G H:Hp)(σ:St)(env:En)(β:Int):Prop where
 sub:aC G H
 old:aC Γ.G0 G
 new:∀b,Mx Γ.H0 b->Γ.G0 b=none->G b=none
 keep:∀b o,Γ.H0 b=some o->b∉Γ.par->H b=some o
 pin:∀b,b∈Γ.par->Mx H b
 fix:∀b,Γ.bx=some b->B=some b
 box:∀b,B=some b->H b=some (.lst [.int β])/\G b=none/\(b∈Γ.par\/Γ.H0 b=none)
 len:σ.length=env.length
 slot:∀(i:Nat) (s:Sl),env[i]? =some s->MD Γ B G H i (σ[i]?) s
 sep:∀(i j:Nat) (a:Addr) (d e:D),env[i]? =some (.ow d)->env[j]? =some (.ow e)->σ[i]? =some (some (.ref a))->σ[j]? =some (some (.ref a))->i=j
structure Ext (G H G' H':Hp):Prop where
 hh:aC H H'
 gg:aC G G'
 gh:aC G' H'
 on:∀b,Mx H b->G' b=G b
def Ext.refl {G H:Hp}(s:aC G H):Ext G H G H:=⟨aC.refl _,aC.refl _,s,λ_ _=>rfl⟩
def Ext.tups {G H H':Hp}(s:aC G H)(hh:aC H H'):Ext G H (oM G H') H':=⟨hh,sZ,vK (s.trans hh),λ_ m=>zA hh m⟩
def Ext.new {G H:Hp}(s:aC G H){p:Addr}{o:HO}(h:H p=none):Ext G H (upd G p o) (upd H p o):=by
 refine⟨aC.new h,aC.new (s.free h),λb u e=>?_,λb hb=>?_⟩
 ·by_cases z:b=p
  ·subst z;rw[aI] at e ⊢;exact e
  ·rw[aH z] at e ⊢;exact s b u e
 ·exact aH (λz=>hb.1 (by rw[z];exact h))
def Ext.own {G H:Hp}(s:aC G H){p:Addr}{o:HO}(h:H p=none):Ext G H G (upd H p o):=
 ⟨aC.new h,aC.refl _,s.trans (aC.new h),λ_ _=>rfl⟩
def Ext.trans {G H G1 H1 G2 H2:Hp}(x:Ext G H G1 H1)(y:Ext G1 H1 G2 H2):Ext G H G2 H2:=by
 refine⟨x.hh.trans y.hh,x.gg.trans y.gg,y.gh,λb hb=>?_⟩
 rw[y.on b (hb.same λo e=>x.hh b o e),x.on b hb]
section
variable {Γ:Fx}{B:Option Addr}{G H G' H':Hp}{σ:St}{env:En}{β:Int}
def SR.there (I:SR Γ B G H σ env β){b:Addr}(h:Γ.H0 b≠none):H b≠none:=by
 by_cases hp:b∈Γ.par
 ·exact (I.pin b hp).1
 ·cases e:Γ.H0 b with
  |none=>exact absurd e h
  |some o=>rw[I.keep b o e hp];simp
def SR.thereM (I:SR Γ B G H σ env β){b:Addr}(h:Mx Γ.H0 b):Mx H b:=by
 by_cases hp:b∈Γ.par
 ·exact I.pin b hp
 ·exact h.same λo e=>I.keep b o e hp
def SR.ext (I:SR Γ B G H σ env β)(x:Ext G H G' H'):SR Γ B G' H' σ env β:=by
 refine⟨x.gh,I.old.trans x.gg,λb h1 h2=>?_,λb o h1 h2=>x.hh b o (I.keep b o h1 h2),λb hb=>?_,I.fix,λb e=>?_,I.len,λi s e=>?_,I.sep⟩
 ·rw[x.on b (I.thereM h1)];exact I.new b h1 h2
 ·exact (I.pin b hb).same λo e=>x.hh b o e
 ·obtain⟨h1,h2,h3⟩:=I.box b e
  exact⟨x.hh b _ h1,by rw[x.on b (Mx.lst h1)];exact h2,h3⟩
 ·have q:=I.slot i s e
  cases s with
  |no=>trivial
  |fz d=>obtain⟨v,h1,h2⟩:=q;exact⟨v,h1,h2.mono x.gg⟩
  |ow d=>
   obtain⟨a,h1,h2,h3,h4,h5⟩:=q
   exact⟨a,h1,h2,by rw[x.on a h5.mx];exact h3,h4,h5.mono x.gg λo q=>x.hh a o q⟩
  |bx=>exact q
  |br d=>obtain⟨b1,a,h1,h4,hp,h5⟩:=q;exact⟨b1,a,h1,h4,hp,h5.mono x.gg λo q=>x.hh a o q⟩
def gQ (env:En)(i:Nat):En:=match env[i]? with
 |some (.ow d)=>env.set i (.fz d)
 |_=>env
def bp (L:List Nat)(env:En):En:=L.foldl gQ env
def b9 (L M:List Nat)(env:En):bp (L ++ M) env=bp M (bp L env):=by unfold bp;rw[List.foldl_append]
def yX (env:En)(i:Nat)(s:Sl)(h:∀t,env[i]? =some t->t.val=s.val):vl (env.set i s)=vl env:=by
 unfold vl
 apply QG
 intro j
 rw[NW,NW,List.getElem?_set]
 by_cases e:i=j
 ·subst e
  by_cases hi:i < env.length
  ·simp only[OP,hi]
   have:=h _ (NK hi)
   simp[NK hi,this]
  ·simp only[OP,hi,OC]
   rw[Pd (by omega)]
 ·simp[e]
def EH (env:En)(i:Nat):vl (gQ env i)=vl env:=by
 unfold gQ
 split
 ·rename_i d e
  exact yX _ _ _ λt ht=>by rw[e] at ht;cases ht;rfl
 ·rfl
theorem dQ (L:List Nat)(env:En):vl (bp L env)=vl env:=by
 unfold bp
 induction L generalizing env with
 |nil=>rfl
 |cons i L ih=>rw[Qx,ih,EH]
theorem Hs {i:Nat}{d:D}(h:(vl env)[i]? =some (.da d)):env[i]? =some (.fz d)\/env[i]? =some (.ow d)\/env[i]? =some (.br d):=by
 unfold vl at h
 rw[NW] at h
 cases e:env[i]? with
 |none=>rw[e] at h;simp at h
 |some s=>
  rw[e] at h
  cases s with
  |no=>simp[Sl.val] at h
  |fz d'=>simp[Sl.val] at h;subst h;exact .inl rfl
  |ow d'=>simp[Sl.val] at h;subst h;exact .inr (.inl rfl)
  |bx=>simp[Sl.val] at h
  |br d'=>simp[Sl.val] at h;subst h;exact .inr (.inr rfl)
theorem KG {i:Nat}(h:(vl env)[i]? =some .bx):env[i]? =some .bx:=by
 unfold vl at h
 rw[NW] at h
 cases e:env[i]? with
 |none=>rw[e] at h;simp at h
 |some s=>
  rw[e] at h
  cases s with
  |bx=>rfl
  |_=>simp[Sl.val] at h
def SR.freeze (I:SR Γ B G H σ env β)(i:Nat)(hb:Γ.br i=false){d:D}(h:(vl env)[i]? =some (.da d)):∃G' v,SR Γ B G' H σ (gQ env i) β/\aC G G'/\σ[i]? =some (some v)/\Rp Γ.K G' v d:=by
 rcases Hs h with e |e |e
 ·obtain⟨v,h1,h2⟩:=I.slot i _ e
  exact⟨G,v,by unfold gQ;rw[e];exact I,aC.refl _,h1,h2⟩
 rotate_left
 ·obtain⟨z,_⟩:=I.slot i _ e
  rw[hb] at z;cases z
 ·obtain⟨a,h1,h2,h3,h4,h5⟩:=I.slot i _ e
  obtain⟨o,ho⟩:=h5.obj
  have sG:aC G (upd G a o):=aC.new h3
  have hi:i < env.length:=(N0.mp e).1
  have hr:Rp Γ.K (upd G a o) (.ref a) d:=h5.rp h3 sG λo' q=>by rw[ho] at q;cases q;exact aI
  refine⟨upd G a o,.ref a,?_,sG,h1,hr⟩
  unfold gQ
  rw[e]
  refine⟨λb u q=>?_,I.old.trans sG,λb n1 n2=>?_,I.keep,I.pin,I.fix,λb q=>?_,by rw[OW];exact I.len,λj s q=>?_,λj k c d1 d2 q1 q2 q3 q4=>?_⟩
  ·by_cases z:b=a
   ·subst z;rw[aI] at q;cases q;exact ho
   ·rw[aH z] at q;exact I.sub b u q
  ·rw[aH (λz=>n1.1 (by rw[z];exact h2))];exact I.new b n1 n2
  ·obtain⟨k1,k2,k3⟩:=I.box b q
   exact⟨k1,by rw[aH (λz=>h4 (by rw[<-z];exact q))];exact k2,k3⟩
  ·by_cases z:j=i
   ·subst z
    rw[Oc hi] at q
    cases q
    exact⟨.ref a,h1,hr⟩
   ·rw[N8 (Ne.symm z)] at q
    have w:=I.slot j s q
    cases s with
    |no=>trivial
    |fz d'=>obtain⟨v,w1,w2⟩:=w;exact⟨v,w1,w2.mono sG⟩
    |ow d'=>
     obtain⟨c,w1,w2,w3,w4,w5⟩:=w
     have ca:c≠a:=λz2=>z (I.sep j i c d' d q e w1 (by rw[z2];exact h1))
     exact⟨c,w1,w2,by rw[aH ca];exact w3,w4,w5.mono sG λo q=>q⟩
    |bx=>exact w
    |br d'=>obtain⟨b1,c,w1,w4,wp,w5⟩:=w;exact⟨b1,c,w1,w4,wp,w5.mono sG λo q=>q⟩
  ·have ne:∀{j:Nat} {d':D},(env.set i (Sl.fz d))[j]? =some (.ow d')->env[j]? =some (.ow d'):=λ{j d'} q=>by
    by_cases z:j=i
    ·subst z;rw[Oc hi] at q;cases q
    ·rw[N8 (Ne.symm z)] at q;exact q
   exact I.sep j k c d1 d2 (ne q1) (ne q2) q3 q4
theorem SR.bp (I:SR Γ B G H σ env β)(L:List Nat)(hb:∀i,i∈L->Γ.br i=false):∃G',SR Γ B G' H σ (bp L env) β/\aC G G':=by
 induction L generalizing env G with
 |nil=>exact⟨G,I,aC.refl _⟩
 |cons i L ih=>
  show ∃G',SR Γ B G' H σ (L2.bp L (gQ env i)) β/\aC G G'
  have key:∃G1,SR Γ B G1 H σ (gQ env i) β/\aC G G1:=by
   cases e:env[i]? with
   |none=>exact⟨G,by unfold gQ;rw[e];exact I,aC.refl _⟩
   |some s=>
    cases s with
    |ow d=>
     obtain⟨G1,v,h1,h2,_⟩:=I.freeze i (hb i (NR ..)) (d:=d) (by unfold vl;rw[NW,e];rfl)
     exact⟨G1,h1,h2⟩
    |_=>exact⟨G,by unfold gQ;rw[e];exact I,aC.refl _⟩
  obtain⟨G1,I1,s1⟩:=key
  obtain⟨G2,I2,s2⟩:=ih I1 λj hj=>hb j (NP _ hj)
  exact⟨G2,I2,s1.trans s2⟩
def SR.set (I:SR Γ B G H σ env β){i:Nat}(hi:i < env.length){v:V}{d:D}(h:Rp Γ.K G v d):SR Γ B G H (σ.set i (some v)) (env.set i (.fz d)) β:=by
 have hs:i < σ.length:=by rw[I.len];exact hi
 refine⟨I.sub,I.old,I.new,I.keep,I.pin,I.fix,I.box,by rw[OW,OW];exact I.len,λj s q=>?_,λj k c d1 d2 q1 q2 q3 q4=>?_⟩
 ·by_cases z:j=i
  ·subst z
   rw[Oc hi] at q
   cases q
   exact⟨v,by rw[Oc hs],h⟩
  ·rw[N8 (Ne.symm z)] at q ⊢
   exact I.slot j s q
 ·have ne:∀{j:Nat} {d':D},(env.set i (Sl.fz d))[j]? =some (.ow d')->j≠i/\env[j]? =some (.ow d'):=λ{j d'} q=>by
   by_cases z:j=i
   ·subst z;rw[Oc hi] at q;cases q
   ·rw[N8 (Ne.symm z)] at q;exact⟨z,q⟩
  obtain⟨n1,e1⟩:=ne q1
  obtain⟨n2,e2⟩:=ne q2
  rw[N8 (Ne.symm n1)] at q3
  rw[N8 (Ne.symm n2)] at q4
  exact I.sep j k c d1 d2 e1 e2 q3 q4
def SR.setOw (I:SR Γ B G H σ env β){i:Nat}(hi:i < env.length){a:Addr}{d:D}(h0:Γ.H0 a=none)(hg:G a=none)(hb:B≠some a)(h:Own Γ.K G H a d)(hn:∀(j:Nat) (d':D),env[j]? =some (.ow d')->j≠i->σ[j]?≠some (some (.ref a))):SR Γ B G H (σ.set i (some (.ref a))) (env.set i (.ow d)) β:=by
 have hs:i < σ.length:=by rw[I.len];exact hi
 refine⟨I.sub,I.old,I.new,I.keep,I.pin,I.fix,I.box,by rw[OW,OW];exact I.len,λj s q=>?_,λj k c d1 d2 q1 q2 q3 q4=>?_⟩
 ·by_cases z:j=i
  ·subst z
   rw[Oc hi] at q
   cases q
   exact⟨a,by rw[Oc hs],h0,hg,hb,h⟩
  ·rw[N8 (Ne.symm z)] at q ⊢
   exact I.slot j s q
 ·by_cases z1:j=i
  ·by_cases z2:k=i
   ·rw[z1,z2]
   ·subst z1
    rw[N8 (Ne.symm z2)] at q2 q4
    rw[Oc hs] at q3
    cases q3
    exact absurd q4 (hn k d2 q2 z2)
  ·by_cases z2:k=i
   ·subst z2
    rw[N8 (Ne.symm z1)] at q1 q3
    rw[Oc hs] at q4
    cases q4
    exact absurd q3 (hn j d1 q1 z1)
   ·rw[N8 (Ne.symm z1)] at q1 q3
    rw[N8 (Ne.symm z2)] at q2 q4
    exact I.sep j k c d1 d2 q1 q2 q3 q4
def SR.fresh (I:SR Γ B G H σ env β){a:Addr}(h:H a=none):Γ.H0 a=none/\G a=none/\B≠some a/\∀(j:Nat) (d:D),env[j]? =some (.ow d)->σ[j]?≠some (some (.ref a)):=by
 have hB:B≠some a:=λz=>by rw[(I.box a z).1] at h;cases h
 refine⟨?_,I.sub.free h,hB,λj d e z=>?_⟩
 ·cases e:Γ.H0 a with
  |none=>rfl
  |some o=>exact absurd h (I.there (by rw[e];simp))
 ·obtain⟨c,h1,_,_,_,h5⟩:=I.slot j _ e
  rw[z] at h1
  cases h1
  obtain⟨o,ho⟩:=h5.obj
  rw[h] at ho;cases ho
def SR.write (I:SR Γ B G H σ env β)(hb:∀j,Γ.br j=false){i:Nat}{a:Addr}{d d':D}{o:HO}(e:env[i]? =some (.ow d))(ea:σ[i]? =some (some (.ref a)))(h:∀H',H' a=some o->aC G H'->Own Γ.K G H' a d'):SR Γ B G (upd H a o) σ (env.set i (.ow d')) β:=by
 obtain⟨a',h1,h2,h3,h4,h5⟩:=I.slot i _ e
 rw[ea] at h1;cases h1
 have hi:i < env.length:=(N0.mp e).1
 have sub:aC G (upd H a o):=λb u q=>by rw[aH (λz=>by rw[z,h3] at q;cases q)];exact I.sub b u q
 refine⟨sub,I.old,I.new,λb u q n=>?_,λb q=>?_,I.fix,λb q=>?_,by rw[OW];exact I.len,λj s q=>?_,λj k c d1 d2 q1 q2 q3 q4=>?_⟩
 ·rw[aH (λz=>by rw[z,h2] at q;cases q)];exact I.keep b u q n
 ·by_cases z:b=a
  ·subst z;exact (h _ aI sub).mx
  ·exact (I.pin b q).same λo e=>by rw[aH z];exact e
 ·obtain⟨k1,k2,k3⟩:=I.box b q
  exact⟨by rw[aH (λz=>h4 (by rw[<-z];exact q))];exact k1,k2,k3⟩
 ·by_cases z:j=i
  ·subst z
   rw[Oc hi] at q
   cases q
   exact⟨a,ea,h2,h3,h4,h _ aI sub⟩
  ·rw[N8 (Ne.symm z)] at q
   have w:=I.slot j s q
   cases s with
   |no=>trivial
   |fz d1=>exact w
   |ow d1=>
    obtain⟨c,w1,w2,w3,w4,w5⟩:=w
    have ca:c≠a:=λz2=>z (I.sep j i c d1 d q e w1 (by rw[z2];exact ea))
    exact⟨c,w1,w2,w3,w4,w5.mono (aC.refl _) λo q=>by rw[aH ca];exact q⟩
   |bx=>exact w
   |br d1=>obtain⟨b1,_⟩:=w;rw[hb j] at b1;cases b1
 ·have back:∀{j:Nat} {d1:D},(env.set i (Sl.ow d'))[j]? =some (.ow d1)->∃d2,env[j]? =some (.ow d2):=λ{j d1} q=>by
   by_cases z:j=i
   ·subst z;exact⟨d,e⟩
   ·rw[N8 (Ne.symm z)] at q;exact⟨d1,q⟩
  obtain⟨_,b1⟩:=back q1
  obtain⟨_,b2⟩:=back q2
  exact I.sep j k c _ _ b1 b2 q3 q4
end
inductive R (α:Type) where
 |ok (a:α) (β:Int)
 |exc (c:Str)
 |bad
def R.bnd {α γ:Type}(r:R α)(k:α->Int->R γ):R γ:=match r with
 | .ok a β=>k a β
 | .exc c=>.exc c
 | .bad=>.bad
def R.of {α:Type}(o:Option α)(β:Int):R α:=match o with
 |some a=>.ok a β
 |none=>.bad
abbrev VF (α:Type):=List Nv->Int->R α
def Kp (Γ:Fx)(H':Hp):Prop:=∀b o,Γ.H0 b=some o->b∉Γ.par->H' b=some o
def Out {α:Type}(Γ:Fx)(E:XK)(r:R α)(P:α->Int->Prop):Prop:=match r with
 | .ok a β=>P a β
 | .exc c=>∀H',Kp Γ H'->E (.ref (Γ.ca c)) none H'
 | .bad=>False
section
variable {α γ:Type}{Γ:Fx}{E:XK}
theorem Out.bnd {r:R α}{k:α->Int->R γ}{P:γ->Int->Prop}(h:Out Γ E (r.bnd k) P):Out Γ E r λa β=>Out Γ E (k a β) P:=by
 cases r with
 |ok a β=>exact h
 |exc c=>exact h
 |bad=>exact h
theorem Out.imp {r:R α}{P P':α->Int->Prop}(h:Out Γ E r P)(i:∀a β,P a β->P' a β):Out Γ E r P':=by
 cases r with
 |ok a β=>exact i a β h
 |exc c=>exact h
 |bad=>exact h
theorem Out.of {o:Option α}{β:Int}{P:α->Int->Prop}(h:Out Γ E (R.of o β) P):∃a,o=some a/\P a β:=by
 cases o with
 |none=>exact h.elim
 |some a=>exact⟨a,rfl,h⟩
end
inductive Md where
 |b |v |w
def VO (K:Frag)(B:Option Addr)(H G' H':Hp):Md->D->V->Prop
 | .b,d,v=>mK K B G' H' v d
 | .v,d,v=>Rp K G' v d
 | .w,d,v=>∃a,v=.ref a/\H a=none/\G' a=none/\Own K G' H' a d
def pT (Γ:Fx)(E:XK)(f:VF D)(L:List Nat)(md:Md):TE:=λσ H Q=>∃env G B β,SR Γ B G H σ env β/\
 Out Γ E (f (vl env) β) λd β'=>∀v G' H',SR Γ B G' H' σ (bp L env) β'->aC G G'->iY B H H'->VO Γ.K B H G' H' md d v->Q v H'
def SE (X:Cx)(Γ:Fx)(E:XK)(e:Expr)(f:VF D)(L:List Nat)(md:Md):Prop:=PE X e (pT Γ E f L md)
def qT (Γ:Fx)(E:XK)(f:VF Bool)(L:List Nat):TT:=λσ H Q=>∃env G B β,SR Γ B G H σ env β/\
 Out Γ E (f (vl env) β) λc β'=>∀G' H',SR Γ B G' H' σ (bp L env) β'->aC G G'->iY B H H'->Q c H'
def Bb (X:Cx)(Γ:Fx)(E:XK)(e:Expr)(f:VF Bool)(L:List Nat):Prop:=PT X e (qT Γ E f L)
def rE (X:Cx)(Γ:Fx)(E:XK)(e:Expr)(f:VF Bool)(L:List Nat):Prop:=PW X e (qT Γ E f L)
def aT (Γ:Fx)(E:XK)(f:VF (List D))(L:List Nat):TA:=λσ H Q=>∃env G B β,SR Γ B G H σ env β/\
 Out Γ E (f (vl env) β) λds β'=>∀vs G' H',SR Γ B G' H' σ (bp L env) β'->aC G G'->iY B H H'->cF Γ.K G' vs ds->Q vs H'
def SA (X:Cx)(Γ:Fx)(E:XK)(es:List Expr)(f:VF (List D))(L:List Nat):Prop:=PA X es (aT Γ E f L)
def PE.post' {X:Cx}{e:Expr}{t u:TE}(h:PE X e t)(m:∀σ H Q,u σ H Q->t σ H Q):PE X e u:=λpins s σ H Q I q=>h pins s σ H Q I (m σ H Q q)
def PT.post {X:Cx}{e:Expr}{t u:TT}(h:PT X e t)(m:∀σ H Q,u σ H Q->t σ H Q):PT X e u:=λpins s σ H Q I q=>h pins s σ H Q I (m σ H Q q)
def PW.post {X:Cx}{e:Expr}{t u:TT}(h:PW X e t)(m:∀σ H Q,u σ H Q->t σ H Q):PW X e u:=λwh pins s σ H Q I q=>h wh pins s σ H Q I (m σ H Q q)
def PA.post {X:Cx}{es:List Expr}{t u:TA}(h:PA X es t)(m:∀σ H Q,u σ H Q->t σ H Q):PA X es u:=λpos pins s σ H Q I q=>h pos pins s σ H Q I (m σ H Q q)
def PS.post {X:Cx}{st:Stmt}{t u:TS}(h:PS X st t)(m:∀D σ H,u D σ H->t D σ H):PS X st u:=λpins s σ H D I q=>h pins s σ H D I (m D σ H q)
def dat:Option Nv->Option D
 |some (.da d)=>some d
 |_=>none
def gv (i:Nat):VF D:=λvs β=>R.of (dat vs[i]?) β
def cst (d:D):VF D:=λ_ β=>.ok d β
section
variable {X:Cx}{Γ:Fx}{E:XK}{e a b c:Expr}{f fa fb fc:VF D}{L La Lb Lc:List Nat}{md ma mb mc:Md}{pos:Pos}
theorem join_some {o:Option Nv}{d:D}(h:dat o=some d):o=some (.da d):=by
 cases o with
 |none=>cases h
 |some o=>cases o with
  |da x=>cases h;rfl
  |_=>cases h
def SR.letIn {B:Option Addr}{G H:Hp}{σ:St}{env:En}{β:Int}(I:SR Γ B G H σ env β){p:Addr}{d:D}(h0:Γ.H0 p=none)(hg:G p=none)(hb:B≠some p)(hn:∀(j:Nat) (d':D),env[j]? =some (.ow d')->σ[j]?≠some (some (.ref p)))(h:Own Γ.K G H p d) :
  ∃G',SR Γ B G' H σ env β/\aC G G'/\Rp Γ.K G' (.ref p) d:=by
 obtain⟨o,ho⟩:=h.obj
 have sG:aC G (upd G p o):=aC.new hg
 refine⟨upd G p o,⟨λb u q=>?_,I.old.trans sG,λb n1 n2=>?_,I.keep,I.pin,I.fix,λb q=>?_,I.len,λj s q=>?_,I.sep⟩,sG,h.rp hg sG λo' q=>by rw[ho] at q;cases q;exact aI⟩
 ·by_cases z:b=p
  ·subst z;rw[aI] at q;cases q;exact ho
  ·rw[aH z] at q;exact I.sub b u q
 ·rw[aH (λz=>n1.1 (by rw[z];exact h0))];exact I.new b n1 n2
 ·obtain⟨k1,k2,k3⟩:=I.box b q
  exact⟨k1,by rw[aH (λz=>hb (by rw[<-z];exact q))];exact k2,k3⟩
 ·have w:=I.slot j s q
  cases s with
  |no=>trivial
  |fz d'=>obtain⟨v,w1,w2⟩:=w;exact⟨v,w1,w2.mono sG⟩
  |ow d'=>
   obtain⟨c,w1,w2,w3,w4,w5⟩:=w
   have ca:c≠p:=λz2=>hn j d' q (by rw[<-z2];exact w1)
   exact⟨c,w1,w2,by rw[aH ca];exact w3,w4,w5.mono sG λo q=>q⟩
  |bx=>exact w
  |br d'=>obtain⟨b1,c,w1,w4,wp,w5⟩:=w;exact⟨b1,c,w1,w4,wp,w5.mono sG λo q=>q⟩
def tS {env:En}{i j:Nat}{d:D}(h:(gQ env i)[j]? =some (.ow d)):env[j]? =some (.ow d):=by
 unfold gQ at h
 split at h
 ·rename_i d' e
  by_cases z:i=j
  ·subst z
   rw[Oc (N0.mp e).1] at h;cases h
  ·rw[N8 z] at h;exact h
 ·exact h
theorem qm {L:List Nat}{env:En}{j:Nat}{d:D}(h:(bp L env)[j]? =some (.ow d)):env[j]? =some (.ow d):=by
 unfold bp at h
 induction L generalizing env with
 |nil=>exact h
 |cons i L ih=>exact tS (ih h)
def SR.letW {B:Option Addr}{G H G' H':Hp}{σ:St}{env:En}{β β':Int}{L:List Nat}{d:D}{v:V}(I:SR Γ B G H σ env β)(I':SR Γ B G' H' σ (L2.bp L env) β')(h:VO Γ.K B H G' H' .w d v):∃G2,SR Γ B G2 H' σ (L2.bp L env) β'/\aC G' G2/\Rp Γ.K G2 v d:=by
 obtain⟨p,rfl,h1,h2,h3⟩:=h
 obtain⟨q1,q2,q3,q4⟩:=I.fresh h1
 exact I'.letIn q1 h2 q3 (λj d' e=>q4 j d' (qm e)) h3
def SE.wv (h:SE X Γ E e f L .w):SE X Γ E e f L .v:=by
 refine PE.post' h λσ H Q ⟨env,G,B,β,I,o⟩=>⟨env,G,B,β,I,o.imp λd β' k v G' H' I' s m vo=>?_⟩
 obtain⟨G2,I2,s2,r⟩:=I.letW I' vo
 exact k v G2 H' I2 (s.trans s2) m r
theorem VO.brw {B:Option Addr}{H G' H':Hp}{d:D}{v:V}{K:Frag}(h:VO K B H G' H' md d v)(hB:∀x,B=some x->H x≠none):mK K B G' H' v d:=by
 cases md with
 |b=>exact h
 |v=>exact .inl h
 |w=>
  obtain⟨p,rfl,h1,h2,h3⟩:=h
  exact .inr ⟨p,rfl,λz=>hB p z h1,h3⟩
def SR.boxThere {B:Option Addr}{G H:Hp}{σ:St}{env:En}{β:Int}(I:SR Γ B G H σ env β):∀x,B=some x->H x≠none:=λx e=>by rw[(I.box x e).1];simp
def af (i:Nat){x:Str}(hN:X.N[i]? =some x:=by rfl)(hv:AF X.env.scope x:=by first |exact Or.inl rfl |exact Or.inr (Or.inl rfl) |exact Or.inr (Or.inr rfl))(hd:(x == ("__debug__":Str))=false:=by decide)
  (hcd:(x == ("__classdict__":Str))=false:=by decide):SE X Γ E (.Name x pos) (gv i) [] .b:=by
 refine PE.post' (jC hN hv hd hcd) λσ H Q ⟨env,G,B,β,I,o⟩=>?_
 obtain⟨d,e,k⟩:=o.of
 have e:=join_some e
 rcases Hs e with q |q |q
 ·obtain⟨v,h1,h2⟩:=I.slot i _ q
  exact⟨v,h1,k v G H I (aC.refl _) (iY.refl _ _) (.inl h2)⟩
 ·obtain⟨p,h1,h2,h3,h4,h5⟩:=I.slot i _ q
  exact⟨.ref p,h1,k _ G H I (aC.refl _) (iY.refl _ _) (.inr ⟨p,rfl,h4,h5⟩)⟩
 ·obtain⟨_,p,h1,h4,_,h5⟩:=I.slot i _ q
  exact⟨.ref p,h1,k _ G H I (aC.refl _) (iY.refl _ _) (.inr ⟨p,rfl,h4,h5⟩)⟩
def aq (i:Nat)(hb:Γ.br i=false){x:Str}(hN:X.N[i]? =some x:=by rfl)(hv:AF X.env.scope x:=by first |exact Or.inl rfl |exact Or.inr (Or.inl rfl) |exact Or.inr (Or.inr rfl))(hd:(x == ("__debug__":Str))=false:=by decide)
  (hcd:(x == ("__classdict__":Str))=false:=by decide):SE X Γ E (.Name x pos) (gv i) [i] .v:=by
 refine PE.post' (jC hN hv hd hcd) λσ H Q ⟨env,G,B,β,I,o⟩=>?_
 obtain⟨d,e,k⟩:=o.of
 obtain⟨G',v,I',s,h1,h2⟩:=I.freeze i hb (join_some e)
 exact⟨v,h1,k v G' H I' s (iY.refl _ _) h2⟩
def Gr {v:V}{d:D}(h:PE X e (tC v))(r:∀G,Rp Γ.K G v d):SE X Γ E e (cst d) [] .v:=by
 refine PE.post' h λσ H Q ⟨env,G,B,β,I,o⟩=>?_
 exact o v G H I (aC.refl _) (iY.refl _ _) (r G)
def av {i:Int}{j}:SE X Γ E (.Constant (.int i) j pos) (cst (.int i)) [] .v:=Gr x6 λ_=>.int i
def jo {i:Bool}{j}:SE X Γ E (.Constant (.bool i) j pos) (cst (.bool i)) [] .v:=Gr zK λ_=>.bl i
def iI {x:Str}{j}:SE X Γ E (.Constant (.str x) j pos) (cst (.str x)) [] .v:=Gr IL λ_=>.str x
def Gw {x:Str}{i:Int}{t:Tok}(hg:Gl X x)(hm:X.mg x=some (.int i t))(hd:(x == ("__debug__":Str))=false:=by decide):SE X Γ E (.Name x pos) (cst (.int i)) [] .v:=Gr (Gh hg hm (show RelV (.int i) _ from⟨_,rfl⟩) hd) λ_=>.int i
def two {W:V->V->Hp->Prop}{B:Option Addr}{G H:Hp}{σ:St}{env:En}{β:Int}(I:SR Γ B G H σ env β)
  (h:Out Γ E (fa (vl env) β) λd1 β1=>Out Γ E (fb (vl env) β1) λd2 β2=>∀x y G2 H2,SR Γ B G2 H2 σ (bp (La ++ Lb) env) β2->aC G G2->iY B H H2->mK Γ.K B G2 H2 x d1->mK Γ.K B G2 H2 y d2->W x y H2) :
  pT Γ E fa La ma σ H λx H1=>pT Γ E fb Lb mb σ H1 λy H2=>W x y H2:=by
 refine⟨env,G,B,β,I,h.imp λd1 β1 h x G1 H1 I1 s1 m1 vx=>⟨bp La env,G1,B,β1,I1,?_⟩⟩
 rw[dQ]
 refine h.imp λd2 β2 k y G2 H2 I2 s2 m2 vy=>?_
 refine k x y G2 H2 (by rw[b9];exact I2) (s1.trans s2) (m1.trans m2) ((vx.brw I.boxThere).mono s2 m2) (vy.brw I1.boxThere)
def nP (K:Frag)(r:R2)(g:D->D->Option D)(md:Md):Prop:=∀(B:Option Addr) (G H:Hp) (x y:V) (dx dy d:D) (Q:VK),aC G H->(∀x,B=some x->H x≠none)->mK K B G H x dx->mK K B G H y dy->g dx dy=some d->
 (∀v G' H',Ext G H G' H'->VO K B H G' H' md d v->Q v H')->r x y H Q
def f2 (fa fb:VF D)(g:D->D->Option D):VF D:=λvs β=>(fa vs β).bnd λx β1=>(fb vs β1).bnd λy β2=>R.of (g x y) β2
theorem fS {B:Option Addr}{H H2:Hp}(m:iY B H H2)(hB:∀x,B=some x->H2 x≠none){p:Addr}(h:H2 p=none):H p=none:=by
 cases e:H p with
 |none=>rfl
 |some o=>rw[m p o e λz=>hB p z h] at h;cases h
theorem VO.back {K:Frag}{B:Option Addr}{H H2 G' H':Hp}{d:D}{v:V}(h:VO K B H2 G' H' md d v)(m:iY B H H2)(hB:∀x,B=some x->H2 x≠none):VO K B H G' H' md d v:=by
 cases md with
 |b=>exact h
 |v=>exact h
 |w=>obtain⟨p,e,h1,h2,h3⟩:=h;exact⟨p,e,fS m hB h1,h2,h3⟩
def nM {r:R2}{g:D->D->Option D}{Q:VK}(pr:nP Γ.K r g md){B:Option Addr}{G H:Hp}{σ:St}{env:En}{β:Int}(I:SR Γ B G H σ env β)
  (h:Out Γ E (f2 fa fb g (vl env) β) λd β'=>∀v G' H',SR Γ B G' H' σ (bp (La ++ Lb) env) β'->aC G G'->iY B H H'->VO Γ.K B H G' H' md d v->Q v H') :
  pT Γ E fa La ma σ H λx H1=>pT Γ E fb Lb mb σ H1 λy H2=>r x y H2 Q:=by
 refine two I (h.bnd.imp λd1 β1 h=>h.bnd.imp λd2 β2 h x y G2 H2 I2 s2 m2 bx by'=>?_)
 obtain⟨d,e,k⟩:=h.of
 refine pr B G2 H2 x y d1 d2 d Q I2.sub I2.boxThere bx by' e λv G' H' x' vo=>?_
 exact k v G' H' (I2.ext x') (s2.trans x'.gg) (m2.trans (x'.hh.mov B)) (vo.back m2 I2.boxThere)
def bI {op:Operator}{r:R2}{g:D->D->Option D}(ho:mD X (binaryOp op) r)(pr:nP Γ.K r g md)(ha:SE X Γ E a fa La ma)(hb:SE X Γ E b fb Lb mb):SE X Γ E (.BinOp a op b pos) (f2 fa fb g) (La ++ Lb) md:=
 PE.post' (sP ho ha hb) λσ H Q ⟨env,G,B,β,I,o⟩=>nM pr I o
def dB {op:CmpOp}{r:R2}{g:D->D->Option D}(ho:mD X (compareOp op) r)(pr:nP Γ.K r g md)(ha:SE X Γ E a fa La ma)(hb:SE X Γ E b fb Lb mb)(hm:behindInMarks op b=false):SE X Γ E (.Compare a [op] [b] pos) (f2 fa fb g) (La ++ Lb) md:=
 PE.post' (EA ho ha hb hm) λσ H Q ⟨env,G,B,β,I,o⟩=>nM pr I o
def aR {r:R2}{g:D->D->Option D}(hr:CQ X r)(pr:nP Γ.K r g md)(ha:SE X Γ E a fa La ma)(hb:SE X Γ E b fb Lb mb)(hs:zf b):SE X Γ E (.Subscript a b pos) (f2 fa fb g) (La ++ Lb) md:=
 PE.post' (mr hr ha hb hs) λσ H Q ⟨env,G,B,β,I,o⟩=>nM pr I o
def BS (K:Frag)(r:V->Hp->VK->Prop)(g:D->Option D)(md:Md):Prop:=∀(B:Option Addr) (G H:Hp) (x:V) (dx d:D) (Q:VK),aC G H->(∀x,B=some x->H x≠none)->mK K B G H x dx->g dx=some d->
 (∀v G' H',Ext G H G' H'->VO K B H G' H' md d v->Q v H')->r x H Q
def f1 (fa:VF D)(g:D->Option D):VF D:=λvs β=>(fa vs β).bnd λx β1=>R.of (g x) β1
def i5 {r:V->Hp->VK->Prop}{g:D->Option D}{Q:VK}(pr:BS Γ.K r g md){B:Option Addr}{G H:Hp}{σ:St}{env:En}{β:Int}(I:SR Γ B G H σ env β)
  (h:Out Γ E (f1 fa g (vl env) β) λd β'=>∀v G' H',SR Γ B G' H' σ (bp La env) β'->aC G G'->iY B H H'->VO Γ.K B H G' H' md d v->Q v H') :
  pT Γ E fa La ma σ H λx H1=>r x H1 Q:=by
 refine⟨env,G,B,β,I,h.bnd.imp λd1 β1 h x G1 H1 I1 s1 m1 vx=>?_⟩
 obtain⟨d,e,k⟩:=h.of
 refine pr B G1 H1 x d1 d Q I1.sub I1.boxThere (vx.brw I.boxThere) e λv G' H' x' vo=>?_
 exact k v G' H' (I1.ext x') (s1.trans x'.gg) (m1.trans (x'.hh.mov B)) (vo.back m1 I1.boxThere)
def sx {op:UnaryOp}{r:V->Hp->VK->Prop}{g:D->Option D}(ho:LM X (unaryOp op) r)(pr:BS Γ.K r g md)(ha:SE X Γ E a fa La ma):SE X Γ E (.UnaryOp op a pos) (f1 fa g) La md:=
 PE.post' (Kt ho ha) λσ H Q ⟨env,G,B,β,I,o⟩=>i5 pr I o
def bq {id:String}{r:List V->Hp->VK->Prop}{g:D->Option D}{x:Str}{p:Pos}(hc:dm X (.builtin id) r)(pr:BS Γ.K (λx=>r [x]) g md)(hg:Gl X x)(hm:X.mg x=none)(hv:bootBuiltins x=some (.builtin id))(ha:SE X Γ E a fa La ma)(hn:x≠"__name__":=by decide)(hdb:(x == ("__debug__":Str))=false:=by decide)
  (he:starEach [a] X.env=(false,eval a X.env) :: starEach [] X.env:=by rfl):SE X Γ E (.Call (.Name x p) [a] [] pos) (f1 fa g) La md:=
 PE.post' (jI hc hg hm hv (aS ha bJ he) hn hdb he) λσ H Q ⟨env,G,B,β,I,o⟩=>i5 (r:=λx=>r [x]) pr I o
def iR {id:String}{r:List V->Hp->VK->Prop}{g:D->Option D}{x:Str}{p:Pos}(hc:dm X (.type id) r)(pr:BS Γ.K (λx=>r [x]) g md)(hg:Gl X x)(hm:X.mg x=none)(hv:bootBuiltins x=some (.type id))(ha:SE X Γ E a fa La ma)(hn:x≠"__name__":=by decide)(hdb:(x == ("__debug__":Str))=false:=by decide)
  (he:starEach [a] X.env=(false,eval a X.env) :: starEach [] X.env:=by rfl):SE X Γ E (.Call (.Name x p) [a] [] pos) (f1 fa g) La md:=
 PE.post' (iy hc hg hm hv (aS ha bJ he) hn hdb he) λσ H Q ⟨env,G,B,β,I,o⟩=>i5 (r:=λx=>r [x]) pr I o
def xj {id:String}{r:List V->Hp->VK->Prop}{g:D->D->Option D}{x:Str}{p:Pos}(hc:dm X (.builtin id) r)(pr:nP Γ.K (λx y=>r [x,y]) g md)(hg:Gl X x)(hm:X.mg x=none)(hv:bootBuiltins x=some (.builtin id))(ha:SE X Γ E a fa La ma)(hb:SE X Γ E b fb Lb mb)(hn:x≠"__name__":=by decide)(hdb:(x == ("__debug__":Str))=false:=by decide)
  (he:starEach [a,b] X.env=(false,eval a X.env) :: starEach [b] X.env:=by rfl) (he2:starEach [b] X.env=(false,eval b X.env) :: starEach [] X.env:=by rfl) (hpl:(backTo pos (starEach [b] X.env)).any (·.1)=false:=by rfl):SE X Γ E (.Call (.Name x p) [a,b] [] pos) (f2 fa fb g) (La ++ Lb) md:=
 PE.post' (jI hc hg hm hv (aS ha (aS hb bJ he2) he) hn hdb he hpl) λσ H Q ⟨env,G,B,β,I,o⟩=>nM (r:=λx y=>r [x,y]) pr I o
def eN (fa fb:VF D):VF D:=λvs β=>(fa vs β).bnd λx β1=>match x with
 | .bool true=>fb vs β1
 | .bool false=>.ok (.bool false) β1
 |_=>.bad
def JI (fa fb:VF D):VF D:=λvs β=>(fa vs β).bnd λx β1=>match x with
 | .bool false=>fb vs β1
 | .bool true=>.ok (.bool true) β1
 |_=>.bad
def gW {op}(h:SE X Γ E a fa La md):SE X Γ E (.BoolOp op [a] pos) fa La md:=IV h
theorem iS {rest:List Expr}(ha:SE X Γ E a fa La ma)(hb:SE X Γ E (.BoolOp .And (b :: rest) pos) fb Lb .v)(hbr:∀i,i∈Lb->Γ.br i=false):SE X Γ E (.BoolOp .And (a :: b :: rest) pos) (eN fa fb) (La ++ Lb) .v:=by
 refine PE.post' (Ia ha hb) λσ H Q ⟨env,G,B,β,I,o⟩=>?_
 refine⟨env,G,B,β,I,o.bnd.imp λd1 β1 h x G1 H1 I1 s1 m1 vx=>?_⟩
 have bx:=vx.brw I.boxThere
 cases d1 with
 |bool c=>
  obtain rfl:=bx.bool
  refine⟨c,rfl,?_⟩
  cases c with
  |true=>exact rV ⟨_,G1,B,β1,I1,by rw[dQ];exact h.imp λd β' k v G' H' I' s' m' vo=>k v G' H' (by rw[b9];exact I') (s1.trans s') (m1.trans m') vo⟩
  |false=>
   obtain⟨G2,I2,s2⟩:=I1.bp Lb hbr
   exact rX (h _ G2 H1 (by rw[b9];exact I2) (s1.trans s2) m1 (.bl false))
 |_=>exact h.elim
theorem GZ {rest:List Expr}(ha:SE X Γ E a fa La ma)(hb:SE X Γ E (.BoolOp .Or (b :: rest) pos) fb Lb .v)(hbr:∀i,i∈Lb->Γ.br i=false):SE X Γ E (.BoolOp .Or (a :: b :: rest) pos) (JI fa fb) (La ++ Lb) .v:=by
 refine PE.post' (Kv ha hb) λσ H Q ⟨env,G,B,β,I,o⟩=>?_
 refine⟨env,G,B,β,I,o.bnd.imp λd1 β1 h x G1 H1 I1 s1 m1 vx=>?_⟩
 have bx:=vx.brw I.boxThere
 cases d1 with
 |bool c=>
  obtain rfl:=bx.bool
  refine⟨c,rfl,?_⟩
  cases c with
  |true=>
   obtain⟨G2,I2,s2⟩:=I1.bp Lb hbr
   exact rV (h _ G2 H1 (by rw[b9];exact I2) (s1.trans s2) m1 (.bl true))
  |false=>exact rX ⟨_,G1,B,β1,I1,by rw[dQ];exact h.imp λd β' k v G' H' I' s' m' vo=>k v G' H' (by rw[b9];exact I') (s1.trans s') (m1.trans m') vo⟩
 |_=>exact h.elim
def C1:D->Option D
 | .bool c=>some (.bool (!c))
 |_=>none
theorem CY (ha:SE X Γ E a fa La ma):SE X Γ E (.UnaryOp .Not a pos) (f1 fa C1) La .v:=by
 refine PE.post' (Ik ha) λσ H Q ⟨env,G,B,β,I,o⟩=>?_
 refine i5 (r:=λx H1 Q=>∃c,x=.bl c/\Q (.bl (!c)) H1) ?_ I o
 intro B G H x dx d Q s hB bx e k
 cases dx with
 |bool c=>
  obtain rfl:=bx.bool
  cases e
  exact⟨c,rfl,k _ G H (Ext.refl s) (.bl _)⟩
 |_=>cases e
def HZ:D->Option Bool
 | .none=>some false
 | .bool b=>some b
 | .int i=>some (i != 0)
 | .str y=>if y.length<=sizeLine then some ((y.length:Int) != 0) else none
 | .list ds=>some (!ds.isEmpty)
 | .tuple ds=>some (!ds.isEmpty)
 | .dict _=>none
def j3 (fa:VF D):VF Bool:=λvs β=>(fa vs β).bnd λx β1=>R.of (HZ x) β1
def oP {K:Frag}{G:Hp}{xs:List V}{ds:List D}(r:cF K G xs ds):(!ds.isEmpty)= !xs.isEmpty:=by cases r <;> rfl
theorem cV (hK:X.K=Γ.K)(ha:SE X Γ E a fa La ma)(he:∀whole,isTrue a X.env whole=(do let v <-whole;standAt a.pos;holding [v] (truthy v)):=by intro _;rfl):Bb X Γ E a (j3 fa) La:=by
 refine PT.post (Dq ha he) λσ H Q ⟨env,G,B,β,I,o⟩=>?_
 refine⟨env,G,B,β,I,o.bnd.imp λd1 β1 h x G1 H1 I1 s1 m1 vx=>?_⟩
 obtain⟨c,e,k⟩:=h.of
 have bx:=vx.brw I.boxThere
 refine⟨c,?_,k G1 H1 I1 s1 m1⟩
 rw[hK]
 cases d1 with
 |none=>obtain rfl:=bx.none;cases e;rfl
 |bool b=>obtain rfl:=bx.bool;cases e;rfl
 |int i=>obtain rfl:=bx.int;cases e;rfl
 |str y=>
  obtain rfl:=bx.str
  simp only[HZ] at e
  split at e
  ·cases e;exact⟨by assumption,rfl⟩
  ·cases e
 |list ds=>obtain⟨p,xs,rfl,hq,r⟩:=bx.list I1.sub;cases e;exact .inl ⟨xs,.inl hq,oP r⟩
 |tuple ds=>obtain⟨p,xs,rfl,hq,r⟩:=bx.tuple I1.sub;cases e;exact .inr (.inl ⟨xs,hq,oP r⟩)
 |dict ds=>cases e
def cI (fa:VF D):VF Bool:=λvs β=>(fa vs β).bnd λx β1=>match x with
 | .bool c=>.ok c β1
 |_=>.bad
theorem bA {op:CmpOp}{r:R2}{g:D->D->Option D}(ho:mD X (compareOp op) r)(pr:nP Γ.K r g .v)(ha:SE X Γ E a fa La ma)(hb:SE X Γ E b fb Lb mb)(hm:behindInMarks op b=false):Bb X Γ E (.Compare a [op] [b] pos) (cI (f2 fa fb g)) (La ++ Lb):=by
 refine PT.post (FE ho ha hb hm) λσ H Q ⟨env,G,B,β,I,o⟩=>?_
 refine nM pr I (o.bnd.imp λd β' h v G' H' I' s' m' vo=>?_)
 cases d with
 |bool c=>cases vo;exact⟨c,rfl,h G' H' I' s' m'⟩
 |_=>exact h.elim
def rJ (t:VF Bool):VF Bool:=λvs β=>(t vs β).bnd λc β1=>.ok (!c) β1
def yd (t u:VF Bool):VF Bool:=λvs β=>(t vs β).bnd λc β1=>if c=true then u vs β1 else .ok false β1
def mi (t u:VF Bool):VF Bool:=λvs β=>(t vs β).bnd λc β1=>if c=true then .ok true β1 else u vs β1
variable {ta tb tc:VF Bool}
def fR (ha:Bb X Γ E a ta La):Bb X Γ E (.UnaryOp .Not a pos) (rJ ta) La:=by
 refine PT.post (HI ha) λσ H Q ⟨env,G,B,β,I,o⟩=>?_
 exact⟨env,G,B,β,I,o.bnd.imp λc β1 h=>h⟩
def rE.t (h:rE X Γ E e ta La):Bb X Γ E e ta La:=PW.pt h
def pE (ha:Bb X Γ E a ta La):rE X Γ E (.BoolOp .And [a] pos) ta La:=ze ha
def kC (ha:Bb X Γ E a ta La):rE X Γ E (.BoolOp .Or [a] pos) ta La:=Jl ha
theorem uz {rest:List Expr}(ha:Bb X Γ E a ta La)(hb:rE X Γ E (.BoolOp .And (b :: rest) pos) tb Lb)(hbr:∀i,i∈Lb->Γ.br i=false):rE X Γ E (.BoolOp .And (a :: b :: rest) pos) (yd ta tb) (La ++ Lb):=by
 refine PW.post (Eh ha hb) λσ H Q ⟨env,G,B,β,I,o⟩=>?_
 refine⟨env,G,B,β,I,o.bnd.imp λc β1 h G1 H1 I1 s1 m1=>?_⟩
 cases c with
 |true=>exact rV ⟨_,G1,B,β1,I1,by rw[dQ];exact Out.imp h λd β' k G' H' I' s' m'=>k G' H' (by rw[b9];exact I') (s1.trans s') (m1.trans m')⟩
 |false=>
  obtain⟨G2,I2,s2⟩:=I1.bp Lb hbr
  exact rX (h G2 H1 (by rw[b9];exact I2) (s1.trans s2) m1)
theorem nY {rest:List Expr}(ha:Bb X Γ E a ta La)(hb:rE X Γ E (.BoolOp .Or (b :: rest) pos) tb Lb)(hbr:∀i,i∈Lb->Γ.br i=false):rE X Γ E (.BoolOp .Or (a :: b :: rest) pos) (mi ta tb) (La ++ Lb):=by
 refine PW.post (KQ ha hb) λσ H Q ⟨env,G,B,β,I,o⟩=>?_
 refine⟨env,G,B,β,I,o.bnd.imp λc β1 h G1 H1 I1 s1 m1=>?_⟩
 cases c with
 |true=>
  obtain⟨G2,I2,s2⟩:=I1.bp Lb hbr
  exact rV (h G2 H1 (by rw[b9];exact I2) (s1.trans s2) m1)
 |false=>exact rX ⟨_,G1,B,β1,I1,by rw[dQ];exact Out.imp h λd β' k G' H' I' s' m'=>k G' H' (by rw[b9];exact I') (s1.trans s') (m1.trans m')⟩
def LH (t:VF Bool)(fa fb:VF D):VF D:=λvs β=>(t vs β).bnd λc β1=>if c=true then fa vs β1 else fb vs β1
theorem Lm (hc:Bb X Γ E c tc Lc)(ha:SE X Γ E a fa La md)(hb:SE X Γ E b fb Lb md)(hbr:∀i,i∈La ++ Lb->Γ.br i=false):SE X Γ E (.IfExp c a b pos) (LH tc fa fb) (Lc ++ (La ++ Lb)) md:=by
 refine PE.post' (Dv hc ha hb) λσ H Q ⟨env,G,B,β,I,o⟩=>?_
 refine⟨env,G,B,β,I,o.bnd.imp λc β1 h G1 H1 I1 s1 m1=>?_⟩
 obtain⟨G2,I2,s2⟩:=I1.bp (La ++ Lb) hbr
 have idem:∀M:List Nat,(∀i,i∈M->i∈La ++ Lb)->bp M (bp (La ++ Lb) (bp Lc env))=bp (La ++ Lb) (bp Lc env):=by
  have key:∀(M:List Nat) (en:En) (k:Nat),k∈M->∀d',(bp M en)[k]?≠some (.ow d'):=by
   intro M
   induction M with
   |nil=>intro en k hm;cases hm
   |cons i M ih=>
    intro en k hm d' z
    rcases NO.mp hm with y |y
    ·subst y
     have z1:(gQ en k)[k]? =some (.ow d'):=qm (L:=M) z
     have z2:=tS z1
     unfold gQ at z1
     rw[z2] at z1
     dsimp only at z1
     rw[Oc (N0.mp z2).1] at z1;cases z1
    ·exact ih (gQ en i) k y d' z
  intro M
  induction M with
  |nil=>intro _;rfl
  |cons i M ih=>
   intro hM
   show bp M (gQ _ i)=_
   have:gQ (bp (La ++ Lb) (bp Lc env)) i=bp (La ++ Lb) (bp Lc env):=by
    have hn:=key (La ++ Lb) (bp Lc env) i (hM i (NR ..))
    generalize bp (La ++ Lb) (bp Lc env)=en at hn ⊢
    unfold gQ
    split
    ·rename_i d e;exact absurd e (hn d)
    ·rfl
   rw[this]
   exact ih λj hj=>hM j (NP _ hj)
 have go:∀{f:VF D} {M:List Nat},(∀i,i∈M->i∈La ++ Lb)->Out Γ E (f (vl env) β1) (λd β'=>∀v G' H',SR Γ B G' H' σ (bp (Lc ++ (La ++ Lb)) env) β'->aC G G'->iY B H H'->VO Γ.K B H G' H' md d v->Q v H')->pT Γ E f M md σ H1 Q:=λ{f M} hM h=>by
  refine⟨_,G2,B,β1,I2,?_⟩
  rw[dQ,dQ]
  refine h.imp λd β' k v G' H' I' s' m' vo=>?_
  rw[idem M hM,<-b9] at I'
  exact k v G' H' I' ((s1.trans s2).trans s') (m1.trans m') (vo.back m1 I1.boxThere)
 cases c with
 |true=>exact rV (go (λi hi=>OV _ hi) h)
 |false=>exact rX (go (λi hi=>Ow _ hi) h)
def ag:VF (List D):=λ_ β=>.ok [] β
def aa (fa:VF D)(fr:VF (List D)):VF (List D):=λvs β=>(fa vs β).bnd λx β1=>(fr vs β1).bnd λxs β2=>.ok (x :: xs) β2
variable {fr:VF (List D)}{es:List Expr}
def ah:SA X Γ E [] ag []:=PA.post bJ λσ H Q ⟨env,G,B,β,I,o⟩=>o [] G H I (aC.refl _) (iY.refl _ _) .nil
def ae (ha:SE X Γ E a fa La .v)(hr:SA X Γ E es fr Lb)(hs:starEach (a :: es) X.env=(false,eval a X.env) :: starEach es X.env:=by rfl):SA X Γ E (a :: es) (aa fa fr) (La ++ Lb):=by
 refine PA.post (aS ha hr hs) λσ H Q ⟨env,G,B,β,I,o⟩=>?_
 refine⟨env,G,B,β,I,o.bnd.imp λd1 β1 h x G1 H1 I1 s1 m1 vx=>⟨bp La env,G1,B,β1,I1,?_⟩⟩
 rw[dQ]
 refine h.bnd.imp λds β2 k xs G2 H2 I2 s2 m2 r=>?_
 exact k (x :: xs) G2 H2 (by rw[b9];exact I2) (s1.trans s2) (m1.trans m2) (.cons (vx.mono s2) r)
def cC (fr:VF (List D)):VF D:=λvs β=>(fr vs β).bnd λds β1=>if ds.length<=sizeLine then .ok (.tuple ds) β1 else .bad
def bD (fr:VF (List D)):VF D:=λvs β=>(fr vs β).bnd λds β1=>if ds.length<=sizeLine then .ok (.list ds) β1 else .bad
def fC {x1}(h:SA X Γ E es fr L):SE X Γ E (.Tuple es x1 pos) (cC fr) L .v:=by
 refine PE.post' (yS h) λσ H Q ⟨env,G,B,β,I,o⟩=>?_
 refine⟨env,G,B,β,I,o.bnd.imp λds β1 k xs G1 H1 I1 s1 m1 r=>?_⟩
 by_cases hz:ds.length<=sizeLine
 ·rw[NN hz] at k
  refine⟨by rw[r.len];exact hz,λp hp=>?_⟩
  have x:=Ext.new I1.sub (o:=.tup xs) hp
  exact k _ _ _ (I1.ext x) (s1.trans x.gg) (m1.trans (x.hh.mov B)) (.tup (.inl (.inl aI)) (r.mono x.gg))
 ·rw[NV hz] at k;exact k.elim
def bK (h:SA X Γ E es fr L):SE X Γ E (.List es pos) (bD fr) L .w:=by
 refine PE.post' (D8 h) λσ H Q ⟨env,G,B,β,I,o⟩=>?_
 refine⟨env,G,B,β,I,o.bnd.imp λds β1 k xs G1 H1 I1 s1 m1 r=>?_⟩
 by_cases hz:ds.length<=sizeLine
 ·rw[NN hz] at k
  refine⟨by rw[r.len];exact hz,λp hp=>?_⟩
  have x:=Ext.own I1.sub (o:=.lst xs) hp
  exact k _ _ _ (I1.ext x) s1 (m1.trans (x.hh.mov B)) ⟨p,rfl,fS m1 I1.boxThere hp,I1.sub.free hp,xs,aI,r⟩
 ·rw[NV hz] at k;exact k.elim
inductive FR where
 |ok (d:D) (fresh:Bool)
 |exc (c:Str)
 |bad
def FV (K:Frag)(H G' H':Hp)(fr:Bool)(d:D)(v:V):Prop:=if fr=true then ∃a,v=.ref a/\H a=none/\G' a=none/\Own K G' H' a d else Rp K G' v d
def Es (K:Frag)(ca:Str->Addr)(n:Nat)(F:List D->FR):Sp:=λvs H Q E=>∃G ds,aC G H/\ds.length=n/\cF K G vs ds/\match F ds with
 | .ok d fr=>∀v G' H',aC H H'->aC G G'->aC G' H'->(∀b,Mx H b->G b=none->G' b=none)->FV K H G' H' fr d v->Q v H'
 | .exc c=>∀H',aC H H'->E (.ref (ca c)) none H'
 | .bad=>False
structure bR (P:Program)(w:World)(K:Frag)(mg:Str->Option Value)(base:Heap)(ca:Str->Addr)(x:Str)(ps:List Str)(k:Nat)(F:List D->FR):Prop where
 ex:∃f fd,mg x=some (.ref f)/\PySem.W.keepIn K (.ref f)=true/\Binds K fd ps []/\gN P w K mg base (pw P w) k f fd ps (Es K ca ps.length F)
 len:∀ds,F ds≠.bad->ds.length=ps.length
def ao (F:List D->FR)(fr:VF (List D)):VF D:=λvs β=>(fr vs β).bnd λds β1=>match F ds with
 | .ok d _=>.ok d β1
 | .exc c=>.exc c
 | .bad=>.bad
def vD (F:List D->FR)(fr:VF (List D)):VF D:=λvs β=>(fr vs β).bnd λds β1=>match F ds with
 | .ok d true=>.ok d β1
 | .ok _ false=>.bad
 | .exc c=>.exc c
 | .bad=>.bad
def SR.called {B:Option Addr}{G1 H1 G2 H2:Hp}{σ:St}{env:En}{β:Int}(I1:SR Γ B G1 H1 σ env β)(h:aC H1 H2)(g:aC G1 G2)(s:aC G2 H2)(n:∀b,Mx H1 b->G1 b=none->G2 b=none):SR Γ B G2 H2 σ env β/\iY B H1 H2:=by
 refine⟨⟨s,I1.old.trans g,λb n1 n2=>?_,λb o e np=>h b o (I1.keep b o e np),λb hb=>?_,I1.fix,λb e=>?_,I1.len,λi t e=>?_,I1.sep⟩,h.mov B⟩
 ·exact n b (I1.thereM n1) (I1.new b n1 n2)
 ·exact (I1.pin b hb).same λo e=>h b o e
 ·obtain⟨h1,h2,h3⟩:=I1.box b e
  exact⟨h b _ h1,n b (Mx.lst h1) h2,h3⟩
 ·have q:=I1.slot i t e
  cases t with
  |no=>trivial
  |fz d=>obtain⟨v,h1,h2⟩:=q;exact⟨v,h1,h2.mono g⟩
  |ow d=>
   obtain⟨p,h1,h2,h3,h4,h5⟩:=q
   exact⟨p,h1,h2,n p h5.mx h3,h4,h5.mono g λo q=>h p o q⟩
  |bx=>exact q
  |br d=>obtain⟨b1,p,h1,h4,hp,h5⟩:=q;exact⟨b1,p,h1,h4,hp,h5.mono g λo q=>h p o q⟩
def SR.kp {B:Option Addr}{G H H':Hp}{σ:St}{env:En}{β:Int}(I:SR Γ B G H σ env β)(h:aC H H'):Kp Γ H':=λb o e n=>h b o (I.keep b o e n)
theorem tH {F:List D->FR}{ps:List Str}{Q:VK}{B:Option Addr}{G H:Hp}{σ:St}{env:En}{β:Int}(I:SR Γ B G H σ env β)(hK:X.K=Γ.K){wv:Bool}
  (h:Out Γ E (if wv=true then vD F fr (vl env) β else ao F fr (vl env) β) λd β'=>∀v G' H',SR Γ B G' H' σ (bp L env) β'->aC G G'->iY B H H'->VO Γ.K B H G' H' (if wv=true then .w else .v) d v->Q v H') (hl:∀ds,F ds≠.bad->ds.length=ps.length) :
  aT Γ E fr L σ H λvs H1=>Es X.K Γ.ca ps.length F vs H1 Q E:=by
 refine⟨env,G,B,β,I,?_⟩
 have h:Out Γ E (fr (vl env) β) λds β1=>Out Γ E (match F ds with
   | .ok d true=>.ok d β1
   | .ok d false=>if wv=true then .bad else .ok d β1
   | .exc c=>.exc c
   | .bad=>.bad) λd β'=>∀v G' H',SR Γ B G' H' σ (bp L env) β'->aC G G'->iY B H H'->VO Γ.K B H G' H' (if wv=true then .w else .v) d v->Q v H':=by
  cases wv with
  |true=>
   simp only[OP] at h ⊢
   refine h.bnd.imp λds β1 h=>?_
   cases q:F ds with
   |ok d b=>rw[q] at h;cases b <;> exact h
   |exc c=>rw[q] at h;exact h
   |bad=>rw[q] at h;exact h
  |false=>
   simp only[Oa,OC] at h ⊢
   refine h.bnd.imp λds β1 h=>?_
   cases q:F ds with
   |ok d b=>rw[q] at h;cases b <;> exact h
   |exc c=>rw[q] at h;exact h
   |bad=>rw[q] at h;exact h
 refine h.imp λds β1 k vs G1 H1 I1 s1 m1 r=>?_
 refine⟨G1,ds,I1.sub,?_,by rw[hK];exact r,?_⟩
 ·exact hl ds λz=>by rw[z] at k;exact k
 cases q:F ds with
 |bad=>rw[q] at k;exact k
 |exc c=>rw[q] at k;exact λH' s=>k H' (I1.kp s)
 |ok d b=>
  rw[q] at k
  intro v G' H' hh hg hs hn fv
  obtain⟨I2,m2⟩:=I1.called hh hg hs hn
  cases b with
  |true=>
   obtain⟨p,rfl,p1,p2,p3⟩:∃a,v=.ref a/\H1 a=none/\G' a=none/\Own X.K G' H' a d:=fv
   rw[hK] at p3
   have hp:=fS m1 I1.boxThere p1
   cases wv with
   |true=>exact k _ G' H' I2 (s1.trans hg) (m1.trans m2) ⟨p,rfl,hp,p2,p3⟩
   |false=>
    obtain⟨q1,q2,q3,q4⟩:=I1.fresh p1
    obtain⟨G3,I3,s3,r3⟩:=I2.letIn q1 p2 q3 q4 p3
    exact k _ G3 H' I3 ((s1.trans hg).trans s3) (m1.trans m2) r3
  |false=>
   cases wv with
   |true=>exact k.elim
   |false=>
    have fv:Rp X.K G' v d:=fv
    rw[hK] at fv
    exact k _ G' H' I2 (s1.trans hg) (m1.trans m2) fv
def aA {x:Str}{ps:List Str}{k:Nat}{F:List D->FR}{p:Pos}(hf:bR X.prog X.w X.K X.mg X.base Γ.ca x ps k F)(hr:fX k X.A)(hx:Passes (pw X.prog X.w) X E)(hK:X.K=Γ.K)(hg:Gl X x)(ha:SA X Γ E (a :: es) fr L)(hdb:(x == ("__debug__":Str))=false:=by decide)
  (he:starEach (a :: es) X.env=(false,eval a X.env) :: starEach es X.env:=by rfl) (hpl:(backTo pos (starEach es X.env)).any (·.1)=false:=by rfl):SE X Γ E (.Call (.Name x p) (a :: es) [] pos) (ao F fr) L .v:=by
 obtain⟨f,fd,hm,hk,hb,hF⟩:=hf.ex
 refine PE.post' (pN (dvs:=[]) hF hr hg hm hk hb .nil hx ha hdb he hpl) λσ H Q ⟨env,G,B,β,I,o⟩=>?_
 show aT Γ E fr L σ H λvs H1=>Es X.K Γ.ca ps.length F (vs ++ []) H1 Q E
 have:=tH (Q:=Q) (wv:=false) (ps:=ps) I hK o hf.len
 simpa using this
def Di {x:Str}{ps:List Str}{k:Nat}{F:List D->FR}{p:Pos}(hf:bR X.prog X.w X.K X.mg X.base Γ.ca x ps k F)(hr:fX k X.A)(hx:Passes (pw X.prog X.w) X E)(hK:X.K=Γ.K)(hg:Gl X x)(ha:SA X Γ E (a :: es) fr L)(hdb:(x == ("__debug__":Str))=false:=by decide)
  (he:starEach (a :: es) X.env=(false,eval a X.env) :: starEach es X.env:=by rfl) (hpl:(backTo pos (starEach es X.env)).any (·.1)=false:=by rfl):SE X Γ E (.Call (.Name x p) (a :: es) [] pos) (vD F fr) L .w:=by
 obtain⟨f,fd,hm,hk,hb,hF⟩:=hf.ex
 refine PE.post' (pN (dvs:=[]) hF hr hg hm hk hb .nil hx ha hdb he hpl) λσ H Q ⟨env,G,B,β,I,o⟩=>?_
 show aT Γ E fr L σ H λvs H1=>Es X.K Γ.ca ps.length F (vs ++ []) H1 Q E
 have:=tH (Q:=Q) (wv:=true) (ps:=ps) I hK o hf.len
 simpa using this
end
inductive SO where
 |nx (env:En) (β:Int)
 |bk (env:En) (β:Int)
 |ct (env:En) (β:Int)
 |rt (d:D) (fr:Bool) (β:Int)
 |exc (c:Str)
 |bad
abbrev SF:=En->Int->SO
def RV (Γ:Fx)(G' H':Hp)(fr:Bool)(d:D)(v:V):Prop:=if fr=true then ∃a,v=.ref a/\Γ.H0 a=none/\G' a=none/\Own Γ.K G' H' a d else Rp Γ.K G' v d
def r6 (Γ:Fx)(E:XK)(G:Hp)(N:Ends):SO->Prop
 | .nx env β=>∀B G' H' σ,SR Γ B G' H' σ env β->aC G G'->N.nx σ H'
 | .bk env β=>∀B G' H' σ,SR Γ B G' H' σ env β->aC G G'->N.bk σ H'
 | .ct env β=>∀B G' H' σ,SR Γ B G' H' σ env β->aC G G'->N.ct σ H'
 | .rt d fr β=>∀B G' H' σ env v,SR Γ B G' H' σ env β->aC G G'->RV Γ G' H' fr d v->N.rt v H'
 | .exc c=>∀H',Kp Γ H'->E (.ref (Γ.ca c)) none H'
 | .bad=>False
def sT (Γ:Fx)(E:XK)(m:SF):TS:=λN σ H=>∃env G B β,SR Γ B G H σ env β/\r6 Γ E G N (m env β)
def SS (X:Cx)(Γ:Fx)(E:XK)(st:Stmt)(m:SF):Prop:=PS X st (sT Γ E m)
def Ew (X:Cx)(Γ:Fx)(E:XK)(st:List Stmt)(m:SF):Prop:=sC X st (sT Γ E m)
def sC.post {X:Cx}{st:List Stmt}{t u:TS}(h:sC X st t)(m:∀D σ H,u D σ H->t D σ H):sC X st u:=λpins s σ H D I q=>h pins s σ H D I (m D σ H q)
def aG (m m':SF):SF:=λenv β=>match m env β with
 | .nx env' β'=>m' env' β'
 |r=>r
def kZ:SF:=λenv β=>.nx env β
section
variable {X:Cx}{Γ:Fx}{E:XK}{e a b c:Expr}{f fa fb:VF D}{L La Lb:List Nat}{md ma mb:Md}{pos:Pos}{st:Stmt}{sts:List Stmt}{m m':SF}{ta:VF Bool}
theorem r6.weak {G G1:Hp}{N:Ends}{r:SO}(h:r6 Γ E G N r)(s:aC G G1):r6 Γ E G1 N r:=by
 cases r with
 |nx env β=>exact λB G' H' σ I s'=>h B G' H' σ I (s.trans s')
 |bk env β=>exact λB G' H' σ I s'=>h B G' H' σ I (s.trans s')
 |ct env β=>exact λB G' H' σ I s'=>h B G' H' σ I (s.trans s')
 |rt d fr β=>exact λB G' H' σ env v I s'=>h B G' H' σ env v I (s.trans s')
 |exc c=>exact h
 |bad=>exact h
def cm:Ew X Γ E [] kZ:=sC.post z7 λN σ H ⟨env,G,B,β,I,o⟩=>o B G H σ I (aC.refl _)
theorem ak (h:SS X Γ E st m)(h':Ew X Γ E sts m'):Ew X Γ E (st :: sts) (aG m m'):=by
 refine sC.post (iE h h') λN σ H ⟨env,G,B,β,I,o⟩=>?_
 refine⟨env,G,B,β,I,?_⟩
 unfold aG at o
 cases q:m env β with
 |nx env' β'=>rw[q] at o;exact λB' G' H' σ' I' s'=>⟨env',G',B',β',I',o.weak s'⟩
 |bk env' β'=>rw[q] at o;exact o
 |ct env' β'=>rw[q] at o;exact o
 |rt d fr β'=>rw[q] at o;exact o
 |exc c=>rw[q] at o;exact o
 |bad=>rw[q] at o;exact o
def aE (h:SS X Γ E st m):Ew X Γ E [st] m:=jg h
def toS {α:Type}(r:R α)(k:α->Int->SO):SO:=match r with
 | .ok x β=>k x β
 | .exc c=>.exc c
 | .bad=>.bad
theorem cy {α:Type}{G:Hp}{N:Ends}{r:R α}{k:α->Int->SO}{P:α->Int->Prop}(h:r6 Γ E G N (toS r k))(i:∀x β,r6 Γ E G N (k x β)->P x β):Out Γ E r P:=by
 cases r with
 |ok x β=>exact i x β h
 |exc c=>exact h
 |bad=>exact h
def SR.set' {B:Option Addr}{G H:Hp}{σ:St}{env:En}{β:Int}(I:SR Γ B G H σ env β)(i:Nat){v:V}{d:D}(h:Rp Γ.K G v d):SR Γ B G H (σ.set i (some v)) (env.set i (.fz d)) β:=by
 by_cases hi:i < env.length
 ·exact I.set hi h
 ·have h1:env.set i (.fz d)=env:=PH (by omega)
  have h2:σ.set i (some v)=σ:=PH (by rw[I.len];omega)
  rw[h1,h2];exact I
def SR.setOw' {B:Option Addr}{G H:Hp}{σ:St}{env:En}{β:Int}(I:SR Γ B G H σ env β)(i:Nat){a:Addr}{d:D}(h0:Γ.H0 a=none)(hg:G a=none)(hb:B≠some a)(h:Own Γ.K G H a d)(hn:∀(j:Nat) (d':D),env[j]? =some (.ow d')->σ[j]?≠some (some (.ref a))):SR Γ B G H (σ.set i (some (.ref a))) (env.set i (.ow d)) β:=by
 by_cases hi:i < env.length
 ·exact I.setOw hi h0 hg hb h λj d' e _=>hn j d' e
 ·have h1:env.set i (.ow d)=env:=PH (by omega)
  have h2:σ.set i (some (.ref a))=σ:=PH (by rw[I.len];omega)
  rw[h1,h2];exact I
def bg (i:Nat)(L:List Nat)(f:VF D):SF:=λenv β=>toS (f (vl env) β) λd β'=>.nx ((bp L env).set i (.fz d)) β'
def aX {i:Nat}{x:Str}{pos':Pos}(he:SE X Γ E e f L .v)(hN:X.N.Nodup)(hi:X.N[i]? =some x:=by rfl)(hx:Loc X.env.scope x:=by first |exact Or.inl rfl |exact Or.inr rfl)(hs:swapsWith e (some (.Name x pos')) pos.line X.env=pure false:=by rfl)(hf:X.fn x=true\/X.env.scope.names.lookup x=some .local:=by first |exact .inl rfl |exact .inr rfl |assumption) :
  SS X Γ E (.Assign [.Name x pos'] e pos) (bg i L f):=by
 refine PS.post (rf hN hi hx he hs hf) λN σ H ⟨env,G,B,β,I,o⟩=>?_
 refine⟨env,G,B,β,I,cy o λd β' k v G' H' I' s' m' vo=>?_⟩
 exact k B G' H' _ (I'.set' i vo) s'
def gM (i:Nat)(L:List Nat)(f:VF D):SF:=λenv β=>toS (f (vl env) β) λd β'=>.nx ((bp L env).set i (.ow d)) β'
def dJ {i:Nat}{x:Str}{pos':Pos}(he:SE X Γ E e f L .w)(hN:X.N.Nodup)(hi:X.N[i]? =some x:=by rfl)(hx:Loc X.env.scope x:=by first |exact Or.inl rfl |exact Or.inr rfl)(hs:swapsWith e (some (.Name x pos')) pos.line X.env=pure false:=by rfl)(hf:X.fn x=true\/X.env.scope.names.lookup x=some .local:=by first |exact .inl rfl |exact .inr rfl |assumption) :
  SS X Γ E (.Assign [.Name x pos'] e pos) (gM i L f):=by
 refine PS.post (rf hN hi hx he hs hf) λN σ H ⟨env,G,B,β,I,o⟩=>?_
 refine⟨env,G,B,β,I,cy o λd β' k v G' H' I' s' m' vo=>?_⟩
 obtain⟨p,rfl,h1,h2,h3⟩:=vo
 obtain⟨q1,q2,q3,q4⟩:=I.fresh h1
 exact k B G' H' _ (I'.setOw' i q1 h2 q3 h3 λj d' z=>q4 j d' (qm z)) s'
def mC (L:List Nat)(f:VF D):SF:=λenv β=>toS (f (vl env) β) λ_ β'=>.nx (bp L env) β'
def l6 (he:SE X Γ E e f L md)(hs:swapsWith e none pos.line X.env=pure false:=by rfl):SS X Γ E (.Expr e pos) (mC L f):=by
 refine PS.post (pC he hs) λN σ H ⟨env,G,B,β,I,o⟩=>?_
 exact⟨env,G,B,β,I,cy o λd β' k v G' H' I' s' m' vo=>k B G' H' _ I' s'⟩
def bM (f:VF D):SF:=λenv β=>toS (f (vl env) β) λd β'=>.rt d false β'
def aY (he:SE X Γ E e f L .v):SS X Γ E (.Return (some e) pos) (bM f):=by
 refine PS.post (oC he) λN σ H ⟨env,G,B,β,I,o⟩=>?_
 exact⟨env,G,B,β,I,cy o λd β' k v G' H' I' s' m' vo=>k B G' H' σ _ v I' s' vo⟩
def qi (f:VF D):SF:=λenv β=>toS (f (vl env) β) λd β'=>.rt d true β'
def nD (he:SE X Γ E e f L .w):SS X Γ E (.Return (some e) pos) (qi f):=by
 refine PS.post (oC he) λN σ H ⟨env,G,B,β,I,o⟩=>?_
 refine⟨env,G,B,β,I,cy o λd β' k v G' H' I' s' m' vo=>?_⟩
 obtain⟨p,rfl,h1,h2,h3⟩:=vo
 obtain⟨q1,_⟩:=I.fresh h1
 exact k B G' H' σ _ _ I' s' ⟨p,rfl,q1,h2,h3⟩
def qD (i:Nat):SF:=λenv β=>match env[i]? with
 |some (.fz d)=>.rt d false β
 |some (.ow d)=>.rt d true β
 |_=>.bad
theorem nc (i:Nat){x:Str}{p:Pos}(hN:X.N[i]? =some x:=by rfl)(hv:AF X.env.scope x:=by first |exact Or.inl rfl |exact Or.inr (Or.inl rfl) |exact Or.inr (Or.inr rfl))(hd:(x == ("__debug__":Str))=false:=by decide)
  (hcd:(x == ("__classdict__":Str))=false:=by decide):SS X Γ E (.Return (some (.Name x p)) pos) (qD i):=by
 refine PS.post (oC (jC hN hv hd hcd)) λN σ H ⟨env,G,B,β,I,o⟩=>?_
 unfold qD at o
 cases q:env[i]? with
 |none=>rw[q] at o;exact o.elim
 |some s=>
  rw[q] at o
  cases s with
  |no=>exact o.elim
  |bx=>exact o.elim
  |br d=>exact o.elim
  |fz d=>
   obtain⟨v,h1,h2⟩:=I.slot i _ q
   exact⟨v,h1,o B G H σ env v I (aC.refl _) h2⟩
  |ow d=>
   obtain⟨p,h1,h2,h3,h4,h5⟩:=I.slot i _ q
   exact⟨_,h1,o B G H σ env _ I (aC.refl _) ⟨p,rfl,h2,h3,h5⟩⟩
def jF (L:List Nat)(t:VF Bool)(m m':SF):SF:=λenv β=>toS (t (vl env) β) λc β'=>if c=true then m (bp L env) β' else m' (bp L env) β'
theorem du {x y:List Stmt}(hc:Bb X Γ E c ta L)(ha:Ew X Γ E x m)(hb:Ew X Γ E y m'):SS X Γ E (.If c x y pos) (jF L ta m m'):=by
 refine PS.post (Hg hc ha hb) λN σ H ⟨env,G,B,β,I,o⟩=>?_
 refine⟨env,G,B,β,I,cy o λd β' k G' H' I' s' m'=>?_⟩
 cases d with
 |true=>exact rV ⟨_,G',B,β',I',r6.weak k s'⟩
 |false=>exact rX ⟨_,G',B,β',I',r6.weak k s'⟩
def gX (L:List Nat)(t:VF Bool)(m:SF):Nat->SF
 | 0=>λ_ _=>.bad
 |n + 1=>λenv β=>toS (t (vl env) β) λc β'=>if c=true then (match m (bp L env) β' with
   | .nx env2 β2=>gX L t m n env2 β2
   | .ct env2 β2=>gX L t m n env2 β2
   | .bk env2 β2=>.nx env2 β2
   |r=>r) else .nx (bp L env) β'
theorem k7 {x:List Stmt}(n:Nat)(hp:PassesOwn (model X.prog X.w) X.A X.env X.xe)(hc:Bb X Γ E c ta L)(hb:Ew X Γ E x m):SS X Γ E (.While c x [] pos) (gX L ta m n):=by
 refine PS.post (Cb hp hc hb) λN σ H ⟨env,G,B,β,I,o⟩=>?_
 refine⟨λk σ H=>∃env G1 B β,SR Γ B G1 H σ env β/\aC G G1/\r6 Γ E G1 N (gX L ta m k env β),⟨n,env,G,B,β,I,aC.refl _,o⟩,?_⟩
 rintro k σ H ⟨env,G1,B,β,I,sG,o⟩
 cases k with
 |zero=>exact o.elim
 |succ k=>
  refine⟨env,G1,B,β,I,cy o λd β' q G' H' I' s' m'=>?_⟩
  cases d with
  |false=>exact rX (q B G' H' σ I' s')
  |true=>
   refine rV ⟨λσ H=>∃env G1 B β,SR Γ B G1 H σ env β/\aC G G1/\r6 Γ E G1 N (gX L ta m k env β),λσ' H' h=>⟨k,Nat.lt_succ_self k,h⟩,bp L env,G',B,β',I',?_⟩
   rw[NN rfl] at q
   cases r:m (bp L env) β' with
   |nx env2 β2=>rw[r] at q;exact λB2 G2 H2 σ2 I2 s2=>⟨env2,G2,B2,β2,I2,(sG.trans s').trans s2,r6.weak q (s'.trans s2)⟩
   |ct env2 β2=>rw[r] at q;exact λB2 G2 H2 σ2 I2 s2=>⟨env2,G2,B2,β2,I2,(sG.trans s').trans s2,r6.weak q (s'.trans s2)⟩
   |bk env2 β2=>rw[r] at q;exact λB2 G2 H2 σ2 I2 s2=>q B2 G2 H2 σ2 I2 (s'.trans s2)
   |rt d fr β2=>rw[r] at q;exact r6.weak q s'
   |exc c=>rw[r] at q;exact q
   |bad=>rw[r] at q;exact q
def Walk (K:Frag)(B:Option Addr)(G H1:Hp)(ds:List D)(J:It):Prop:=∀Gc H (i:Nat),aC G Gc->aC Gc H->iY B H1 H->
 (i < ds.length->J.go i H/\∀x H',J.yld i H x H'->∃G' d,Ext Gc H G' H'/\ds[i]? =some d/\Rp K G' x d)/\(ds.length<=i->J.stop i H)
def Walk.any {K:Frag}{B:Option Addr}{G H1:Hp}{ds:List D}{J:It}(h:Walk K B G (λ_=>none) ds J):Walk K B G H1 ds J:=λGc H i s1 s2 _=>h Gc H i s1 s2 λb o e=>by cases e
def iT (Γ:Fx)(E:XK)(f:VF (List D))(L:List Nat)(md:Md):TI:=λσ H Rr=>∃env G B β,SR Γ B G H σ env β/\
 Out Γ E (f (vl env) β) λds β'=>∀J G' H',SR Γ B G' H' σ (bp L env) β'->aC G G'->iY B H H'->Walk Γ.K B G' (match md with | .b=>H' |_=>λ_=>none) ds J->Rr J H'
def SI (X:Cx)(Γ:Fx)(E:XK)(tg e:Expr)(f:VF (List D))(L:List Nat)(md:Md):Prop:=PI X tg e (iT Γ E f L md)
def PI.post {X:Cx}{tg e:Expr}{t u:TI}(h:PI X tg e t)(m:∀σ H Q,u σ H Q->t σ H Q):PI X tg e u:=λpins s σ H Q I q=>h pins s σ H Q I (m σ H Q q)
variable {tg:Expr}
def kW:D->Option (List D)
 | .list ds=>some ds
 | .tuple ds=>some ds
 |_=>none
def bG (fa:VF D):VF (List D):=λvs β=>(fa vs β).bnd λx β1=>R.of (kW x) β1
end
def NG (K:Frag)(tl:TE):TI:=λσ H R=>tl σ H λx H1=>∃a xs,x=.ref a/\((gY K H1 a xs/\R (BA K a) H1)\/(fV K H1 a xs/\R (Hl K a) H1))
section
variable {X:Cx}{tg l:Expr}{tl:TE}
def GW (hl:PE X l tl):PI X tg l (NG X.K tl):=by
 intro pins s σ H R I h
 refine cM (hl pins s σ H _ I h) λv s1 ⟨x,H1,I1,r1,q1⟩=>?_
 obtain⟨a,xs,e,q⟩:=q1
 subst e
 cases r1
 rcases q with⟨hq,q⟩ | ⟨hq,q⟩
 ·obtain⟨its,rv,p,hz⟩:=I1.list hq
  refine Qm p.isList ?_
  refine⟨s1.heap.objs.size,[s1.heap.objs.size],_,_,H1,rfl,I1.kept (t':=s1.toks) λb o e=>NM _ e,oJ a _,⟨_,N3 _ rfl,rfl,rfl⟩,λb hb=>?_,q⟩
  have e:b=s1.heap.objs.size:=by simpa using hb
  subst e
  exact I1.fpOk (NQ _) (I1.hok.fresh (NQ _))
 ·obtain⟨its,rv,p,hz⟩:=I1.tuple hq
  refine Qj (show s1.heap.IsTuple a its.toArray from p) ?_
  refine⟨s1.heap.objs.size,[s1.heap.objs.size],_,_,H1,rfl,I1.kept (t':=s1.toks) λb o e=>NM _ e,qF a _,⟨_,N3 _ rfl,rfl,rfl⟩,λb hb=>?_,q⟩
  have e:b=s1.heap.objs.size:=by simpa using hb
  subst e
  exact I1.fpOk (NQ _) (I1.hok.fresh (NQ _))
end
section
variable {X:Cx}{Γ:Fx}{E:XK}{e a b c:Expr}{f fa fb:VF D}{L La Lb:List Nat}{md ma mb:Md}{pos:Pos}{st:Stmt}{sts:List Stmt}{m m':SF}{ta:VF Bool}{tg:Expr}
def og {K:Frag}{B:Option Addr}{G H1:Hp}{p:Addr}{xs:List V}{ds:List D}(h:∀Gc H,aC G Gc->aC Gc H->iY B H1 H->gY K H p xs)(r:cF K G xs ds):Walk K B G H1 ds (BA K p):=λGc H i s1 s2 m=>by
 have hq:=h Gc H s1 s2 m
 refine⟨λhi=>⟨?_,λx H' y=>?_⟩,λhi=>⟨xs,hq,by rw[r.len];exact hi⟩⟩
 ·have hi':i < xs.length:=by rw[r.len];exact hi
  exact⟨xs,xs[i],hq,by simp[hi']⟩
 ·obtain⟨rfl,y⟩:=y
  obtain⟨d,e,q⟩:=r.at' (y xs hq)
  exact⟨Gc,d,Ext.refl s2,e,q.mono s1⟩
def vF {K:Frag}{B:Option Addr}{G H1:Hp}{p:Addr}{xs:List V}{ds:List D}(h:∀Gc H,aC G Gc->aC Gc H->iY B H1 H->fV K H p xs)(r:cF K G xs ds):Walk K B G H1 ds (Hl K p):=λGc H i s1 s2 m=>by
 have hq:=h Gc H s1 s2 m
 refine⟨λhi=>⟨?_,λx H' y=>?_⟩,λhi=>⟨xs,hq,by rw[r.len];exact hi⟩⟩
 ·have hi':i < xs.length:=by rw[r.len];exact hi
  exact⟨xs,xs[i],hq,by simp[hi']⟩
 ·obtain⟨rfl,y⟩:=y
  obtain⟨d,e,q⟩:=r.at' (y xs hq)
  exact⟨Gc,d,Ext.refl s2,e,q.mono s1⟩
theorem EF (hK:X.K=Γ.K)(ha:SE X Γ E a fa La .v):SI X Γ E tg a (bG fa) La .v:=by
 refine PI.post (GW ha) λσ H Q ⟨env,G,B,β,I,o⟩=>?_
 refine⟨env,G,B,β,I,o.bnd.imp λd1 β1 h x G1 H1 I1 s1 m1 vx=>?_⟩
 obtain⟨ds,e,k⟩:=h.of
 rw[hK]
 have vx:Rp Γ.K G1 x d1:=vx
 cases d1 with
 |list l=>
  cases e
  cases vx with
  | @lst p xs _ hq r=>exact⟨p,xs,rfl,.inl ⟨.inl (Rd.mono (.inl hq) I1.sub),k _ G1 H1 I1 s1 m1 (og (λGc H t1 t2 _=>.inl (Rd.mono (.inl hq) (t1.trans t2))) r)⟩⟩
 |tuple l=>
  cases e
  cases vx with
  | @tup p xs _ hq r=>exact⟨p,xs,rfl,.inr ⟨hq.grow I1.sub.grow,k _ G1 H1 I1 s1 m1 (vF (λGc H t1 t2 _=>hq.grow (t1.trans t2).grow) r)⟩⟩
 |_=>cases e
theorem lg (hK:X.K=Γ.K)(ha:SE X Γ E a fa La ma):SI X Γ E tg a (bG fa) La .b:=by
 refine PI.post (GW ha) λσ H Q ⟨env,G,B,β,I,o⟩=>?_
 refine⟨env,G,B,β,I,o.bnd.imp λd1 β1 h x G1 H1 I1 s1 m1 vx=>?_⟩
 obtain⟨ds,e,k⟩:=h.of
 rw[hK]
 have vx:=vx.brw I.boxThere
 cases d1 with
 |list l=>
  cases e
  rcases vx with vx | ⟨p,rfl,hb,xs,q,r⟩
  ·cases vx with
   | @lst p xs _ hq r=>exact⟨p,xs,rfl,.inl ⟨.inl (Rd.mono (.inl hq) I1.sub),k _ G1 H1 I1 s1 m1 (og (λGc H t1 t2 _=>.inl (Rd.mono (.inl hq) (t1.trans t2))) r)⟩⟩
  ·exact⟨p,xs,rfl,.inl ⟨.inl (.inl q),k _ G1 H1 I1 s1 m1 (og (λGc H t1 t2 mv=>.inl (.inl (mv p _ q hb))) r)⟩⟩
 |tuple l=>
  cases e
  rcases vx with vx | ⟨p,rfl,hb,q⟩
  ·cases vx with
   | @tup p xs _ hq r=>exact⟨p,xs,rfl,.inr ⟨hq.grow I1.sub.grow,k _ G1 H1 I1 s1 m1 (vF (λGc H t1 t2 _=>hq.grow (t1.trans t2).grow) r)⟩⟩
  ·exact q.elim
 |_=>cases e
def cO (lo:Int)(n:Nat):List D:=(List.range n).map λ(k:Nat)=>int (lo + k)
def fo (lo:Int)(n:Nat):(cO lo n).length=n:=by unfold cO;simp
def wD {K:Frag}{B:Option Addr}{G H1:Hp}(lo:Int)(n:Nat):Walk K B G H1 (cO lo n) (BF lo n):=λGc H i s1 s2 m=>by
 rw[fo]
 refine⟨λhi=>⟨hi,λx H' y=>?_⟩,λhi=>hi⟩
 obtain⟨rfl,rfl⟩:=y
 refine⟨Gc,.int (lo + i),Ext.refl s2,?_,.int _⟩
 unfold cO
 rw[NW,Pc hi];rfl
def vh (j:Int):Bool:=Nat.ble j.natAbs 1000000
def jw {j:Int}(h:vh j=true): -(2 ^ 62)<=j/\j < 2 ^ 62:=by
 have:=Nat.le_of_ble_eq_true h
 omega
def l4 {j:Int}(h: -1000<=j)(h2:j<=10000):vh j=true:=Nat.ble_eq_true_of_le (by omega)
def cY (fa:VF D):VF (List D):=λvs β=>(fa vs β).bnd λx β1=>match x with
 | .int j=>if vh j=true then .ok (cO 0 j.toNat) β1 else .bad
 |_=>.bad
def tD (fa fb:VF D):VF (List D):=λvs β=>(fa vs β).bnd λx β1=>(fb vs β1).bnd λy β2=>match x,y with
 | .int i,.int j=>if (vh i && vh j)=true then .ok (cO i (j - i).toNat) β2 else .bad
 |_,_=>.bad
theorem kO {p:Pos}(hg:Gl X "range")(hm:X.mg "range"=none)(ha:SE X Γ E a fa La ma)(hs:starEach [a] X.env= [(false,eval a X.env)]:=by rfl)(hs':starEach [a] X.env=(false,eval a X.env) :: starEach [] X.env:=by rfl):SI X Γ E tg (.Call (.Name "range" p) [a] [] pos) (cY fa) La md:=by
 refine PI.post (l7 hg hm (aS ha bJ hs') hs) λσ H Q ⟨env,G,B,β,I,o⟩=>?_
 refine⟨env,G,B,β,I,o.bnd.imp λd1 β1 h x G1 H1 I1 s1 m1 vx=>?_⟩
 have vx:=vx.brw I.boxThere
 cases d1 with
 |int j=>
  obtain rfl:=vx.int
  dsimp only at h
  by_cases hj:vh j=true
  ·rw[NN hj] at h
   exact⟨j,rfl,(jw hj).1,(jw hj).2,h _ G1 H1 I1 s1 m1 (wD 0 _)⟩
  ·rw[NV hj] at h;exact h.elim
 |_=>exact h.elim
def KO {p:Pos}(hg:Gl X "range")(hm:X.mg "range"=none)(ha:SE X Γ E a fa La ma)(hb:SE X Γ E b fb Lb mb)(hs:starEach [a,b] X.env= [(false,eval a X.env),(false,eval b X.env)]:=by rfl)(hs2:starEach [b] X.env= [(false,eval b X.env)]:=by rfl)(hs':starEach [a,b] X.env=(false,eval a X.env) :: starEach [b] X.env:=by rfl)(hs3:starEach [b] X.env=(false,eval b X.env) :: starEach [] X.env:=by rfl):SI X Γ E tg (.Call (.Name "range" p) [a,b] [] pos) (tD fa fb) (La ++ Lb) md:=by
 refine PI.post (AA hg hm (aS ha (aS hb bJ hs3) hs') hs hs2) λσ H Q ⟨env,G,B,β,I,o⟩=>?_
 refine two (W:=λx y H2=>∃i j:Int,[x,y]= [.int i,.int j]/\(-(2 ^ 62)<=i/\i < 2 ^ 62/\ -(2 ^ 62)<=j/\j < 2 ^ 62)/\Q (BF i (j - i).toNat) H2) I (o.bnd.imp λd1 β1 h=>h.bnd.imp λd2 β2 h x y G2 H2 I2 s2 m2 bx by'=>?_)
 obtain⟨i,j,rfl,rfl⟩:∃i j,d1=.int i/\d2=.int j:=by
  cases d1 <;> cases d2 <;> first |exact h.elim |exact⟨_,_,rfl,rfl⟩
 obtain rfl:=bx.int
 obtain rfl:=by'.int
 dsimp only at h
 by_cases hj:(vh i && vh j)=true
 ·rw[NN hj] at h
  rw[N4] at hj
  exact⟨i,j,rfl,⟨(jw hj.1).1,(jw hj.1).2,(jw hj.2).1,(jw hj.2).2⟩,h _ G2 H2 I2 s2 m2 (wD i _)⟩
 ·rw[NV hj] at h;exact h.elim
inductive Tg where
 |nm (i:Nat)
 |two (i j:Nat)
def pairD:D->Option (D×D)
 | .tuple [x,y]=>some (x,y)
 |_=>none
def Eb {d x y:D}(h:pairD d=some (x,y)):d=.tuple [x,y]:=by
 unfold pairD at h
 split at h
 ·cases h;rfl
 ·cases h
def eT:Tg->D->En->Option En
 | .nm i,d,env=>some (env.set i (.fz d))
 | .two i j,d,env=>(pairD d).map λp=>(env.set i (.fz p.1)).set j (.fz p.2)
def mw:Tg->D->List Nv->Option (List Nv)
 | .nm i,d,vs=>some (vs.set i (.da d))
 | .two i j,d,vs=>(pairD d).map λp=>(vs.set i (.da p.1)).set j (.da p.2)
def xG (env:En)(i:Nat)(s:Sl):vl (env.set i s)=(vl env).set i s.val:=by unfold vl;rw[List.map_set]
theorem Fu (t:Tg)(d:D)(env:En):(eT t d env).map vl=mw t d (vl env):=by
 cases t with
 |nm i=>show some (vl _)=some _;rw[xG];rfl
 |two i j=>
  show ((pairD d).map _).map vl=(pairD d).map _
  cases pairD d with
  |none=>rfl
  |some p=>show some (vl _)=some _;rw[xG,xG];rfl
def gT (Γ:Fx)(t:Tg):TG:=λv σ H Q=>∃env G B β d env',SR Γ B G H σ env β/\Rp Γ.K G v d/\eT t d env=some env'/\∀σ',SR Γ B G H σ' env' β->Q σ' H
def SG (X:Cx)(Γ:Fx)(tg:Expr)(t:Tg):Prop:=PG X tg (gT Γ t)
def PG.post {X:Cx}{tg:Expr}{t u:TG}(h:PG X tg t)(m:∀v σ H Q,u v σ H Q->t v σ H Q):PG X tg u:=λpins s σ H v uu Q I r q=>h pins s σ H v uu Q I r (m v σ H Q q)
def cH {i:Nat}{x:Str}(hN:X.N.Nodup)(hi:X.N[i]? =some x:=by rfl)(hx:Loc X.env.scope x:=by first |exact Or.inl rfl |exact Or.inr rfl)(hf:X.fn x=true\/X.env.scope.names.lookup x=some .local:=by first |exact .inl rfl |exact .inr rfl |assumption):SG X Γ (.Name x pos) (.nm i):=by
 refine PG.post (di hN hi hx hf) λv σ H Q ⟨env,G,B,β,d,env',I,r,e,k⟩=>?_
 cases e
 exact k _ (I.set' i r)
theorem iV {i j:Nat}{x y:Str}{px py:Pos}{n:Nat}(hN:X.N.Nodup)(hc:X.calm=true:=by rfl)(hK:X.K=Γ.K:=by rfl)(hi:X.N[i]? =some x:=by rfl)(hj:X.N[j]? =some y:=by rfl)(hx:Loc X.env.scope x:=by first |exact Or.inl rfl |exact Or.inr rfl)(hy:Loc X.env.scope y:=by first |exact Or.inl rfl |exact Or.inr rfl)
  (hf:X.fn x=true\/X.env.scope.names.lookup x=some .local:=by first |exact .inl rfl |exact .inr rfl |assumption) (hf':X.fn y=true\/X.env.scope.names.lookup y=some .local:=by first |exact .inl rfl |exact .inr rfl |assumption):SG X Γ (.Tuple [.Name x px,.Name y py] n pos) (.two i j):=by
 refine PG.post (p7 (n:=2) hc (dR (di hN hi hx hf) (dR (di hN hj hy hf') nS))) λv σ H Q ⟨env,G,B,β,d,env',I,r,e,k⟩=>?_
 rw[hK]
 have e:(pairD d).map (λp=>(env.set i (.fz p.1)).set j (.fz p.2))=some env':=e
 cases q:pairD d with
 |none=>rw[q] at e;cases e
 |some p=>
  obtain⟨dx,dy⟩:=p
  rw[q] at e
  cases e
  obtain rfl:=Eb q
  cases r with
  | @tup p xs _ hq r=>
   cases r with
   |cons r1 r=>
    cases r with
    |cons r2 r=>
     cases r
     exact⟨p,_,rfl,hq.grow I.sub.grow,rfl,_,_,rfl,_,_,rfl,rfl,k _ ((I.set' i r1).set' j r2)⟩
def kY (t:Tg)(m:SF):List D->SF
 | []=>λenv β=>.nx env β
 |d :: ds=>λenv β=>match eT t d env with
  |none=>.bad
  |some env1=>match m env1 β with
   | .nx env2 β2=>kY t m ds env2 β2
   | .ct env2 β2=>kY t m ds env2 β2
   | .bk env2 β2=>.nx env2 β2
   |r=>r
def dr (t:Tg)(L:List Nat)(fi:VF (List D))(m:SF):SF:=λenv β=>toS (fi (vl env) β) λds β'=>kY t m ds (bp L env) β'
def eH {t:Tg}{fi:VF (List D)}{x:List Stmt}(hp:PassesOwn (model X.prog X.w) X.A X.env X.xe)(hc:X.calm=true)(hi:SI X Γ E tg e fi L .v)(hg:SG X Γ tg t)(hb:Ew X Γ E x m)(hs:∀x,foldedSetIterable e X.env x=pure x:=by intro _;rfl):SS X Γ E (.For tg e x [] pos) (dr t L fi m):=by
 refine PS.post (uU hp hc hi hg hb hs) λN σ H ⟨env,G,B,β,I,o⟩=>?_
 refine⟨env,G,B,β,I,cy o λds β' q J G' H' I' s' m' w=>?_⟩
 have w:Walk Γ.K B G' (λ_=>none) ds J:=w
 refine⟨λi n σ H=>n=ds.length - i/\i<=ds.length/\∃env G1 B β,SR Γ B G1 H σ env β/\aC G' G1/\r6 Γ E G1 N (kY t m (ds.drop i) env β),⟨ds.length,by simp,Ov _,bp L env,G',B,β',I',aC.refl _,by rw[List.drop_zero];exact r6.weak q s'⟩,?_⟩
 rintro i n σ H ⟨rfl,hi,env,G1,B1,β1,I1,s1,q⟩
 obtain⟨w1,w2⟩:=w G1 H i s1 I1.sub λb o e=>by cases e
 by_cases hlt:i < ds.length
 ·obtain⟨go,yl⟩:=w1 hlt
  refine .inr ⟨go,λσ H=>∃env G2 B β,SR Γ B G2 H σ env β/\aC G' G2/\r6 Γ E G2 N (kY t m (ds.drop (i + 1)) env β),λσ2 H2 h=>⟨ds.length - (i + 1),by omega,rfl,hlt,h⟩,λx H2 y=>?_⟩
  obtain⟨G2,d,x2,ed,rd⟩:=yl x H2 y
  have I2:=I1.ext x2
  have q:=r6.weak q x2.gg
  rw[Qy hlt] at q
  have ed':ds[i]=d:=by rw[NK hlt] at ed;exact Option.some.inj ed
  rw[ed'] at q
  unfold kY at q
  cases eb:eT t d env with
  |none=>rw[eb] at q;exact q.elim
  |some env1=>
   rw[eb] at q
   refine⟨env,G2,B1,β1,d,env1,I2,rd,eb,λσ3 I3=>⟨env1,G2,B1,β1,I3,?_⟩⟩
   have s2:=s1.trans x2.gg
   dsimp only at q
   cases r:m env1 β1 with
   |nx env2 β2=>rw[r] at q;exact λB2 G3 H3 σ2 I2 s3=>⟨env2,G3,B2,β2,I2,s2.trans s3,r6.weak q s3⟩
   |ct env2 β2=>rw[r] at q;exact λB2 G3 H3 σ2 I2 s3=>⟨env2,G3,B2,β2,I2,s2.trans s3,r6.weak q s3⟩
   |bk env2 β2=>rw[r] at q;exact λB2 G3 H3 σ2 I2 s3=>q B2 G3 H3 σ2 I2 s3
   |rt d fr β2=>rw[r] at q;exact q
   |exc c=>rw[r] at q;exact q
   |bad=>rw[r] at q;exact q
 ·have e:i=ds.length:=by omega
  subst e
  rw[List.drop_length] at q
  exact .inl ⟨w2 (NQ _),q B1 G1 H σ I1 (aC.refl _)⟩
end
abbrev Fx.jx (Γ:Fx)(H0 G0:Hp)(par:List Addr)(br:Nat->Bool)(bx:Option Addr):Fx:=⟨Γ.K,H0,G0,par,Γ.ca,br,bx⟩
def dg (own:Nat)(ixs:List Nat)(vs:List Nv):List Nv:=List.replicate own .no ++ ixs.map λi=>(vs[i]?).getD .no
def J0:Option Sl->Sl
 |some (.ow d)=>.br d
 |some s=>s
 |none=>.no
def benv (own:Nat)(ixs:List Nat)(env:En):En:=List.replicate own .no ++ ixs.map λi=>J0 env[i]?
theorem FL (o:Option Sl):(J0 o).val=(o.map Sl.val).getD .no:=by
 cases o with
 |none=>rfl
 |some s=>cases s <;> rfl
def FW (own:Nat)(ixs:List Nat)(env:En):vl (benv own ixs env)=dg own ixs (vl env):=by
 unfold vl benv dg
 rw[Ou,List.map_replicate,Pq]
 congr 1
 refine OR λi _=>?_
 show (J0 env[i]?).val=_
 rw[FL,NW]
def yL (env:En):Prop:=∀(i:Nat) (d:D),env[i]?≠some (.ow d)
theorem wx {env:En}(h:yL env)(L:List Nat):bp L env=env:=by
 unfold bp
 induction L with
 |nil=>rfl
 |cons i L ih=>
  rw[Qx]
  have:gQ env i=env:=by
   unfold gQ
   split
   ·rename_i d e;exact absurd e (h i d)
   ·rfl
  rw[this];exact ih
def sU (own:Nat)(ixs:List Nat)(env:En):yL (benv own ixs env):=λi d e=>by
 unfold benv at e
 have hm:=N6 e
 rcases Ob.mp hm with h |h
 ·have:=QC h;cases this
 ·obtain⟨k,_,hk⟩:=NY.mp h
  cases q:env[k]? with
  |none=>rw[q] at hk;cases hk
  |some s=>rw[q] at hk;cases s <;> cases hk
def p9 {env:En}(h:yL env)(i:Nat)(d:D):yL (env.set i (.fz d)):=λj d' e=>by
 by_cases z:i=j
 ·subst z
  by_cases hi:i < env.length
  ·rw[Oc hi] at e;cases e
  ·rw[PH (by omega)] at e;exact h _ _ e
 ·rw[N8 z] at e;exact h _ _ e
theorem Bl {env env1:En}{t:Tg}{d:D}(h:yL env)(e:eT t d env=some env1):yL env1:=by
 cases t with
 |nm i=>cases e;exact p9 h i d
 |two i j=>
  have e:(pairD d).map _=some env1:=e
  cases q:pairD d with
  |none=>rw[q] at e;cases e
  |some p=>rw[q] at e;cases e;exact p9 (p9 h _ _) _ _
theorem Ay {env env1:En}{t:Tg}{d:D}(e:eT t d env=some env1)(d':D):eT t d' env1=eT t d' env:=by
 cases t with
 |nm i=>cases e;show some _=some _;rw[set_set]
 |two i j=>
  have e:(pairD d).map _=some env1:=e
  cases q:pairD d with
  |none=>rw[q] at e;cases e
  |some p=>
   rw[q] at e;cases e
   show (pairD d').map _=(pairD d').map _
   cases pairD d' with
   |none=>rfl
   |some p'=>
    show some _=some _
    congr 1
    dsimp only
    by_cases z:i=j
    ·subst z;simp[set_set]
    ·rw[List.set_comm _ _ (Ne.symm z),set_set,set_set]
def Ext.mov {G H G' H':Hp}(x:Ext G H G' H')(B:Option Addr):iY B H H':=x.hh.mov B
section
variable {Γ:Fx}{B:Option Addr}{G H G1 H1 Gc Hc:Hp}{σ σ':St}{env envb:En}{β β':Int}{own:Nat}{ixs:List Nat}{Da:Addr}{acc:List V}
def yq (envb:En):Nat->Bool:=λj=>match envb[j]? with
 |some (.br _)=>true
 |_=>false
def SR.block (I:SR Γ B G H σ env β)(own:Nat)(ixs:List Nat)(hD:H Da=none):SR (Γ.jx (upd H Da (.lst [])) G (Da :: B.toList) (yq (benv own ixs env)) B) B G (upd H Da (.lst [])) (bN own ixs σ) (benv own ixs env) β:=by
 obtain⟨q1,q2,q3,q4⟩:=I.fresh hD
 have nB:∀b,B=some b->b≠Da:=λb e z=>q3 (by rw[<-z];exact e)
 refine⟨I.sub.trans (aC.new hD),aC.refl _,λb _ h=>h,λb o h _=>h,λb hb=>?_,λb e=>e,λb e=>?_,?_,λi s e=>?_,λi j c d d' e=>absurd e (sU own ixs env i d)⟩
 ·rcases NO.mp hb with z |z
  ·subst z;exact Mx.lst aI
  ·have z':B=some b:=by simpa using z
   exact Mx.lst (by rw[aH (nB b z')];exact (I.box b z').1)
 ·obtain⟨h1,h2,_⟩:=I.box b e
  exact⟨by rw[aH (nB b e)];exact h1,h2,.inl (NP _ (by simpa using e))⟩
 ·unfold bN benv;simp
 ·by_cases hi:i < own
  ·unfold benv at e
   rw[Oh (by simpa using hi),Pk,NN hi] at e
   cases e;trivial
  ·have e0:=e
   unfold benv at e
   rw[Ol (by simpa using hi),PV,NW] at e
   cases ek:ixs[i - own]? with
   |none=>rw[ek] at e;cases e
   |some k=>
    rw[ek] at e
    have e:J0 env[k]? =s:=Option.some.inj e
    have es:(bN own ixs σ)[i]? =some ((σ[k]?).join):=by
     unfold bN
     rw[Ol (by simpa using hi),PV,NW,ek];rfl
    rw[es]
    cases q:env[k]? with
    |none=>rw[q] at e;subst e;trivial
    |some t=>
     rw[q] at e
     have w:=I.slot k t q
     cases t with
     |no=>subst e;trivial
     |fz d=>subst e;obtain⟨v,h1,h2⟩:=w;exact⟨v,by rw[h1];rfl,h2⟩
     |bx=>subst e;obtain⟨a,h1,h2⟩:=w;exact⟨a,by rw[h1];rfl,h2⟩
     |ow d=>
      subst e
      obtain⟨a,h1,h2,h3,h4,h5⟩:=w
      obtain⟨o,ho⟩:=h5.obj
      have aD:a≠Da:=aP ho hD
      refine⟨by show yq _ i=true;unfold yq;rw[e0];rfl,a,by rw[h1];rfl,h4,?_,h5.mono (aC.refl _) λo q=>by rw[aH aD];exact q⟩
      intro hm
      rcases NO.mp hm with z |z
      ·exact aD z
      ·exact h4 (by simpa using z)
     |br d=>
      subst e
      obtain⟨b1,a,h1,h4,hp,h5⟩:=w
      obtain⟨o,ho⟩:=h5.obj
      have aD:a≠Da:=aP ho hD
      refine⟨by show yq _ i=true;unfold yq;rw[e0];rfl,a,by rw[h1];rfl,h4,?_,h5.mono (aC.refl _) λo q=>by rw[aH aD];exact q⟩
      intro hm
      rcases NO.mp hm with z |z
      ·exact aD z
      ·exact h4 (by simpa using z)
def SR.unblock (I:SR Γ B G H σ env β){br:Nat->Bool}(hD:H Da=none)(J:SR (Γ.jx (upd H Da (.lst [])) G (Da :: B.toList) br B) B Gc Hc σ' envb β'):SR Γ B Gc Hc σ env β'/\iY B H Hc/\Gc Da=none:=by
 obtain⟨q1,q2,q3,q4⟩:=I.fresh hD
 have up:∀{b:Addr},Mx H b->Mx (upd H Da (.lst [])) b:=λ{b} h=>h.same λo e=>by rw[aH (aP e hD)];exact e
 have mv:iY B H Hc:=λb o e n=>J.keep b o (show upd H Da (.lst []) b=some o by rw[aH (aP e hD)];exact e) λhm=>by
  rcases NO.mp hm with z |z
  ·rw[z,hD] at e;cases e
  ·exact n (by simpa using z)
 refine⟨⟨J.sub,I.old.trans J.old,λb h1 h2=>J.new b (up (I.thereM h1)) (I.new b h1 h2),λb o h1 h2=>mv b o (I.keep b o h1 h2) λz=>?_,λb hb=>J.thereM (up (I.pin b hb)),I.fix,λb e=>?_,I.len,λi s e=>?_,I.sep⟩,mv,J.new Da (Mx.lst (show upd H Da (.lst []) Da=some (.lst []) from aI)) q2⟩
 ·obtain⟨_,_,h3⟩:=I.box b z
  rcases h3 with h3 |h3
  ·exact h2 h3
  ·rw[h1] at h3;cases h3
 ·obtain⟨j1,j2,_⟩:=J.box b e
  exact⟨j1,j2,(I.box b e).2.2⟩
 ·have w:=I.slot i s e
  cases s with
  |no=>trivial
  |fz d=>obtain⟨v,h1,h2⟩:=w;exact⟨v,h1,h2.mono J.old⟩
  |bx=>exact w
  |ow d=>
   obtain⟨a,h1,h2,h3,h4,h5⟩:=w
   exact⟨a,h1,h2,J.new a (up h5.mx) h3,h4,h5.mono J.old λo q=>mv a o q h4⟩
  |br d=>
   obtain⟨b1,a,h1,h4,hp,h5⟩:=w
   exact⟨b1,a,h1,h4,hp,h5.mono J.old λo q=>mv a o q h4⟩
def SR.updD {ys:List V}(J:SR Γ B G H σ env β)(hp:Da∈Γ.par)(h0:Mx Γ.H0 Da)(g0:Γ.G0 Da=none)(hB:B≠some Da):SR Γ B G (upd H Da (.lst ys)) σ env β:=by
 have gD:=J.new Da h0 g0
 refine⟨λb u q=>by rw[aH (λz=>by rw[z,gD] at q;cases q)];exact J.sub b u q,J.old,J.new,λb u q n=>by rw[aH (λz=>n (by rw[z];exact hp))];exact J.keep b u q n,λb hb=>?_,J.fix,λb e=>?_,J.len,λi s e=>?_,J.sep⟩
 ·by_cases z:b=Da
  ·subst z;exact Mx.lst aI
  ·exact (J.pin b hb).same λo e=>by rw[aH z];exact e
 ·obtain⟨h1,h2⟩:=J.box b e
  exact⟨by rw[aH (λz=>hB (by rw[<-z];exact e))];exact h1,h2⟩
 ·have w:=J.slot i s e
  cases s with
  |no=>trivial
  |fz d=>exact w
  |bx=>exact w
  |ow d=>
   obtain⟨a,h1,h2,h3,h4,h5⟩:=w
   have aD:a≠Da:=λz=>h0.1 (by rw[<-z];exact h2)
   exact⟨a,h1,h2,h3,h4,h5.mono (aC.refl _) λo q=>by rw[aH aD];exact q⟩
  |br d=>
   obtain⟨b1,a,h1,h4,hpa,h5⟩:=w
   have aD:a≠Da:=λz=>hpa (by rw[z];exact hp)
   exact⟨b1,a,h1,h4,hpa,h5.mono (aC.refl _) λo q=>by rw[aH aD];exact q⟩
end
def R.okb {α γ:Type}(r:R α)(k:α->Int->R γ):R γ:=match r with
 | .ok a β=>k a β
 |_=>.bad
def gO (t:Tg)(ft:VF Bool)(fe:VF D)(vs:List Nv):List D->Int->R (List D)
 | [],β=>.ok [] β
 |d :: ds,β=>match mw t d vs with
  |none=>.bad
  |some vs1=>(ft vs1 β).okb λc β1=>if c=true then (fe vs1 β1).okb λx β2=>(gO t ft fe vs ds β2).okb λxs β3=>.ok (x :: xs) β3 else gO t ft fe vs ds β1
def aN (own:Nat)(ixs:List Nat)(t:Tg)(fi:VF (List D))(ft:VF Bool)(fe:VF D):VF D:=λvs β=>(fi vs β).bnd λds β1=>if ds.length<=sizeLine then (gO t ft fe (dg own ixs vs) ds β1).okb λxs β2=>.ok (.list xs) β2 else .bad
def kU:VF Bool:=λ_ β=>.ok true β
def Hj (own:Nat)(ixs Lc:List Nat)(j:Nat):Bool:=decide (j < own) || (match ixs[j - own]? with
 |some i=>Lc.contains i
 |none=>false)
theorem Fi {α γ:Type}{Γ:Fx}{E:XK}{r:R α}{k:α->Int->R γ}{P:γ->Int->Prop}(h:Out Γ E (r.okb k) P):∃a β,r=.ok a β/\Out Γ E (k a β) P:=by
 cases r with
 |ok a β=>exact⟨a,β,rfl,h⟩
 |exc c=>exact h.elim
 |bad=>exact h.elim
section
variable {X:Cx}{Γ:Fx}{E:XK}{tg iter elt:Expr}{ifs:List Expr}{scope:Scope}{NB:List Str}{own:Nat}{ixs Li Lc Lt Le:List Nat}{t:Tg}{fi:VF (List D)}{ft:VF Bool}{fe:VF D}{pos:Pos}
def eB {X:Cx}{Γ:Fx}{E:XK}:Dl X [] (qT Γ E kU []):=λpins s σ H Q I ⟨env,G,B,β,J,o⟩=>uG pins s σ H Q I (o G H J (aC.refl _) (iY.refl _ _))
def fH {X:Cx}{Γ:Fx}{E:XK}{c:Expr}{ta:VF Bool}{L:List Nat}(h:Bb X Γ E c ta L):Dl X [c] (qT Γ E ta L):=Ad h
def kQ {NB:List Str}{scope:Scope}{C:Addr}{ex:List Addr}{s3:Shared}{H3:Hp}{pn:List (Addr×Obj)}{P:Program}{w:World}:Passes (pw P w) (jx X NB scope C ex s3 H3 pn) E0:=λpins σ H s e s' I h=>by
 obtain⟨_,_,_,_,_,_,_,_,_,q⟩:=h
 exact q.elim
abbrev gU (Γ:Fx)(t:Tg):TG:=λv σ H Q=>∃H0 G0 par br bx,gT (Γ.jx H0 G0 par br bx) t v σ H Q
abbrev tU (Γ:Fx)(own:Nat)(ixs Lc:List Nat)(ft:VF Bool)(Lt:List Nat):TT:=λσ H Q=>∃H0 G0 par br bx,(∀j,Hj own ixs Lc j=true->br j=false)/\qT (Γ.jx H0 G0 par br bx) E0 ft Lt σ H Q
abbrev eU (Γ:Fx)(own:Nat)(ixs Lc:List Nat)(fe:VF D)(Le:List Nat):TE:=λσ H Q=>∃H0 G0 par br bx,(∀j,Hj own ixs Lc j=true->br j=false)/\pT (Γ.jx H0 G0 par br bx) E0 fe Le .v σ H Q
def Hd {σ:St}{H:Hp}{Q:VK}(hLc:∀i,i∈Lc->Γ.br i=false)(h:pT Γ E (aN own ixs t fi ft fe) (Li ++ Lc) .w σ H Q):yY own ixs (iT Γ E fi Li .b) (gU Γ t) (tU Γ own ixs Lc ft Lt) (eU Γ own ixs Lc fe Le) σ H Q:=by
 obtain⟨env,G,B,β,I,o⟩:=h
 refine⟨env,G,B,β,I,o.bnd.imp λds β1 h J G1 H1 I1 s1 m1 wk Da hD=>?_⟩
 have wk:Walk Γ.K B G1 H1 ds J:=wk
 by_cases hz:ds.length<=sizeLine
 case neg=>rw[NV hz] at h;exact h.elim
 rw[NN hz] at h
 obtain⟨xs0,β0,e0,h⟩:=Fi h
 have h:∀v G' H',SR Γ B G' H' σ (bp (Li ++ Lc) env) β0->aC G G'->iY B H H'->VO Γ.K B H G' H' .w (.list xs0) v->Q v H':=h
 obtain⟨G2,I2,s2⟩:=I1.bp Lc hLc
 rw[<-b9] at I2
 obtain⟨q1,q2,q3,q4⟩:=I2.fresh hD
 have Ib0:=I2.block own ixs hD
 generalize hbr:yq (benv own ixs (bp (Li ++ Lc) env))=br at Ib0
 have hbo:∀j,Hj own ixs Lc j=true->br j=false:=by
  intro j hj
  rw[<-hbr]
  unfold yq
  split
  ·rename_i d e
   exfalso
   unfold benv at e
   by_cases hjo:j < own
   ·rw[Oh (by simpa using hjo),Pk,NN hjo] at e;cases e
   ·rw[Ol (by simpa using hjo),PV,NW] at e
    unfold Hj at hj
    rw[NZ hjo,Bool.false_or] at hj
    cases ek:ixs[j - own]? with
    |none=>rw[ek] at hj;cases hj
    |some k=>
     rw[ek] at hj e
     have hk:k∈Lc:=by simpa using hj
     have e:J0 (bp (Li ++ Lc) env)[k]? =.br d:=Option.some.inj e
     cases q:(bp (Li ++ Lc) env)[k]? with
     |none=>rw[q] at e;cases e
     |some s=>
      rw[q] at e
      cases s with
      |no=>cases e
      |fz _=>cases e
      |bx=>cases e
      |br d'=>
       obtain⟨b1,_⟩:=I2.slot k _ q
       rw[hLc k hk] at b1;cases b1
      |ow d'=>
       rw[b9] at q
       have key:∀(M:List Nat) (en:En),k∈M->∀d',(bp M en)[k]?≠some (.ow d'):=by
        intro M
        induction M with
        |nil=>intro en hm;cases hm
        |cons i M ih=>
         intro en hm d' z
         rcases NO.mp hm with y |y
         ·subst y
          have z1:(gQ en k)[k]? =some (.ow d'):=qm (L:=M) z
          have z2:=tS z1
          unfold gQ at z1
          rw[z2] at z1
          dsimp only at z1
          rw[Oc (N0.mp z2).1] at z1;cases z1
         ·exact ih (gQ en i) y d' z
       exact key Lc _ hk d' q
  ·rfl
 have evb:vl (benv own ixs (bp (Li ++ Lc) env))=dg own ixs (vl env):=by rw[FW,dQ]
 refine⟨λi n σ' H'=>n=ds.length - i/\i<=ds.length/\∃envb Gc β' acc accd,SR (Γ.jx (upd H1 Da (.lst [])) G2 (Da :: B.toList) br B) B Gc H' σ' envb β'/\(envb=benv own ixs (bp (Li ++ Lc) env)\/∃d,eT t d (benv own ixs (bp (Li ++ Lc) env))=some envb)/\
   H' Da=some (.lst acc)/\cF Γ.K Gc acc accd/\accd.length<=i/\∃xs,gO t ft fe (dg own ixs (vl env)) (ds.drop i) β'=.ok xs β0/\accd ++ xs=xs0,
  ⟨ds.length,by simp,Ov _,_,G2,β1,[],[],Ib0,.inl rfl,aI,.nil,Ov _,xs0,by rw[List.drop_zero];exact e0,rfl⟩,?_⟩
 rintro i n σ' H' ⟨rfl,hi',envb,Gc,β',acc,accd,Ib,eb,hacc,racc,lacc,xs,ec,exs⟩
 obtain⟨Io,mv,gD⟩:=I2.unblock hD Ib
 obtain⟨w1,w2⟩:=wk Gc H' i (s2.trans Ib.old) Ib.sub mv
 by_cases hlt:i < ds.length
 ·obtain⟨go,yl⟩:=w1 hlt
  refine .inr ⟨go,λσ' H'=>∃envb Gc β' acc accd,SR (Γ.jx (upd H1 Da (.lst [])) G2 (Da :: B.toList) br B) B Gc H' σ' envb β'/\(envb=benv own ixs (bp (Li ++ Lc) env)\/∃d,eT t d (benv own ixs (bp (Li ++ Lc) env))=some envb)/\
   H' Da=some (.lst acc)/\cF Γ.K Gc acc accd/\accd.length<=i + 1/\∃xs,gO t ft fe (dg own ixs (vl env)) (ds.drop (i + 1)) β'=.ok xs β0/\accd ++ xs=xs0,λσ2 H2 hh=>⟨ds.length - (i + 1),by omega,rfl,hlt,hh⟩,λx H2 y=>?_⟩
  obtain⟨G3,d,x3,ed,rd⟩:=yl x H2 y
  have I3:=Ib.ext x3
  have ed':ds[i]=d:=by rw[NK hlt] at ed;exact Option.some.inj ed
  rw[Qy hlt,ed'] at ec
  unfold gO at ec
  cases ebv:mw t d (dg own ixs (vl env)) with
  |none=>rw[ebv] at ec;cases ec
  |some vs1=>
   rw[ebv] at ec
   dsimp only at ec
   obtain⟨env1,eb1,ev1⟩:∃env1,eT t d (benv own ixs (bp (Li ++ Lc) env))=some env1/\vl env1=vs1:=by
    have:=Fu t d (benv own ixs (bp (Li ++ Lc) env))
    rw[evb,ebv] at this
    cases q:eT t d (benv own ixs (bp (Li ++ Lc) env)) with
    |none=>rw[q] at this;cases this
    |some env1=>rw[q] at this;exact⟨env1,rfl,Option.some.inj this⟩
   have eb2:eT t d envb=some env1:=by
    rcases eb with rfl | ⟨d0,eb⟩
    ·exact eb1
    ·rw[Ay eb];exact eb1
   have no1:yL env1:=Bl (sU _ _ _) eb1
   have a2:H2 Da=some (.lst acc):=x3.hh _ _ hacc
   refine⟨_,_,_,_,_,envb,G3,B,β',d,env1,I3,rd,eb2,λσ3 I4=>?_⟩
   refine⟨_,_,_,_,_,hbo,env1,G3,B,β',I4,?_⟩
   rw[ev1]
   cases et:ft vs1 β' with
   |exc c=>rw[et] at ec;cases ec
   |bad=>rw[et] at ec;cases ec
   |ok c β2=>
    rw[et] at ec
    intro G4 H4 I5 s4 m4
    rw[wx no1] at I5
    have a4:H4 Da=some (.lst acc):=m4 _ _ a2 q3
    cases c with
    |false=>
     refine rX ⟨env1,G4,β2,acc,accd,I5,.inr ⟨d,eb1⟩,a4,racc.mono (x3.gg.trans s4),by omega,xs,?_,exs⟩
     exact ec
    |true=>
     refine rV ⟨_,_,_,_,_,hbo,env1,G4,B,β2,I5,?_⟩
     rw[ev1]
     have ec:((fe vs1 β2).okb λx β3=>(gO t ft fe (dg own ixs (vl env)) (ds.drop (i + 1)) β3).okb λxs β4=>R.ok (x :: xs) β4)=R.ok xs β0:=ec
     cases ee:fe vs1 β2 with
     |exc c=>rw[ee] at ec;cases ec
     |bad=>rw[ee] at ec;cases ec
     |ok dx β3=>
      rw[ee] at ec
      intro v G5 H5 I6 s5 m5 vo
      rw[wx no1] at I6
      have a5:H5 Da=some (.lst acc):=m5 _ _ a4 q3
      have ec:((gO t ft fe (dg own ixs (vl env)) (ds.drop (i + 1)) β3).okb λxs β4=>R.ok (dx :: xs) β4)=R.ok xs β0:=ec
      cases er:gO t ft fe (dg own ixs (vl env)) (ds.drop (i + 1)) β3 with
      |exc c=>rw[er] at ec;cases ec
      |bad=>rw[er] at ec;cases ec
      |ok ys β4=>
       rw[er] at ec
       cases ec
       refine⟨acc,a5,by rw[racc.len];omega,env1,G5,β3,acc ++ [v],accd ++ [dx],?_,.inr ⟨d,eb1⟩,aI,(racc.mono ((x3.gg.trans s4).trans s5)).snoc vo,by rw[Of];simp;omega,ys,er,by rw[<-exs,OS];rfl⟩
       refine I6.updD (NR ..) (Mx.lst (show upd H1 Da (.lst []) Da=some (.lst []) from aI)) (I2.sub.free hD) q3
 ·have e:i=ds.length:=by omega
  subst e
  rw[List.drop_length] at ec
  cases ec
  rw[PD] at exs
  subst exs
  refine .inl ⟨w2 (NQ _),⟨acc,hacc⟩,h _ Gc H' Io ((s1.trans s2).trans Ib.old) (m1.trans mv) ⟨Da,rfl,fS m1 I1.boxThere hD,gD,acc,hacc,racc⟩⟩
def bU (hg:∀H0 G0 par br bx C ex s3 H3 pn,SG (jx X NB scope C ex s3 H3 pn) (Γ.jx H0 G0 par br bx) tg t)(C:Addr)(ex:List Addr)(s3:Shared)(H3:Hp)(pn:List (Addr×Obj)):PG (jx X NB scope C ex s3 H3 pn) tg (gU Γ t):=by
 rintro pins s σ H v u Q I r ⟨H0,G0,par,br,bx,q⟩
 exact hg H0 G0 par br bx C ex s3 H3 pn pins s σ H v u Q I r q
def cz (Lc:List Nat)(hc:X.calm=true)(S:dH X NB own ixs scope)(hLc:∀i,i∈Lc->Γ.br i=false)(hi:SI X Γ E tg iter fi Li .b)
  (hg:∀H0 G0 par br bx C ex s3 H3 pn,SG (jx X NB scope C ex s3 H3 pn) (Γ.jx H0 G0 par br bx) tg t)
  (ht:∀H0 G0 par br bx C ex s3 H3 pn,(∀j,Hj own ixs Lc j=true->br j=false)->Dl (jx X NB scope C ex s3 H3 pn) ifs (qT (Γ.jx H0 G0 par br bx) E0 ft Lt))
  (he:∀H0 G0 par br bx C ex s3 H3 pn,(∀j,Hj own ixs Lc j=true->br j=false)->SE (jx X NB scope C ex s3 H3 pn) (Γ.jx H0 G0 par br bx) E0 elt fe Le .v)
  (hs:∀x,foldedSetIterable iter X.env x=pure x:=by intro _;rfl) :
  SE X Γ E (.ListComp elt [⟨tg,iter,ifs,0⟩] scope pos) (aN own ixs t fi ft fe) (Li ++ Lc) .w:=by
 refine PE.post' (wO (g:=gU Γ t) (tt:=tU Γ own ixs Lc ft Lt) (te:=eU Γ own ixs Lc fe Le) hc S hi (bU hg) (λC ex s3 H3 pn=>?_) (λC ex s3 H3 pn=>?_) hs) λσ H Q h=>Hd hLc h
 ·rintro pins s σ H Q I ⟨H0,G0,par,br,bx,b,q⟩
  exact ht H0 G0 par br bx C ex s3 H3 pn b pins s σ H Q I q
 ·rintro pins s σ H Q I ⟨H0,G0,par,br,bx,b,q⟩
  exact he H0 G0 par br bx C ex s3 H3 pn b pins s σ H Q I q
def lZ {i:Nat}{y:Str}{py spos:Pos}(Lc:List Nat)(hc:X.calm=true)(S:dH X NB own ixs scope)(hLc:∀i,i∈Lc->Γ.br i=false)(hi:SI X Γ E tg iter fi Li .b)
  (hg:∀H0 G0 par br bx C ex s3 H3 pn,SG (jx X NB scope C ex s3 H3 pn) (Γ.jx H0 G0 par br bx) tg t)
  (ht:∀H0 G0 par br bx C ex s3 H3 pn,(∀j,Hj own ixs Lc j=true->br j=false)->Dl (jx X NB scope C ex s3 H3 pn) ifs (qT (Γ.jx H0 G0 par br bx) E0 ft Lt))
  (he:∀H0 G0 par br bx C ex s3 H3 pn,(∀j,Hj own ixs Lc j=true->br j=false)->SE (jx X NB scope C ex s3 H3 pn) (Γ.jx H0 G0 par br bx) E0 elt fe Le .v)
  (hN:X.N.Nodup) (hy:X.N[i]? =some y:=by rfl) (hl:X.env.scope.names.lookup y=some .local:=by rfl)
  (hsw:swapsWith (.ListComp elt [⟨tg,iter,ifs,0⟩] scope pos) (some (.Name y py)) spos.line X.env=pure true:=by rfl)
  (hs:∀x,foldedSetIterable iter X.env x=pure x:=by intro _;rfl) :
  SS X Γ E (.Assign [.Name y py] (.ListComp elt [⟨tg,iter,ifs,0⟩] scope pos) spos) (bg i (Li ++ Lc) (aN own ixs t fi ft fe)):=by
 refine PS.post (DL (g:=gU Γ t) (tt:=tU Γ own ixs Lc ft Lt) (te:=eU Γ own ixs Lc fe Le) hc S hi (bU hg) (λC ex s3 H3 pn=>?_) (λC ex s3 H3 pn=>?_) hN hy hl hsw hs) λN σ H ⟨env,G,B,β,I,o⟩=>?_
 ·rintro pins s σ H Q I ⟨H0,G0,par,br,bx,b,q⟩
  exact ht H0 G0 par br bx C ex s3 H3 pn b pins s σ H Q I q
 ·rintro pins s σ H Q I ⟨H0,G0,par,br,bx,b,q⟩
  exact he H0 G0 par br bx C ex s3 H3 pn b pins s σ H Q I q
 refine Hd hLc ⟨env,G,B,β,I,cy o λd β' k v G' H' I' s' m' vo=>?_⟩
 obtain⟨G2,I2,s2,r⟩:=I.letW I' vo
 exact k B G2 H' _ (I2.set' i r) (s'.trans s2)
end
def fin:SO->FR
 | .nx _ _=>.ok .none false
 | .rt d fr _=>.ok d fr
 | .exc c=>.exc c
 |_=>.bad
def An (n:Nat)(ds:List D):En:=ds.map Sl.fz ++ List.replicate (n - ds.length) .no
def ba (n p:Nat)(m:SF):List D->FR:=λds=>if ds.length=p then fin (m (An n ds) 0) else .bad
abbrev Fx.fn (K:Frag)(H G:Hp)(ca:Str->Addr):Fx:=⟨K,H,G,[],ca,λ_=>false,none⟩
def SR.start {K:Frag}{H G:Hp}{ca:Str->Addr}{N:List Str}{vs:List V}{ds:List D}(s:aC G H)(r:cF K G vs ds)(hn:ds.length<=N.length):SR (Fx.fn K H G ca) none G H (start N vs) (An N.length ds) 0:=by
 have hl:=r.len
 refine⟨s,aC.refl _,λb _ h=>h,λb o h _=>h,λb h=>(by cases h),λb h=>(by cases h),λb h=>(by cases h),?_,λi t e=>?_,λi j a d e h=>?_⟩
 ·unfold L2.start An;simp;omega
 ·unfold An at e
  by_cases hi:i < ds.length
  ·rw[Oh (by simpa using hi),NW,NK hi] at e
   cases e
   obtain⟨x,hx,rx⟩:=r.at (NK hi)
   refine⟨x,?_,rx⟩
   unfold L2.start
   rw[Oh (by simpa[hl] using hi),NW,hx];rfl
  ·rw[Ol (by simpa using hi),Pk] at e
   split at e
   ·cases e;trivial
   ·cases e
 ·unfold An at h
  have hm:=N6 h
  rcases Ob.mp hm with z |z
  ·obtain⟨_,_,z⟩:=NY.mp z;cases z
  ·have:=QC z;cases this
section
variable {P:Program}{w:World}{K:Frag}{mg:Str->Option Value}{base:Heap}{ca:Str->Addr}
def aQ {x qual:Str}{st:Stmt}{f:Addr}{fd:FuncData}{N ps:List Str}{k:Nat}{m:SF}(F:Eu K x qual st f fd)(S:aK N ps (ay st))
  (hbody:∀(cdv:Value) (A:Around) (outer:List Env) (s:Shared) (H G:Hp) (E:XK),fX k (A.deeper (envOfC qual (ay st) s.heap.objs.size f cdv))->Ew (ml (pw P w) P w K mg base N qual (ay st) f cdv A outer s H E) (Fx.fn K H G ca) E (df st) m) :
  gN P w K mg base (pw P w) (k + 1) f fd ps (Es K ca ps.length (ba N.length ps.length m)):=by
 have hpn:ps.length<=N.length:=by have:=congrArg List.length S.pre;rw[Pe] at this;omega
 refine F.vh S (λvs H Q E h=>?_) (λcdv A outer s H vs Q E hr h=>?_)
 ·obtain⟨G,ds,sG,hl,r,_⟩:=h
  rw[r.len];exact hl
 ·obtain⟨G,ds,sG,hl,r,h⟩:=h
  refine⟨_,hbody cdv A outer s H G E hr,?_⟩
  have I:=SR.start (ca:=ca) (N:=N) sG r (by omega)
  refine⟨_,G,none,0,I,?_⟩
  unfold ba at h
  rw[NN hl] at h
  have fin':∀{B G' H' σ env β},SR (Fx.fn K H G ca) B G' H' σ env β->aC H H':=λJ b o e=>J.keep b o e (λz=>by cases z)
  cases q:m (An N.length ds) 0 with
  |nx env β=>rw[q] at h;exact λB G' H' σ J s'=>h .non G' H' (fin' J) s' J.sub (λb h1 h2=>J.new b h1 h2) Rp.non
  |bk env β=>rw[q] at h;exact h.elim
  |ct env β=>rw[q] at h;exact h.elim
  |rt d fr β=>
   rw[q] at h
   refine λB G' H' σ env v J s' rv=>h v G' H' (fin' J) s' J.sub (λb h1 h2=>J.new b h1 h2) ?_
   cases fr with
   |true=>exact rv
   |false=>exact rv
  |exc c=>rw[q] at h;exact λH' kp=>h H' λb o e=>kp b o e (λz=>by cases z)
  |bad=>rw[q] at h;exact h.elim
def E7 {n:Nat}{F F':List D->FR}(h:∀ds,ds.length=n->F' ds≠.bad->F ds=F' ds){vs:List V}{H:Hp}{Q:VK}{E:XK}(q:Es K ca n F' vs H Q E):Es K ca n F vs H Q E:=by
 obtain⟨G,ds,s,hl,r,q⟩:=q
 refine⟨G,ds,s,hl,r,?_⟩
 by_cases hb:F' ds=.bad
 ·rw[hb] at q;exact q.elim
 ·rw[h ds hl hb];exact q
def bR.imp {x:Str}{ps:List Str}{k:Nat}{F F':List D->FR}(h:bR P w K mg base ca x ps k F)(i:∀ds,F' ds≠.bad->F ds=F' ds):bR P w K mg base ca x ps k F':=by
 obtain⟨f,fd,a,b,c,d⟩:=h.ex
 exact⟨⟨f,fd,a,b,c,d.imp λvs H Q E q=>E7 (λds _=>i ds) q⟩,λds hn=>h.len ds (by rw[i ds hn];exact hn)⟩
def aM {n p:Nat}{m:SF}(ds:List D)(h:ba n p m ds≠.bad):ds.length=p:=by
 unfold ba at h
 by_cases hl:ds.length=p
 ·exact hl
 ·rw[NV hl] at h;exact absurd rfl h
def pU {N:List Str}{qual:Str}{scope:Scope}{f:Addr}{cd:Value}{A:Around}{outer:List Env}{s0:Shared}{H0:Hp}{E:XK}{Γ:Fx}{x:Str}{C:Addr}{np cpos pos:Pos}{e0:Expr}{es:List Expr}{fr:VF (List D)}{L:List Nat}(q:PySem.W.excIn K C [.type "ValueError",.type "Exception",.type "BaseException",.type "object"] "ValueError.__new__"=true)(hca:Γ.ca x=C)
  (hg:Gl (ml (pw P w) P w K mg base N qual scope f cd A outer s0 H0 E) x) (hm:mg x=some (.ref C)) (ha:SA (ml (pw P w) P w K mg base N qual scope f cd A outer s0 H0 E) Γ E (e0 :: es) fr L)
  (he:starEach (e0 :: es) (envOfC qual scope s0.heap.objs.size f cd)=(false,eval e0 (envOfC qual scope s0.heap.objs.size f cd)) :: starEach es (envOfC qual scope s0.heap.objs.size f cd):=by rfl)
  (hpl:(backTo cpos (starEach es (envOfC qual scope s0.heap.objs.size f cd))).any (·.1)=false:=by rfl) (hdb:(x == ("__debug__":Str))=false:=by decide) :
  SS (ml (pw P w) P w K mg base N qual scope f cd A outer s0 H0 E) Γ E (.Raise (some (.Call (.Name x np) (e0 :: es) [] cpos)) none pos) (λenv β=>toS (fr (vl env) β) λds _=>if ds.length<=sizeLine then .exc x else .bad):=by
 refine PS.post (CV PySem.F.excBase_ValueError (by decide +kernel) q hg hm ha he hpl hdb) λD σ H ⟨env,G,B,β,I,o⟩=>?_
 refine⟨env,G,B,β,I,cy o λds β' k vs G' H' I' s' m' r=>?_⟩
 by_cases hz:ds.length<=sizeLine
 ·rw[NN hz] at k
  refine⟨by rw[r.len];exact hz,?_⟩
  have:=k H' (I'.kp (aC.refl _))
  rw[hca] at this
  exact this
 ·rw[NV hz] at k;exact k.elim
end
section
variable {X:Cx}{Γ:Fx}{E:XK}{e a b c:Expr}{f fa fb:VF D}{L La Lb:List Nat}{md ma mb:Md}{pos apos cpos np:Pos}
def qq:Option Sl->Bool
 |some (.ow (.list _))=>true
 |_=>false
theorem nF {o:Option Sl}(h:qq o=true):∃ds,o=some (.ow (.list ds)):=by
 cases o with
 |none=>cases h
 |some s=>
  cases s with
  |ow d=>cases d with
   |list ds=>exact⟨ds,rfl⟩
   |_=>cases h
  |_=>cases h
def G6 (i:Nat)(env:En)(β:Int)(g:List D->Option (List D)):SO:=match env[i]? with
 |some (.ow (.list ds))=>(match g ds with
  |some es=>.nx (env.set i (.ow (.list es))) β
  |none=>.bad)
 |_=>.bad
def jA (i:Nat)(L:List Nat)(f:VF D):SF:=λenv β=>if qq env[i]? =true then toS (f (vl env) β) λd β'=>G6 i (bp L env) β' λds=>if ds.length < sizeLine then some (ds ++ [d]) else none else .bad
def pK {Γ:Fx}{E:XK}{G:Hp}{N:Ends}{i:Nat}{env:En}{β:Int}{g:List D->Option (List D)}(h:r6 Γ E G N (G6 i env β g)):∃ds es,env[i]? =some (.ow (.list ds))/\g ds=some es/\r6 Γ E G N (.nx (env.set i (.ow (.list es))) β):=by
 unfold G6 at h
 split at h
 ·rename_i ds q
  cases e:g ds with
  |none=>rw[e] at h;exact h.elim
  |some es=>rw[e] at h;exact⟨ds,es,q,e,h⟩
 ·exact h.elim
def fL (i:Nat){x:Str}(hb:∀j,Γ.br j=false)(he:SE X Γ E e f L .v)(hN:X.N[i]? =some x:=by rfl)(hv:AF X.env.scope x:=by first |exact Or.inl rfl |exact Or.inr (Or.inl rfl) |exact Or.inr (Or.inr rfl))(hd:(x == ("__debug__":Str))=false:=by decide)
  (hcd:(x == ("__classdict__":Str))=false:=by decide)
  (hbase:attributeBase (.Name x np) "append" X.env (eval (.Name x np) X.env)=eval (.Name x np) X.env:=by rfl)
  (hfew:((backTo cpos (starEach [e] X.env)).all (λx=> !x.1) && (backToKw cpos (keywordEach [] X.env)).all (λx=>x.1.isSome)
   && decide ([e].length + ([]:List Keyword).length + (if ([]:List Keyword).isEmpty then 0 else 1) < 30))=true:=by rfl)
  (hline:(apos.endLine == cpos.line)=true:=by rfl) (hs:starEach [e] X.env=(false,eval e X.env) :: starEach [] X.env:=by rfl)
  (hsw:swapsWith (.Call (.Attribute (.Name x np) "append" apos) [e] [] cpos) none pos.line X.env=pure false:=by rfl) :
  SS X Γ E (.Expr (.Call (.Attribute (.Name x np) "append" apos) [e] [] cpos) pos) (jA i L f):=by
 refine PS.post (pC (zz Qg PySem.F.slot_list_append PySem.F.type_list_append ot (jC hN hv hd hcd) (aS he bJ hs) hbase hfew hline hs rfl) hsw) λN σ H ⟨env,G,B,β,I,o⟩=>?_
 unfold jA at o
 by_cases hO:qq env[i]? =true
 case neg=>rw[NV hO] at o;exact o.elim
 rw[NN hO] at o
 obtain⟨ds0,q0⟩:=nF hO
 obtain⟨p,h1,_,_,_,xs,h5,_⟩:=I.slot i _ q0
 refine⟨_,h1,.inl ⟨rfl,xs,.inl (.inl h5)⟩,?_⟩
 refine⟨env,G,B,β,I,cy o λd β' k v G' H' I' s' m' vo=>?_⟩
 obtain⟨ds,es,q,eg,k⟩:=pK k
 by_cases hz:ds.length < sizeLine
 case neg=>rw[NV hz] at eg;cases eg
 rw[NN hz] at eg
 cases eg
 obtain⟨p',g1,_,_,_,ys,g5,g6⟩:=I'.slot i _ q
 rw[h1] at g1;cases g1
 refine⟨p,ys,v,rfl,rfl,g5,by rw[g6.len];exact hz,?_⟩
 exact k B G' _ σ (I'.write hb q h1 λH2 e2 s2=>⟨_,e2,g6.snoc vo⟩) s'
def Lg:V->List V->Hp->VK->Prop:=λx vs H Q=>∃l b xs zs,x=.ref l/\vs= [.ref b]/\H l=some (.lst xs)/\Rd H b (.lst zs)/\xs.length + zs.length<=sizeLine/\Q .non (upd H l (.lst (xs ++ zs)))
def Inv.lstR {pins:List (Addr×Obj)}{σ:St}{H:Hp}{s:Shared}{l:Addr}{xs:List V}(I:Inv X pins σ H s)(hH:Rd H l (.lst xs)):xs.length<=sizeLine/\∃(its:List Value) (n:Nat),Vals xs its/\xs.length=its.length/\s.heap.get? l=some {cls:=.type "list",data:=.seq its.toArray n}:=by
 obtain⟨z,its,n,r,e⟩:=hH.ok I.hok
 exact⟨z,its,n,r,r.length,e⟩
def EW:Kz X "list.extend" Lg:=by
 intro pins s σ H x vs v us Q I rx rv h
 obtain⟨l,b,xs,zs,rfl,rfl,hH,hB,hz,q⟩:=h
 cases rx
 obtain⟨u,rfl,ru⟩:=rv.one
 cases ru
 obtain⟨z,its,n,r,hl,e⟩:=I.lstM hH
 obtain⟨z2,its2,n2,r2,hl2,e2⟩:=I.lstR hB
 have hsz:its.toArray.size + its2.toArray.size<=sizeLine:=by rw[Od,Od];omega
 have hlong:¬(!its.toArray.isEmpty && Builtin.List.listTooLong (its.toArray.size + its2.toArray.size))=true:=by
  rw[w8 hsz,Bool.and_false]
  exact Og
 refine call_meets F.slot_list_extend ⟨_,e,rfl⟩ F.entry_list_extend (F.args_list_extend_2 _ _)
  (AutoSeq1.list_extend_list_list_0 l its.toArray n b its2.toArray n2 hlong (by rw[Od];omega) (by omega)) ⟨e,e2,?_⟩
 refine⟨.non,_,I.lset (its':=its ++ its2) hH e (by simp) (r.append r2) ?_,rfl,q⟩
 rw[Of]
 omega
def A5 (i:Nat)(L:List Nat)(f:VF D):SF:=λenv β=>if qq env[i]? =true then toS (f (vl env) β) λd β'=>G6 i (bp L env) β' λds=>match d with
 | .list es=>if ds.length + es.length<=sizeLine then some (ds ++ es) else none
 |_=>none else .bad
theorem AU (i:Nat){x:Str}(hb:∀j,Γ.br j=false)(he:SE X Γ E e f L md)(hN:X.N[i]? =some x:=by rfl)(hv:AF X.env.scope x:=by first |exact Or.inl rfl |exact Or.inr (Or.inl rfl) |exact Or.inr (Or.inr rfl))(hd:(x == ("__debug__":Str))=false:=by decide)
  (hcd:(x == ("__classdict__":Str))=false:=by decide)
  (hbase:attributeBase (.Name x np) "extend" X.env (eval (.Name x np) X.env)=eval (.Name x np) X.env:=by rfl)
  (hfew:((backTo cpos (starEach [e] X.env)).all (λx=> !x.1) && (backToKw cpos (keywordEach [] X.env)).all (λx=>x.1.isSome)
   && decide ([e].length + ([]:List Keyword).length + (if ([]:List Keyword).isEmpty then 0 else 1) < 30))=true:=by rfl)
  (hline:(apos.endLine == cpos.line)=true:=by rfl) (hs:starEach [e] X.env=(false,eval e X.env) :: starEach [] X.env:=by rfl)
  (hsw:swapsWith (.Call (.Attribute (.Name x np) "extend" apos) [e] [] cpos) none pos.line X.env=pure false:=by rfl) :
  SS X Γ E (.Expr (.Call (.Attribute (.Name x np) "extend" apos) [e] [] cpos) pos) (A5 i L f):=by
 refine PS.post (pC (zz Qg PySem.F.slot_list_extend PySem.F.type_list_extend EW (jC hN hv hd hcd) (aS he bJ hs) hbase hfew hline hs rfl) hsw) λN σ H ⟨env,G,B,β,I,o⟩=>?_
 unfold A5 at o
 by_cases hO:qq env[i]? =true
 case neg=>rw[NV hO] at o;exact o.elim
 rw[NN hO] at o
 obtain⟨ds0,q0⟩:=nF hO
 obtain⟨p,h1,_,_,_,xs,h5,_⟩:=I.slot i _ q0
 refine⟨_,h1,.inl ⟨rfl,xs,.inl (.inl h5)⟩,?_⟩
 refine⟨env,G,B,β,I,cy o λd β' k v G' H' I' s' m' vo=>?_⟩
 obtain⟨ds,es,q,eg,k⟩:=pK k
 cases d with
 |list fs=>
  dsimp only at eg
  by_cases hz:ds.length + fs.length<=sizeLine
  case neg=>rw[NV hz] at eg;cases eg
  rw[NN hz] at eg
  cases eg
  obtain⟨p',g1,_,_,_,ys,g5,g6⟩:=I'.slot i _ q
  rw[h1] at g1;cases g1
  obtain⟨pb,zs,rfl,hq,rz⟩:=(vo.brw I.boxThere).list I'.sub
  refine⟨p,pb,ys,zs,rfl,rfl,g5,hq,by rw[g6.len,rz.len];exact hz,?_⟩
  exact k B G' _ σ (I'.write hb q h1 λH2 e2 s2=>⟨_,e2,g6.append rz⟩) s'
 |_=>cases eg
def nz (i:Nat)(Le Li:List Nat)(fe fi:VF D):SF:=λenv β=>toS (fe (vl env) β) λd β1=>if qq (bp Le env)[i]? =true then toS (fi (vl env) β1) λk β2=>G6 i (bp (Le ++ Li) env) β2 λds=>match k with
 | .int j=>(pQ ds.length j).map λn=>ds.set n d
 |_=>none else .bad
theorem tX (i:Nat){x:Str}{spos:Pos}(hb:∀j,Γ.br j=false)(he:SE X Γ E e f La .v)(hi:SE X Γ E a fa Lb mb)(hN:X.N[i]? =some x:=by rfl)(hv:AF X.env.scope x:=by first |exact Or.inl rfl |exact Or.inr (Or.inl rfl) |exact Or.inr (Or.inr rfl))(hd:(x == ("__debug__":Str))=false:=by decide)
  (hcd:(x == ("__classdict__":Str))=false:=by decide)
  (hA:∀v,assign (.Subscript (.Name x np) a spos) X.env v=(do
   let ov <-holding [v] (eval (.Name x np) X.env)
   let iv <-holding [v,ov] (eval a X.env)
   standAt spos
   holding [v,ov,iv] (setItem ov iv v)
   release [v,ov,iv] []):=by intro _;rfl)
  (hs:swapsWithSole [.Subscript (.Name x np) a spos] e pos.line X.env=pure false:=by rfl) (hw:swappedStores [.Subscript (.Name x np) a spos] e X.env=pure none:=by rfl)
  (h1:(assignEach [.Subscript (.Name x np) a spos] X.env).map (·.2)= [assign (.Subscript (.Name x np) a spos) X.env]:=by rfl) :
  SS X Γ E (.Assign [.Subscript (.Name x np) a spos] e pos) (nz i La Lb f fa):=by
 refine PS.post (n9 he (u7 (jC hN hv hd hcd) hi set_list hA) hs hw h1) λN σ H ⟨env,G,B,β,I,o⟩=>?_
 refine⟨env,G,B,β,I,cy o λd β1 o v G1 H1 I1 s1 m1 vo=>?_⟩
 by_cases hO:qq (bp La env)[i]? =true
 case neg=>rw[NV hO] at o;exact o.elim
 rw[NN hO] at o
 obtain⟨ds0,q0⟩:=nF hO
 obtain⟨p,h1,_,_,_,xs,h5,_⟩:=I1.slot i _ q0
 refine⟨_,h1,bp La env,G1,B,β1,I1,?_⟩
 rw[dQ]
 refine cy o λk β2 o w G2 H2 I2 s2 m2 vi=>?_
 rw[<-b9] at I2
 obtain⟨ds,es,q,eg,o⟩:=pK o
 cases k with
 |int j=>
  dsimp only at eg
  obtain rfl:=(vi.brw I1.boxThere).int
  obtain⟨p',g1,_,_,_,ys,g5,g6⟩:=I2.slot i _ q
  rw[h1] at g1;cases g1
  cases en:pQ ds.length j with
  |none=>rw[en] at eg;cases eg
  |some n=>
   rw[en] at eg
   cases eg
   have vo:Rp Γ.K G1 v d:=vo
   refine⟨p,ys,j,n,rfl,rfl,g5,by rw[g6.len];exact en,?_⟩
   exact o B G2 _ σ (I2.write hb q h1 λH3 e3 s3=>⟨_,e3,g6.set (vo.mono s2) n⟩) (s1.trans s2)
 |_=>cases eg
end
section
variable {K:Frag}{X:Cx}
def o7 {g:Int->Int->V}{gd:D->D->Option D}(h:∀dx dy d,gd dx dy=some d->∃i j,dx=.int i/\dy=.int j/\∀G,Rp K G (g i j) d):nP K (tL g) gd .v:=by
 intro B G H x y dx dy d Q s hB bx by' e k
 obtain⟨i,j,rfl,rfl,r⟩:=h _ _ _ e
 obtain rfl:=bx.int
 obtain rfl:=by'.int
 exact⟨i,j,rfl,rfl,k _ G H (Ext.refl s) (r G)⟩
def zh {C:Int->Int->Prop}{g:Int->Int->V}{gd:D->D->Option D}(h:∀dx dy d,gd dx dy=some d->∃i j,dx=.int i/\dy=.int j/\C i j/\∀G,Rp K G (g i j) d):nP K (rI C g) gd .v:=by
 intro B G H x y dx dy d Q s hB bx by' e k
 obtain⟨i,j,rfl,rfl,c,r⟩:=h _ _ _ e
 obtain rfl:=bx.int
 obtain rfl:=by'.int
 exact⟨i,j,rfl,rfl,c,k _ G H (Ext.refl s) (r G)⟩
def gI (c:Int->Int->Bool)(g:Int->Int->D):D->D->Option D
 | .int i,.int j=>if c i j=true then some (g i j) else none
 |_,_=>none
def vf (g:Int->Int->D):D->D->Option D
 | .int i,.int j=>some (g i j)
 |_,_=>none
def zm {c:Int->Int->Bool}{g:Int->Int->D}{dx dy d:D}(h:gI c g dx dy=some d):∃i j,dx=.int i/\dy=.int j/\c i j=true/\d=g i j:=by
 unfold gI at h
 split at h
 ·split at h
  ·cases h;exact⟨_,_,rfl,rfl,by assumption,rfl⟩
  ·cases h
 ·cases h
def jy {g:Int->Int->D}{dx dy d:D}(h:vf g dx dy=some d):∃i j,dx=.int i/\dy=.int j/\d=g i j:=by
 unfold vf at h
 split at h
 ·cases h;exact⟨_,_,rfl,rfl,rfl⟩
 ·cases h
def mq:D->D->Option D:=vf λi j=>.int (i - j)
def zC:nP K (tL λi j=>.int (i - j)) mq .v:=o7 λdx dy d h=>by obtain⟨i,j,rfl,rfl,rfl⟩:=jy h;exact⟨i,j,rfl,rfl,λ_=>.int _⟩
def BP:D->D->Option D:=gI (λ_ j=>decide (0 < j) && decide (j < 1073741824)) λi j=>.int (i / j)
def GB:nP K (rI GI λi j=>.int (i / j)) BP .v:=zh λdx dy d h=>by obtain⟨i,j,rfl,rfl,c,rfl⟩:=zm h;exact⟨i,j,rfl,rfl,by simpa[GI] using c,λ_=>.int _⟩
def mY:D->D->Option D:=gI (λ_ j=>decide (0 < j)) λi j=>.int (i % j)
def tq:nP K (rI (λ_ j=>0 < j) λi j=>.int (i % j)) mY .v:=zh λdx dy d h=>by obtain⟨i,j,rfl,rfl,c,rfl⟩:=zm h;exact⟨i,j,rfl,rfl,by simpa using c,λ_=>.int _⟩
def HW (i j:Int):Bool:=decide (0<=j) && decide (j<=1000000) && decide (i.natAbs < 2 ^ 64)
def Fq {i j:Int}(h:HW i j=true):Hy i j:=by
 unfold HW at h
 simp only[N4,N2] at h
 exact⟨h.1.1,h.1.2,h.2⟩
def yh:D->D->Option D:=gI HW λi j=>.int (i * 2 ^ j.toNat)
def GX:nP K (rI Hy λi j=>.int (i * 2 ^ j.toNat)) yh .v:=zh λdx dy d h=>by obtain⟨i,j,rfl,rfl,c,rfl⟩:=zm h;exact⟨i,j,rfl,rfl,Fq c,λ_=>.int _⟩
def DB:D->D->Option D:=vf λi j=>.int (Builtin.bitAnd i j)
def KU:nP K (tL λi j=>.int (Builtin.bitAnd i j)) DB .v:=o7 λdx dy d h=>by obtain⟨i,j,rfl,rfl,rfl⟩:=jy h;exact⟨i,j,rfl,rfl,λ_=>.int _⟩
def LK:D->D->Option D:=vf λi j=>.int (Builtin.bitOr i j)
def Kk:nP K (tL λi j=>.int (Builtin.bitOr i j)) LK .v:=o7 λdx dy d h=>by obtain⟨i,j,rfl,rfl,rfl⟩:=jy h;exact⟨i,j,rfl,rfl,λ_=>.int _⟩
def zX:D->D->Option D:=vf λi j=>.bool (decide (i < j))
def C5:D->D->Option D:=vf λi j=>.bool (decide (i<=j))
def JS:D->D->Option D:=vf λi j=>.bool (decide (j < i))
def Mu:D->D->Option D:=vf λi j=>.bool (decide (j<=i))
def Cp:nP K (tL λi j=>.bl (decide (i < j))) zX .v:=o7 λdx dy d h=>by obtain⟨i,j,rfl,rfl,rfl⟩:=jy h;exact⟨i,j,rfl,rfl,λ_=>.bl _⟩
def HX:nP K (tL λi j=>.bl (decide (i<=j))) C5 .v:=o7 λdx dy d h=>by obtain⟨i,j,rfl,rfl,rfl⟩:=jy h;exact⟨i,j,rfl,rfl,λ_=>.bl _⟩
def L1:nP K (tL λi j=>.bl (decide (j < i))) JS .v:=o7 λdx dy d h=>by obtain⟨i,j,rfl,rfl,rfl⟩:=jy h;exact⟨i,j,rfl,rfl,λ_=>.bl _⟩
def Mm:nP K (tL λi j=>.bl (decide (j<=i))) Mu .v:=o7 λdx dy d h=>by obtain⟨i,j,rfl,rfl,rfl⟩:=jy h;exact⟨i,j,rfl,rfl,λ_=>.bl _⟩
mutual
theorem zL:∀d:D,d.canLay0=true->Df d=true
 | .none,_=>rfl
 | .bool _,_=>rfl
 | .int _,_=>rfl
 | .str _,_=>rfl
 | .list ds,h=>by simp only[PyData.canLay0] at h;simp only[Df];exact pS ds h
 | .tuple ds,h=>by simp only[PyData.canLay0] at h;simp only[Df];exact pS ds h
 | .dict _,h=>by simp[PyData.canLay0] at h
theorem pS:∀ds:List D,PyData.canLayAll0 ds=true->rR ds=true
 | [],_=>rfl
 |d :: ds,h=>by
  simp only[PyData.canLayAll0,N4] at h
  simp only[rR,N4]
  exact⟨zL d h.1,pS ds h.2⟩
end
def uT {d:D}(h:SeqAt.shaped d=true):Df d=true:=zL d (Pt h)
theorem zT:∀{ds:List D},(ds.all SeqAt.shaped)=true->rR ds=true
 | [],_=>rfl
 |d :: ds,h=>by
  rw[all_cons,N4] at h
  simp only[rR,N4]
  exact⟨uT h.1,zT h.2⟩
def cp (neg:Bool)(x y:D):Option D:=if (SeqAt.shaped x && SeqAt.shaped y)=true then some (.bool (if neg then !PyData.eqv x y else PyData.eqv x y)) else none
def dv {neg:Bool}:nP K (HQ K neg) (cp neg) .v:=by
 intro B G H x y dx dy d Q s hB bx by' e k
 unfold cp at e
 split at e
 ·rename_i h
  rw[N4] at h
  cases e
  exact⟨dx,dy,(bx.rpH s).rep (uT h.1),(by'.rpH s).rep (uT h.2),h.1,h.2,k _ G H (Ext.refl s) (.bl _)⟩
 ·cases e
def nZ (neg:Bool)(x y:D):Option D:=match kW y with
 |some ds=>if (SeqAt.shaped x && ds.all SeqAt.shaped)=true then some (.bool (if neg then !(ds.any λe=>PyData.eqv e x) else ds.any λe=>PyData.eqv e x)) else none
 |none=>none
theorem mK.seq {B:Option Addr}{G H:Hp}{v:V}{d:D}{ds:List D}(h:mK K B G H v d)(e:kW d=some ds)(s:aC G H):∃a xs,v=.ref a/\(gY K H a xs\/fV K H a xs)/\cF K G xs ds:=by
 cases d with
 |list l=>cases e;obtain⟨a,xs,e,q,r⟩:=h.list s;exact⟨a,xs,e,.inl (.inl q),r⟩
 |tuple l=>cases e;obtain⟨a,xs,e,q,r⟩:=h.tuple s;exact⟨a,xs,e,.inr q,r⟩
 |_=>cases e
theorem tM {neg:Bool}:nP K (HN K neg) (nZ neg) .v:=by
 intro B G H x y dx dy d Q s hB bx by' e k
 unfold nZ at e
 cases q:kW dy with
 |none=>rw[q] at e;cases e
 |some ds=>
  rw[q] at e
  dsimp only at e
  split at e
  ·rename_i h
   rw[N4] at h
   cases e
   obtain⟨a,xs,rfl,hq,r⟩:=by'.seq q s
   refine⟨a,xs,dx,ds,rfl,hq,(r.mono s).reps (zT h.2),(bx.rpH s).rep (uT h.1),h.1,λe he=>Oq.mp h.2 e he,k _ G H (Ext.refl s) (.bl _)⟩
  ·cases e
def Gb:D->Bool
 | .none=>true
 |_=>false
theorem cF.ints {G:Hp}:∀ns:List Int,cF K G (ns.map V.int) (ns.map int)
 | []=>.nil
 |n :: ns=>.cons (.int n) (cF.ints ns)
theorem BK.noNone {G:Hp}{kvs:List (Key×V)}{d:D}{r:List (D×D)}(h:BK K G kvs ((.none,d) :: r)):False:=by
 generalize e:(PyData.none,d) :: r=l at h
 cases h with
 |nil=>cases e
 | @cons k x xs d' ds _ _=>
  injection e with e1 _
  injection e1 with e2 _
  cases k <;> cases e2
theorem BN.noNone {G:Hp}{kvs:List (List Key×V)}{d:D}{r:List (D×D)}(h:BN K G kvs ((.none,d) :: r)):False:=by
 generalize e:(PyData.none,d) :: r=l at h
 cases h with
 |nil=>cases e
 | @cons k x xs d' ds _ _=>
  injection e with e1 _
  injection e1 with e2 _
  cases e2
def mK.scr {B:Option Addr}{G H:Hp}{v:V}{ds:List D}(h:mK K B G H v (.dict [(.none,.list ds)]))(s:aC G H):∃a xs,v=.ref a/\gY K H a xs/\cF K G xs ds:=by
 rcases h with h | ⟨a,rfl,n,h⟩
 ·cases h with
  | @scr a ns q=>exact⟨a,_,rfl,s.seq q,cF.ints ns⟩
  |dK _ r=>exact r.noNone.elim
  |dT _ r=>exact r.noNone.elim
 ·rcases h with⟨_,_,r⟩ | ⟨_,_,r⟩
  ·exact r.noNone.elim
  ·exact r.noNone.elim
def bo:D->D->Option D
 | .list ds,.int i=>ik ds i
 | .tuple ds,.int i=>ik ds i
 | .str z,.int i=>if z.length<=sizeLine then (ik z.cps.toList i).map λc=>.str ⟨#[c]⟩ else none
 | .dict [(.none,.list ds)],.int i=>ik ds i
 |_,_=>none
theorem ui {G:Hp}{xs:List V}{ds:List D}{i:Int}{d:D}(r:cF K G xs ds)(h:ik ds i=some d):∃x,ik xs i=some x/\Rp K G x d:=by
 unfold ik at h ⊢
 rw[r.len]
 cases e:pQ ds.length i with
 |none=>rw[e] at h;cases h
 |some j=>rw[e] at h;exact r.at h
theorem bB:nP K (Ng K) bo .v:=by
 intro B G H x y dx dy d Q s hB bx by' e k
 cases dx with
 |list ds=>
  cases dy with
  |int i=>
   obtain rfl:=by'.int
   obtain⟨a,xs,rfl,q,r⟩:=bx.list s
   obtain⟨v,ev,rv⟩:=ui r e
   exact .inl ⟨a,xs,i,v,rfl,rfl,.inl q,ev,k _ G H (Ext.refl s) rv⟩
  |_=>cases e
 |tuple ds=>
  cases dy with
  |int i=>
   obtain rfl:=by'.int
   obtain⟨a,xs,rfl,q,r⟩:=bx.tuple s
   obtain⟨v,ev,rv⟩:=ui r e
   exact .inr (.inl ⟨a,xs,i,v,rfl,rfl,q,ev,k _ G H (Ext.refl s) rv⟩)
  |_=>cases e
 |str z=>
  cases dy with
  |int i=>
   obtain rfl:=by'.int
   obtain rfl:=bx.str
   simp only[bo] at e
   split at e
   ·rename_i hz
    cases q:ik z.cps.toList i with
    |none=>rw[q] at e;cases e
    |some c=>rw[q] at e;cases e;exact .inr (.inr ⟨z,i,c,rfl,rfl,hz,q,k _ G H (Ext.refl s) (.str _)⟩)
   ·cases e
  |_=>cases e
 |none=>cases dy <;> cases e
 |bool b=>cases dy <;> cases e
 |int b=>cases dy <;> cases e
 |dict b=>
  obtain⟨ds,i,rfl,rfl,e⟩:∃ds i,b= [(.none,.list ds)]/\dy=.int i/\ik ds i=some d:=by
   unfold bo at e
   split at e
   ·contradiction
   ·contradiction
   ·contradiction
   ·rename_i h;cases h;exact⟨_,_,rfl,rfl,e⟩
   ·cases e
  obtain rfl:=by'.int
  obtain⟨a,xs,rfl,q,r⟩:=bx.scr s
  obtain⟨v,ev,rv⟩:=ui r e
  exact .inl ⟨a,xs,i,v,rfl,rfl,q,ev,k _ G H (Ext.refl s) rv⟩
def cc:D->Option D
 | .list ds=>some (.int ds.length)
 | .tuple ds=>some (.int ds.length)
 | .str z=>if z.length<=sizeLine then some (.int z.length) else none
 | .dict [(.none,.list ds)]=>some (.int ds.length)
 |_=>none
def MZ (K:Frag):List V->Hp->VK->Prop:=λxs H Q=>∃x n,xs= [x]/\JU K x H n/\Q (.int n) H
def gP:BS K (λx=>MZ K [x]) cc .v:=by
 intro B G H x dx d Q s hB bx e k
 unfold cc at e
 split at e
 ·cases e;obtain⟨a,xs,rfl,q,r⟩:=bx.list s;exact⟨_,_,rfl,.inl ⟨xs,.inl q,r.len.symm⟩,k _ G H (Ext.refl s) (.int _)⟩
 ·cases e;obtain⟨a,xs,rfl,q,r⟩:=bx.tuple s;exact⟨_,_,rfl,.inr ⟨xs,q,r.len.symm⟩,k _ G H (Ext.refl s) (.int _)⟩
 ·obtain rfl:=bx.str
  split at e
  ·rename_i hz;cases e;exact⟨_,_,rfl,⟨hz,rfl⟩,k _ G H (Ext.refl s) (.int _)⟩
  ·cases e
 ·cases e;obtain⟨a,xs,rfl,q,r⟩:=bx.scr s;exact⟨_,_,rfl,.inl ⟨xs,q,r.len.symm⟩,k _ G H (Ext.refl s) (.int _)⟩
 ·cases e
def lq:D->Option D
 | .list ds=>some (.tuple ds)
 | .tuple ds=>some (.tuple ds)
 |_=>none
theorem ng:BS K (λx H Q=>∃p ys,[x]= [.ref p]/\((gY K H p ys/\∀l,H l=none->Q (.ref l) (upd H l (.tup ys)))\/(fV K H p ys/\Q (.ref p) H))) lq .v:=by
 intro B G H x dx d Q s hB bx e k
 cases dx with
 |list ds=>
  cases e
  obtain⟨a,xs,rfl,q,r⟩:=bx.list s
  refine⟨a,xs,rfl,.inl ⟨.inl q,λl hl=>?_⟩⟩
  have x:=Ext.new s (o:=.tup xs) hl
  exact k _ _ _ x (.tup (.inl (.inl aI)) (r.mono x.gg))
 |tuple ds=>
  cases e
  rcases bx with bx | ⟨_,_,_,z⟩
  ·cases bx with
   | @tup a xs _ hq r=>exact⟨a,xs,rfl,.inr ⟨hq.grow s.grow,k _ G H (Ext.refl s) (.tup hq r)⟩⟩
  ·exact z.elim
 |_=>cases e
def Ho:D->Option D
 | .list ds=>some (.list ds)
 | .tuple ds=>some (.list ds)
 |_=>none
def IU:BS K (λx H Q=>∃p ys,[x]= [.ref p]/\(gY K H p ys\/fV K H p ys)/\∀l,H l=none->Q (.ref l) (upd H l (.lst ys))) Ho .w:=by
 intro B G H x dx d Q s hB bx e k
 obtain⟨ds,e1,rfl⟩:∃ds,kW dx=some ds/\d=.list ds:=by
  cases dx <;> cases e <;> exact⟨_,rfl,rfl⟩
 obtain⟨a,xs,rfl,hq,r⟩:=bx.seq e1 s
 refine⟨a,xs,rfl,hq,λl hl=>?_⟩
 exact k _ _ _ (Ext.own s (o:=.lst xs) hl) ⟨l,rfl,hl,s.free hl,xs,aI,r⟩
def lF:List D->Option (List Bool)
 | []=>some []
 | .bool b :: ds=>(lF ds).map (b :: ·)
 |_=>none
theorem sN {G:Hp}:∀{ds:List D} {bs:List Bool} {xs:List V},lF ds=some bs->cF K G xs ds->xs=bs.map V.bl
 | [],bs,xs,e,r=>by cases e;cases r;rfl
 | .bool b :: ds,bs,xs,e,r=>by
  cases r with
  |cons r1 r2=>
   cases r1
   simp only[lF] at e
   cases q:lF ds with
   |none=>rw[q] at e;cases e
   |some cs=>rw[q] at e;cases e;rw[sN q r2];rfl
 | .none :: _,_,_,e,_=>by cases e
 | .int _ :: _,_,_,e,_=>by cases e
 | .str _ :: _,_,_,e,_=>by cases e
 | .list _ :: _,_,_,e,_=>by cases e
 | .tuple _ :: _,_,_,e,_=>by cases e
 | .dict _ :: _,_,_,e,_=>by cases e
def de (f:List Bool->Bool):D->Option D
 | .list ds=>(lF ds).map λbs=>.bool (f bs)
 |_=>none
theorem me {f:List Bool->Bool}:BS K (λx=>yT K f [x]) (de f) .v:=by
 intro B G H x dx d Q s hB bx e k
 cases dx with
 |list ds=>
  simp only[de] at e
  cases q:lF ds with
  |none=>rw[q] at e;cases e
  |some bs=>
   rw[q] at e
   cases e
   obtain⟨a,xs,rfl,hq,r⟩:=bx.list s
   obtain rfl:=sN q r
   exact⟨a,bs,rfl,.inl hq,k _ G H (Ext.refl s) (.bl _)⟩
 |_=>cases e
def GY:R2:=λx y H Q=>∃l b xs zs,x=.ref l/\y=.ref b/\Rd H l (.lst xs)/\Rd H b (.lst zs)/\xs.length + zs.length<=sizeLine/\∀p,H p=none->Q (.ref p) (upd H p (.lst (xs ++ zs)))
def nI:mD X (binaryOp .Add) GY:=by
 intro pins s σ H x y v u Q I rx ry h
 obtain⟨l,b,xs,zs,rfl,rfl,hH,hB,hz,q⟩:=h
 cases rx
 cases ry
 obtain⟨z,its,n,r,hl,e⟩:=I.lstR hH
 obtain⟨z2,its2,n2,r2,hl2,e2⟩:=I.lstR hB
 refine PySem.P.add_list e e2 ?_ (by rw[Od,Od];omega)
 have ea:its.toArray ++ its2.toArray=(its ++ its2).toArray:=by simp
 rw[ea]
 exact⟨.ref _,_,I.lnew (t':=s.toks) (r.append r2) (by rw[Of];omega),rfl,q _ I.fresh⟩
def iZ:D->D->Option D
 | .list a,.list b=>if a.length + b.length<=sizeLine then some (.list (a ++ b)) else none
 |_,_=>none
def vR:nP K GY iZ .w:=by
 intro B G H x y dx dy d Q s hB bx by' e k
 cases dx <;> cases dy <;> first | (cases e;done) |skip
 rename_i a b
 simp only[iZ] at e
 split at e
 ·rename_i hz
  cases e
  obtain⟨p,xs,rfl,q1,r1⟩:=bx.list s
  obtain⟨p2,ys,rfl,q2,r2⟩:=by'.list s
  refine⟨p,p2,xs,ys,rfl,rfl,q1,q2,by rw[r1.len,r2.len];exact hz,λl hl=>?_⟩
  exact k _ _ _ (Ext.own s (o:=.lst (xs ++ ys)) hl) ⟨l,rfl,hl,s.free hl,_,aI,r1.append r2⟩
 ·cases e
def dh:D->D->Option D:=vf λi j=>.int (i + j)
def kl:nP K (tL λi j=>.int (i + j)) dh .v:=o7 λdx dy d h=>by obtain⟨i,j,rfl,rfl,rfl⟩:=jy h;exact⟨i,j,rfl,rfl,λ_=>.int _⟩
def dS:D->D->Option D:=gI (λi j=>(decide (-(2 ^ 64) < i) && decide (i < 2 ^ 64)) || (decide (-(2 ^ 64) < j) && decide (j < 2 ^ 64))) λi j=>.int (i * j)
def lA:nP K (rI CI λi j=>.int (i * j)) dS .v:=zh λdx dy d h=>by obtain⟨i,j,rfl,rfl,c,rfl⟩:=zm h;exact⟨i,j,rfl,rfl,by simpa[CI] using c,λ_=>.int _⟩
def pA:D->D->Option D
 | .list a,.int k=>if -(2 ^ 63)<=k/\k < 2 ^ 63/\a.length * k.toNat<=sizeLine then some (.list (List.replicate k.toNat a).flatten) else none
 |_,_=>none
def yC {a b:Expr}{fa fb:VF D}{La Lb:List Nat}{mb:Md}{Γ:Fx}{E:XK}{pos:Pos}(ha:SE X Γ E a fa La .w)(hb:SE X Γ E b fb Lb mb):SE X Γ E (.BinOp a .Mult b pos) (f2 fa fb pA) (La ++ Lb) .w:=by
 refine PE.post' (sP CF ha hb) λσ H Q ⟨env,G,B,β,I,o⟩=>?_
 refine⟨env,G,B,β,I,o.bnd.imp λd1 β1 h x G1 H1 I1 s1 m1 vx=>⟨bp La env,G1,B,β1,I1,?_⟩⟩
 rw[dQ]
 refine h.bnd.imp λd2 β2 h y G2 H2 I2 s2 m2 vy=>?_
 obtain⟨d,e,k⟩:=h.of
 rw[<-b9] at I2
 obtain⟨p,rfl,p1,p2,p3⟩:=vx
 have by':=vy.brw I1.boxThere
 cases d1 <;> cases d2 <;> first | (cases e;done) |skip
 rename_i l j
 obtain rfl:=by'.int
 simp only[pA] at e
 split at e
 ·rename_i hz
  cases e
  obtain⟨xs,q,r⟩:=p3
  obtain⟨q1,q2,q3,q4⟩:=I.fresh p1
  have r2:=r.mono s2
  refine⟨p,j,xs,rfl,rfl,m2 _ _ q q3,hz.1,hz.2.1,by rw[r.len];exact hz.2.2,λl hl=>?_⟩
  have x:=Ext.own I2.sub (o:=.lst (List.replicate j.toNat xs).flatten) hl
  exact k _ _ _ (I2.ext x) ((s1.trans s2).trans x.gg) ((m1.trans m2).trans (x.hh.mov B)) ⟨l,rfl,fS (m1.trans m2) I2.boxThere hl,I2.sub.free hl,_,aI,r2.rep⟩
 ·cases e
def mF:D->Option D
 | .int i=>some (.int (-i))
 |_=>none
theorem sv:BS K (rU λi=>.int (-i)) mF .v:=by
 intro B G H x dx d Q s hB bx e k
 cases dx with
 |int i=>cases e;obtain rfl:=bx.int;exact⟨i,rfl,k _ G H (Ext.refl s) (.int _)⟩
 |_=>cases e
def K1:D->String
 | .none=>"NoneType"
 | .bool _=>"bool"
 | .int _=>"int"
 | .str _=>"str"
 | .list _=>"list"
 | .tuple _=>"tuple"
 | .dict _=>"dict"
def DS (d:D)(T:String):Bool:=K1 d == T || (T == "int" && K1 d == "bool")
def dP:D->Bool
 | .dict ((.none,_) :: _)=>true
 |_=>false
def jz (T:String)(d:D):Option D:=if dP d=true then none else some (.bool (DS d T))
def Nt (K:Frag)(H:Hp)(x:V)(t:String):Prop:=Gy K H x t\/(t="dict"/\∃a kvs,x=.ref a/\H a=some (.dT kvs))
def Ln (K:Frag):List V->Hp->VK->Prop:=λxs H Q=>∃x T t b,xs= [x,.ty T]/\Nt K H x t/\PySem.W.kitOne K (.type t) (.type T)=some b/\Q (.bl b) H
def CN:dm X (.builtin "isinstance") (Ln X.K):=by
 intro pins s σ H xs us Q I r h
 obtain⟨x,T,t,b,rfl,ty,e,q⟩:=h
 rcases ty with ty | ⟨rfl,a,kvs,rfl,hk⟩
 ·exact CM pins s σ H _ us Q I r ⟨x,T,t,b,rfl,ty,e,q⟩
 ·obtain⟨u,c,rfl,rx,rc⟩:=vals2 r
  cases rc
  cases rx
  obtain⟨_,_,_,_,o,_,_,e2,ex,_⟩:=I.hok a _ hk
  exact OJ PySem.W.kitx_dict I.kIn ⟨o,e2,ex.1⟩ e (λz=>nomatch z) λtk=>⟨.bl b,H,I.tok tk,rfl,q⟩
theorem mK.ty {B:Option Addr}{G H:Hp}{v:V}{d:D}(h:mK K B G H v d)(s:aC G H)(n:dP d=false):Nt K H v (K1 d):=by
 cases d with
 |none=>obtain rfl:=h.none;exact .inl .non
 |bool b=>obtain rfl:=h.bool;exact .inl (.bl b)
 |int b=>obtain rfl:=h.int;exact .inl (.int b)
 |str b=>obtain rfl:=h.str;exact .inl (.str b)
 |list b=>obtain⟨a,xs,rfl,q,_⟩:=h.list s;exact .inl (.lst (.inl q))
 |tuple b=>obtain⟨a,xs,rfl,q,_⟩:=h.tuple s;exact .inl (.tup q)
 |dict b=>
  rcases h with h | ⟨a,rfl,_,h⟩
  ·cases h with
   |scr _=>cases n
   |dK q _=>exact .inl (.dic (s _ _ q))
   |dT q _=>exact .inr ⟨rfl,_,_,rfl,s _ _ q⟩
  ·rcases h with⟨_,q,_⟩ | ⟨_,q,_⟩
   ·exact .inl (.dic q)
   ·exact .inr ⟨rfl,_,_,rfl,q⟩
theorem K5 {d:D}{T:String}(hT:T∈ ["int","bool","str","list","tuple","dict"]):PySem.W.kitOne K (.type (K1 d)) (.type T)=some (DS d T):=by
 simp only[NO,OF,PF] at hT
 cases d with
 |dict l=>rcases hT with rfl |rfl |rfl |rfl |rfl |rfl <;> rfl
 |none=>rcases hT with rfl |rfl |rfl |rfl |rfl |rfl <;> rfl
 |bool _=>rcases hT with rfl |rfl |rfl |rfl |rfl |rfl <;> rfl
 |int _=>rcases hT with rfl |rfl |rfl |rfl |rfl |rfl <;> rfl
 |str _=>rcases hT with rfl |rfl |rfl |rfl |rfl |rfl <;> rfl
 |list _=>rcases hT with rfl |rfl |rfl |rfl |rfl |rfl <;> rfl
 |tuple _=>rcases hT with rfl |rfl |rfl |rfl |rfl |rfl <;> rfl
def mW {a:Expr}{fa:VF D}{La:List Nat}{ma:Md}{Γ:Fx}{E:XK}{pos p p2:Pos}(T:String){y:Str}(hT:T∈ ["int","bool","str","list","tuple","dict"])(hK:X.K=Γ.K)(hg:Gl X "isinstance")(hm:X.mg "isinstance"=none)(hgT:Gl X y)(hmT:X.mg y=none)(hvT:bootBuiltins y=some (.type T))(ha:SE X Γ E a fa La ma)
  (hnT:y≠"__name__":=by decide) (hdT:(y == ("__debug__":Str))=false:=by decide)
  (he:starEach [a,.Name y p2] X.env=(false,eval a X.env) :: starEach [.Name y p2] X.env:=by rfl) (he2:starEach [.Name y p2] X.env=(false,eval (.Name y p2) X.env) :: starEach [] X.env:=by rfl) (hpl:(backTo pos (starEach [.Name y p2] X.env)).any (·.1)=false:=by rfl) :
  SE X Γ E (.Call (.Name "isinstance" p) [a,.Name y p2] [] pos) (f1 fa (jz T)) La .v:=by
 refine PE.post' (jI CN hg hm (by decide +kernel) (aS ha (aS (FX hgT hmT hvT (show RelV (.ty T) _ from rfl) hnT hdT) bJ he2) he) (by decide) (by decide) he hpl) λσ H Q ⟨env,G,B,β,I,o⟩=>?_
 refine i5 (r:=λx H1 Q=>Ln X.K [x,.ty T] H1 Q) ?_ I o
 intro B G H x dx d Q s hB bx e k
 unfold jz at e
 split at e
 ·cases e
 ·rename_i hn
  cases e
  rw[hK]
  exact⟨x,T,K1 dx,DS dx T,rfl,bx.ty s (by simpa using hn),K5 hT,k _ G H (Ext.refl s) (.bl _)⟩
def j7 (fa fb fc:VF D)(g g':D->D->Option D):VF D:=λvs β=>(fa vs β).bnd λx β1=>(fb vs β1).bnd λy β2=>match g x y with
 |some (.bool true)=>(fc vs β2).bnd λz β3=>R.of (g' y z) β3
 |some (.bool false)=>.ok (.bool false) β2
 |_=>.bad
theorem v8 {a b c:Expr}{fa fb fc:VF D}{ma mb mc:Md}{Γ:Fx}{E:XK}{pos:Pos}{op op':CmpOp}{r r':R2}{g g':D->D->Option D}(ho:mD X (compareOp op) r)(ho':mD X (compareOp op') r')(pr:nP Γ.K r g .v)(pr':nP Γ.K r' g' .v)(ha:SE X Γ E a fa [] ma)(hb:SE X Γ E b fb [] mb)(hc:SE X Γ E c fc [] mc)
  (hm:lastMarks [op,op'] [b,c]=false:=by with_unfolding_all rfl):SE X Γ E (.Compare a [op,op'] [b,c] pos) (j7 fa fb fc g g') [] .v:=by
 refine PE.post' (Cu ho ho' ha hb hc hm) λσ H Q ⟨env,G,B,β,I,o⟩=>?_
 refine two (W:=λx y H2=>r x y H2 λz H3=>∃k,z=.bl k/\(if k=true then pT Γ E fc [] mc σ H3 λw' H4=>r' y w' H4 Q else Q (.bl false) H3)) I (o.bnd.imp λd1 β1 h=>h.bnd.imp λd2 β2 h x y G2 H2 I2 s2 m2 bx by'=>?_)
 obtain⟨cb,ec,h⟩:∃cb,g d1 d2=some (.bool cb)/\Out Γ E (if cb=true then (fc (vl env) β2).bnd λz β3=>R.of (g' d2 z) β3 else .ok (.bool false) β2) λd β'=>∀v G' H',SR Γ B G' H' σ (bp [] env) β'->aC G G'->iY B H H'->VO Γ.K B H G' H' .v d v->Q v H':=by
  split at h
  ·rename_i q;exact⟨true,q,by rw[NN rfl];exact h⟩
  ·rename_i q;exact⟨false,q,by rw[NV Og];exact h⟩
  ·exact h.elim
 refine pr B G2 H2 x y d1 d2 _ _ I2.sub I2.boxThere bx by' ec λv G' H' x' vo=>?_
 cases vo
 refine⟨cb,rfl,?_⟩
 have I3:=I2.ext x'
 cases cb with
 |false=>rw[NV Og] at h;exact rX (h _ G' H' I3 (s2.trans x'.gg) (m2.trans (x'.mov B)) (.bl false))
 |true=>
  rw[NN rfl] at h
  refine rV ⟨env,G',B,β2,I3,h.bnd.imp λd3 β3 h z G4 H4 I4 s4 m4 vz=>?_⟩
  obtain⟨d,e,k⟩:=h.of
  refine pr' B G4 H4 y z d2 d3 d Q I4.sub I4.boxThere (by'.mono (x'.gg.trans s4) ((x'.mov B).trans m4)) (vz.brw I3.boxThere) e λv G5 H5 x5 vo=>?_
  exact k v G5 H5 (I4.ext x5) (((s2.trans x'.gg).trans s4).trans x5.gg) (((m2.trans (x'.mov B)).trans m4).trans (x5.mov B)) vo
end
def fX.u1 {k:Nat}{A:Around}(r:fX k A):A.units + 100 < cLine:=by have:=r.un;omega
def Nf (N:List Str)(sc:Scope)(NB:List Str)(own:Nat)(ixs:List Nat)(scope:Scope):Bool:=
 decide (scope.kind=.function) && (scope.names.all λy=>decide (y.2≠.cell)) && (scope.names.all λy=>decide (scope.names.lookup y.1=some y.2)) &&
 (scope.names.all λy=>decide (y.2=.free->(sc.names.lookup y.1=some .cell\/sc.names.lookup y.1=some .free))) && decide NB.Nodup && decide (NB.length=own + ixs.length) &&
 ((List.range ixs.length).all λk=>decide (NB[own + k]? =N[ixs.getD k 0]?) && (match NB[own + k]? with |some x=>decide ((x,NameKind.free)∈scope.names) |none=>true))
def cj {X:Cx}{NB:List Str}{own:Nat}{ixs:List Nat}{scope:Scope}(h:Nf X.N X.env.scope NB own ixs scope=true):dH X NB own ixs scope:=by
 unfold Nf at h
 simp only[N4,Oq,N2,N9] at h
 obtain⟨⟨⟨⟨⟨⟨h1,h2⟩,h3⟩,h4⟩,h5⟩,h6⟩,h7⟩:=h
 refine⟨h1,h2,h3,h4,h5,h6,λk hk=>⟨(h7 k hk).1,λx hx=>?_⟩⟩
 have:=(h7 k hk).2
 rw[hx] at this
 simpa using this
section
variable {X:Cx}{Γ:Fx}{E:XK}{e a b c:Expr}{f fa fb fc:VF D}{L La Lb:List Nat}{md ma mb mc:Md}{pos:Pos}{K:Frag}
def tN (fa:VF D)(neg:Bool):VF Bool:=λvs β=>(fa vs β).bnd λx β1=>.ok (if neg then !Gb x else Gb x) β1
def oT (Γ:Fx)(E:XK)(f:VF (Option Int))(L:List Nat):TO:=λσ H Q=>∃env G B β,SR Γ B G H σ env β/\
 Out Γ E (f (vl env) β) λd β'=>∀G' H',SR Γ B G' H' σ (bp L env) β'->aC G G'->iY B H H'->Q d H'
def LU (X:Cx)(Γ:Fx)(E:XK)(e:Option Expr)(f:VF (Option Int))(L:List Nat):Prop:=PO X e (oT Γ E f L)
def zH:LU X Γ E none (λ_ β=>.ok none β) []:=λpins s σ H Q I ⟨env,G,B,β,J,o⟩=>GG pins s σ H Q I (o G H J (aC.refl _) (iY.refl _ _))
def Fm (fa:VF D):VF (Option Int):=λvs β=>(fa vs β).bnd λx β1=>match x with
 | .int i=>.ok (some i) β1
 |_=>.bad
theorem zw (ha:SE X Γ E a fa La ma):LU X Γ E (some a) (Fm fa) La:=λpins s σ H Q I ⟨env,G,B,β,J,o⟩=>by
 refine Ff ha pins s σ H Q I ⟨env,G,B,β,J,o.bnd.imp λd1 β1 h x G1 H1 I1 s1 m1 vx=>?_⟩
 cases d1 with
 |int i=>exact⟨i,(vx.brw J.boxThere).int,h G1 H1 I1 s1 m1⟩
 |_=>exact h.elim
def cutD (xs:List D)(lo hi:Option Int):List D:=(xs.drop (HT.sR xs.length 0 lo)).take (HT.sR xs.length xs.length hi - HT.sR xs.length 0 lo)
def Gp {G:Hp}{xs:List V}{ds:List D}(r:cF K G xs ds)(lo hi:Option Int):cF K G (yA xs lo hi) (cutD ds lo hi):=by
 unfold yA cutD
 rw[r.len]
 exact (r.drop _).take _
def FY (fa:VF D)(fl fh:VF (Option Int)):VF D:=λvs β=>(fa vs β).bnd λx β1=>(fl vs β1).bnd λl β2=>(fh vs β2).bnd λh β3=>match x with
 | .list ds=>.ok (.list (cutD ds l h)) β3
 |_=>.bad
theorem xl {lo hi:Option Expr}{fl fh:VF (Option Int)}{Ll Lh:List Nat}{p2:Pos}(hK:X.K=Γ.K)(ha:SE X Γ E a fa La ma)(hl:LU X Γ E lo fl Ll)(hh:LU X Γ E hi fh Lh):SE X Γ E (.Subscript a (.Slice lo hi none p2) pos) (FY fa fl fh) (La ++ Ll ++ Lh) .w:=by
 refine PE.post' (De FQ ha hl hh) λσ H Q ⟨env,G,B,β,I,o⟩=>?_
 refine⟨env,G,B,β,I,o.bnd.imp λd1 β1 h x G1 H1 I1 s1 m1 vx=>⟨bp La env,G1,B,β1,I1,?_⟩⟩
 rw[dQ]
 refine h.bnd.imp λl β2 h G2 H2 I2 s2 m2=>⟨bp Ll (bp La env),G2,B,β2,I2,?_⟩
 rw[dQ,dQ]
 refine h.bnd.imp λu β3 h G3 H3 I3 s3 m3=>?_
 rw[<-b9,<-b9,<-OS] at I3
 have bx:=((vx.brw I.boxThere).mono s2 m2).mono s3 m3
 cases d1 with
 |list ds=>
  obtain⟨p,xs,rfl,hq,r⟩:=bx.list I3.sub
  rw[hK]
  refine⟨p,xs,rfl,.inl hq,λq hn=>?_⟩
  have x:=Ext.own I3.sub (o:=.lst (yA xs l u)) hn
  exact h _ _ _ (I3.ext x) ((s1.trans s2).trans s3) (((m1.trans m2).trans m3).trans (x.mov B)) ⟨q,rfl,fS ((m1.trans m2).trans m3) I3.boxThere hn,I3.sub.free hn,_,aI,Gp r l u⟩
 |_=>exact h.elim
def JC:nP K (λx y H Q=>∃i j,[x,y]= [.int i,.int j]/\Q (.int (if j > i then j else i)) H) (vf λi j=>.int (if j > i then j else i)) .v:=by
 intro B G H x y dx dy d Q s hB bx by' e k
 obtain⟨i,j,rfl,rfl,rfl⟩:=jy e
 obtain rfl:=bx.int
 obtain rfl:=by'.int
 exact⟨i,j,rfl,k _ G H (Ext.refl s) (.int _)⟩
def HF:nP K (λx y H Q=>∃i j,[x,y]= [.int i,.int j]/\Q (.int (if j < i then j else i)) H) (vf λi j=>.int (if j < i then j else i)) .v:=by
 intro B G H x y dx dy d Q s hB bx by' e k
 obtain⟨i,j,rfl,rfl,rfl⟩:=jy e
 obtain rfl:=bx.int
 obtain rfl:=by'.int
 exact⟨i,j,rfl,k _ G H (Ext.refl s) (.int _)⟩
end
structure iA (K:Frag)(mg:Str->Option Value)(x:Str)(st:Stmt)(ps:List Str)(f:Addr)(fd:FuncData):Prop where
 mg:mg x=some (.ref f)
 F:Eu K x x st f fd
 b:Binds K fd ps []
structure Exc (K:Frag)(mg:Str->Option Value)(ca:Str->Addr)(x:Str):Prop where
 mg:mg x=some (.ref (ca x))
 ex:PySem.W.excIn K (ca x) [.type "ValueError",.type "Exception",.type "BaseException",.type "object"] "ValueError.__new__"=true
def Exc.ca {K:Frag}{mg:Str->Option Value}{ca:Str->Addr}{x:Str}(h:Exc K mg ca x):ca x=ca x:=rfl
structure iQ (mg:Str->Option Value):Prop where
 len:mg "len"=none
 range:mg "range"=none
 enumerate:mg "enumerate"=none
 zip:mg "zip"=none
 min:mg "min"=none
 max:mg "max"=none
 sum:mg "sum"=none
 abs:mg "abs"=none
 sorted:mg "sorted"=none
 reversed:mg "reversed"=none
 int:mg "int"=none
 str:mg "str"=none
 bool:mg "bool"=none
 list:mg "list"=none
 tuple:mg "tuple"=none
 dict:mg "dict"=none
 set:mg "set"=none
 isinstance:mg "isinstance"=none
 repr:mg "repr"=none
 any:mg "any"=none
 all:mg "all"=none
 divmod:mg "divmod"=none
inductive FB where
 |ok (d:D) (fresh:Bool) (β:Int)
 |bad
def Kf (K:Frag)(n:Nat)(F:List D->Int->FB):Sp:=λvs H Q _=>∃b rest G ds β,vs=.ref b :: rest/\H b=some (.lst [.int β])/\G b=none/\aC G H/\ds.length=n/\cF K G rest ds/\match F ds β with
 | .ok d fr β'=>∀v G' H',iY (some b) H H'->H' b=some (.lst [.int β'])->aC G G'->aC G' H'->(∀c,Mx H c->G c=none->G' c=none)->FV K H G' H' fr d v->Q v H'
 | .bad=>False
structure sg (P:Program)(w:World)(K:Frag)(mg:Str->Option Value)(base:Heap)(x:Str)(ps:List Str)(k:Nat)(F:List D->Int->FB):Prop where
 ex:∃f fd,mg x=some (.ref f)/\PySem.W.keepIn K (.ref f)=true/\Binds K fd ps []/\gN P w K mg base (pw P w) k f fd ps (Kf K (ps.length - 1) F)
 len:∀ds β,F ds β≠.bad->ds.length=ps.length - 1
def wg (vs:List Nv)(i:Nat):Bool:=match vs[i]? with
 |some .bx=>true
 |_=>false
def mj (i:Nat)(F:List D->Int->FB)(fr:VF (List D)):VF D:=λvs β=>if wg vs i=true then (fr vs β).bnd λds β1=>match F ds β1 with
 | .ok d _ β2=>.ok d β2
 | .bad=>.bad else .bad
def ML (i:Nat)(F:List D->Int->FB)(fr:VF (List D)):VF D:=λvs β=>if wg vs i=true then (fr vs β).bnd λds β1=>match F ds β1 with
 | .ok d true β2=>.ok d β2
 |_=>.bad else .bad
section
variable {X:Cx}{Γ:Fx}{E:XK}{e a b c:Expr}{f fa fb fc:VF D}{L La Lb:List Nat}{md ma mb mc:Md}{pos:Pos}{K:Frag}{es:List Expr}{fr:VF (List D)}
def GH {env:En}{i:Nat}(h:wg (vl env) i=true):env[i]? =some .bx:=by
 unfold wg at h
 split at h
 ·exact KG (by assumption)
 ·cases h
def Fj {env:En}{i j:Nat}{d:D}(h:(gQ env i)[j]? =some (.br d)):env[j]? =some (.br d):=by
 unfold gQ at h
 split at h
 ·rename_i d' e
  by_cases z:i=j
  ·subst z
   rw[Oc (N0.mp e).1] at h;cases h
  ·rw[N8 z] at h;exact h
 ·exact h
theorem Ie {L:List Nat}{env:En}{j:Nat}{d:D}(h:(bp L env)[j]? =some (.br d)):env[j]? =some (.br d):=by
 unfold bp at h
 induction L generalizing env with
 |nil=>exact h
 |cons i L ih=>exact Fj (ih h)
def SR.calledB {p:Addr}{β β':Int}{G1 H1 G2 H2:Hp}{σ:St}{env:En}(I1:SR Γ (some p) G1 H1 σ env β)(h:iY (some p) H1 H2)(hp:H2 p=some (.lst [.int β']))(g:aC G1 G2)(s:aC G2 H2)(n:∀b,Mx H1 b->G1 b=none->G2 b=none):SR Γ (some p) G2 H2 σ env β':=by
 obtain⟨b1,b2,b3⟩:=I1.box p rfl
 refine⟨s,I1.old.trans g,λb n1 n2=>n b (I1.thereM n1) (I1.new b n1 n2),λb o e np=>h b o (I1.keep b o e np) λz=>?_,λb hb=>?_,I1.fix,λb e=>?_,I1.len,λi t e=>?_,I1.sep⟩
 ·cases z
  rcases b3 with b3 |b3
  ·exact np b3
  ·rw[e] at b3;cases b3
 ·by_cases z:p=b
  ·subst z;exact Mx.lst hp
  ·exact (I1.pin b hb).same λo q=>h b o q λy=>z (Option.some.inj y)
 ·cases e
  exact⟨hp,n p (Mx.lst b1) b2,b3⟩
 ·have q:=I1.slot i t e
  cases t with
  |no=>trivial
  |fz d=>obtain⟨v,h1,h2⟩:=q;exact⟨v,h1,h2.mono g⟩
  |ow d=>
   obtain⟨c,h1,h2,h3,h4,h5⟩:=q
   exact⟨c,h1,h2,n c h5.mx h3,h4,h5.mono g λo q=>h c o q h4⟩
  |bx=>exact q
  |br d=>obtain⟨b1,c,h1,h4,hpp,h5⟩:=q;exact⟨b1,c,h1,h4,hpp,h5.mono g λo q=>h c o q h4⟩
theorem Fv {F:List D->Int->FB}{ps:List Str}{Q:VK}{B:Option Addr}{G H:Hp}{σ:St}{env:En}{β:Int}{i:Nat}{p:Addr}(I:SR Γ B G H σ env β)(hK:X.K=Γ.K)(hp:B=some p){wv:Bool}
  (h:Out Γ E (fr (vl env) β) λds β1=>Out Γ E (match F ds β1 with
   | .ok d true β2=>.ok d β2
   | .ok d false β2=>if wv=true then .bad else .ok d β2
   | .bad=>.bad) λd β'=>∀v G' H',SR Γ B G' H' σ (bp L env) β'->aC G G'->iY B H H'->VO Γ.K B H G' H' (if wv=true then .w else .v) d v->Q v H') (hl:∀ds β,F ds β≠.bad->ds.length=ps.length - 1) :
  aT Γ E fr L σ H λvs H1=>Kf X.K (ps.length - 1) F (.ref p :: vs) H1 Q E:=by
 subst hp
 refine⟨env,G,_,β,I,h.imp λds β1 k vs G1 H1 I1 s1 m1 r=>?_⟩
 obtain⟨b1,b2,b3⟩:=I1.box p rfl
 refine⟨p,vs,G1,ds,β1,rfl,b1,b2,I1.sub,hl ds β1 λz=>by rw[z] at k;exact k,by rw[hK];exact r,?_⟩
 cases q:F ds β1 with
 |bad=>rw[q] at k;exact k
 |ok d fr' β2=>
  rw[q] at k
  intro v G' H' hh hb hg hs hn fv
  have I2:=I1.calledB hh hb hg hs hn
  cases fr' with
  |true=>
   obtain⟨c,rfl,p1,p2,p3⟩:∃a,v=.ref a/\H1 a=none/\G' a=none/\Own X.K G' H' a d:=fv
   rw[hK] at p3
   have hp:=fS m1 I1.boxThere p1
   cases wv with
   |true=>exact k _ G' H' I2 (s1.trans hg) (m1.trans hh) ⟨c,rfl,hp,p2,p3⟩
   |false=>
    obtain⟨q1,q2,q3,q4⟩:=I1.fresh p1
    obtain⟨G3,I3,s3,r3⟩:=I2.letIn q1 p2 q3 q4 p3
    exact k _ G3 H' I3 ((s1.trans hg).trans s3) (m1.trans hh) r3
  |false=>
   cases wv with
   |true=>exact k.elim
   |false=>
    have fv:Rp X.K G' v d:=fv
    rw[hK] at fv
    exact k _ G' H' I2 (s1.trans hg) (m1.trans hh) fv
theorem Ir {F:List D->Int->FB}{ps:List Str}{Q:VK}{i:Nat}{σ:St}{H:Hp}(hK:X.K=Γ.K){wv:Bool}(hl:∀ds β,F ds β≠.bad->ds.length=ps.length - 1)(h:pT Γ E (if wv=true then ML i F fr else mj i F fr) L (if wv=true then .w else .v) σ H Q) :
  FN i σ H λx H1=>aT Γ E fr L σ H1 λvs H2=>Kf X.K (ps.length - 1) F (x :: vs) H2 Q E:=by
 obtain⟨env,G,B,β,I,o⟩:=h
 have hi:wg (vl env) i=true:=by
  by_cases hi:wg (vl env) i=true
  ·exact hi
  ·exfalso
   cases wv with
   |true=>simp only[OP] at o;unfold ML at o;rw[NV hi] at o;exact o
   |false=>simp only[Oa,OC] at o;unfold mj at o;rw[NV hi] at o;exact o
 obtain⟨p,e1,e2⟩:=I.slot i _ (GH hi)
 refine⟨.ref p,e1,Fv (i:=i) (ps:=ps) I hK e2 (wv:=wv) ?_ hl⟩
 cases wv with
 |true=>
  simp only[OP] at o ⊢
  unfold ML at o
  rw[NN hi] at o
  refine o.bnd.imp λds β1 h=>?_
  cases q:F ds β1 with
  |bad=>rw[q] at h;exact h
  |ok d b β2=>rw[q] at h;cases b <;> exact h
 |false=>
  simp only[Oa,OC] at o ⊢
  unfold mj at o
  rw[NN hi] at o
  refine o.bnd.imp λds β1 h=>?_
  cases q:F ds β1 with
  |bad=>rw[q] at h;exact h
  |ok d b β2=>rw[q] at h;cases b <;> exact h
def la {x y:Str}{ps:List Str}{k:Nat}{F:List D->Int->FB}{p np:Pos}(i:Nat)(hf:sg X.prog X.w X.K X.mg X.base x ps k F)(hr:fX k X.A)(hx:Passes (pw X.prog X.w) X E)(hK:X.K=Γ.K)(hg:Gl X x)(ha:SA X Γ E es fr L)(hN:X.N[i]? =some y:=by rfl)(hv:AF X.env.scope y:=by first |exact Or.inl rfl |exact Or.inr (Or.inl rfl) |exact Or.inr (Or.inr rfl))(hd:(y == ("__debug__":Str))=false:=by decide)
  (hcd:(y == ("__classdict__":Str))=false:=by decide) (hdb:(x == ("__debug__":Str))=false:=by decide)
  (he:starEach (.Name y np :: es) X.env=(false,eval (.Name y np) X.env) :: starEach es X.env:=by rfl) (hpl:(backTo pos (starEach es X.env)).any (·.1)=false:=by rfl):SE X Γ E (.Call (.Name x p) (.Name y np :: es) [] pos) (mj i F fr) L .v:=by
 obtain⟨f,fd,hm,hk,hb,hF⟩:=hf.ex
 refine PE.post' (pN (dvs:=[]) hF hr hg hm hk hb .nil hx (aS (jC hN hv hd hcd) ha he) hdb he hpl) λσ H Q h=>?_
 have:=Ir (Q:=Q) (wv:=false) (ps:=ps) hK hf.len (by simpa using h)
 show FN i σ H λx H1=>aT Γ E fr L σ H1 λvs H2=>Kf X.K (ps.length - 1) F ((x :: vs) ++ []) H2 Q E
 simpa using this
def CG:D->Option Int
 | .list [.int z]=>some z
 |_=>none
def FZ {d:D}{z:Int}(h:CG d=some z):d=.list [.int z]:=by
 unfold CG at h
 split at h
 ·cases h;rfl
 ·cases h
def NJ (f0:VF D)(F:List D->Int->FB)(n:Int):VF D:=λvs β=>(f0 vs β).bnd λd0 β1=>match CG d0 with
 |some z=>(match F [.int n] z with
  | .ok d _ _=>.ok d β1
  | .bad=>.bad)
 |none=>.bad
def sh (env:En):En:=env.map λs=>match s with
 | .bx=>.no
 |s=>s
theorem DV {env:En}{i:Nat}{s:Sl}(h:(sh env)[i]? =some s)(n:s≠.no):env[i]? =some s/\s≠.bx:=by
 unfold sh at h
 rw[NW] at h
 cases e:env[i]? with
 |none=>rw[e] at h;cases h
 |some t=>
  rw[e] at h
  have h:=Option.some.inj h
  cases t with
  |bx=>exact absurd h.symm n
  |no=>exact absurd h.symm n
  |fz d=>subst h;exact⟨rfl,λz=>by cases z⟩
  |ow d=>subst h;exact⟨rfl,λz=>by cases z⟩
  |br d=>subst h;exact⟨rfl,λz=>by cases z⟩
def zu (i:Nat)(L:List Nat)(f:VF D):SF:=λenv β=>toS (f (vl env) β) λd _=>match CG d with
 |some z=>.nx ((sh (bp L env)).set i .bx) z
 |none=>.bad
theorem FG {i:Nat}{x:Str}{pos':Pos}(hbx:Γ.bx=none)(he:SE X Γ E e f L .w)(hN:X.N.Nodup)(hi:X.N[i]? =some x:=by rfl)(hx:Loc X.env.scope x:=by first |exact Or.inl rfl |exact Or.inr rfl)(hs:swapsWith e (some (.Name x pos')) pos.line X.env=pure false:=by rfl)(hf:X.fn x=true\/X.env.scope.names.lookup x=some .local:=by first |exact .inl rfl |exact .inr rfl |assumption) :
  SS X Γ E (.Assign [.Name x pos'] e pos) (zu i L f):=by
 refine PS.post (rf hN hi hx he hs hf) λN σ H ⟨env,G,B,β,I,o⟩=>?_
 refine⟨env,G,B,β,I,cy o λd β' k v G' H' I' s' m' vo=>?_⟩
 cases q:CG d with
 |none=>rw[q] at k;exact k.elim
 |some z=>
  rw[q] at k
  obtain rfl:=FZ q
  obtain⟨p,rfl,h1,h2,xs,h3,r⟩:=vo
  have hx2:H' p=some (.lst [.int z]):=by
   cases r with
   |cons r1 r2=>
    cases r1
    cases r2
    exact h3
  obtain⟨q1,q2,q3,q4⟩:=I.fresh h1
  refine k (some p) G' H' _ ⟨I'.sub,I'.old,I'.new,I'.keep,I'.pin,λb e=>(by rw[hbx] at e;cases e),λb e=>?_,?_,λj t e=>?_,λj j' c d1 d2 e1 e2 e3 e4=>?_⟩ s'
  ·cases e;exact⟨hx2,h2,.inr q1⟩
  ·rw[OW,OW];unfold sh;rw[NT];exact I'.len
  ·by_cases hj:j=i
   ·subst hj
    by_cases hl:j < (sh (bp L env)).length
    ·rw[Oc hl] at e
     cases e
     refine⟨p,?_,rfl⟩
     rw[Oc]
     rw[I'.len];unfold sh at hl;simpa using hl
    ·rw[Pd (by rw[OW];omega)] at e;cases e
   ·rw[N8 (Ne.symm hj)] at e ⊢
    by_cases hn:t=.no
    ·subst hn;trivial
    ·obtain⟨e1,nb⟩:=DV e hn
     have w:=I'.slot j t e1
     cases t with
     |no=>trivial
     |fz d=>exact w
     |bx=>exact absurd rfl nb
     |ow d=>
      obtain⟨a',g1,g2,g3,g4,g5⟩:=w
      exact⟨a',g1,g2,g3,λy=>q4 j d (qm e1) (by cases y;exact g1),g5⟩
     |br d=>
      obtain⟨b1,a',g1,g4,hpp,g5⟩:=w
      have e0:env[j]? =some (.br d):=Ie e1
      obtain⟨_,a2,f1,_,_,f5⟩:=I.slot j _ e0
      rw[g1] at f1;cases f1
      obtain⟨o,ho⟩:=f5.obj
      exact⟨b1,a',g1,λy=>(by cases y;rw[h1] at ho;cases ho),hpp,g5⟩
  ·have back:∀{j:Nat} {d1:D},((sh (bp L env)).set i Sl.bx)[j]? =some (.ow d1)->j≠i/\(bp L env)[j]? =some (.ow d1):=λ{j d1} e=>by
    by_cases hj:j=i
    ·subst hj
     by_cases hl:j < (sh (bp L env)).length
     ·rw[Oc hl] at e;cases e
     ·rw[Pd (by rw[OW];omega)] at e;cases e
    ·rw[N8 (Ne.symm hj)] at e
     exact⟨hj,(DV e (λy=>by cases y)).1⟩
   obtain⟨n1,w1⟩:=back e1
   obtain⟨n2,w2⟩:=back e2
   rw[N8 (Ne.symm n1)] at e3
   rw[N8 (Ne.symm n2)] at e4
   exact I'.sep j j' c d1 d2 w1 w2 e3 e4
end
section
variable {P:Program}{w:World}{K:Frag}{mg:Str->Option Value}{base:Heap}{ca:Str->Addr}
def Gq:SO->FB
 | .nx _ β=>.ok .none false β
 | .rt d fr β=>.ok d fr β
 |_=>.bad
def xN (n:Nat)(ds:List D):En:=.bx :: ds.map Sl.fz ++ List.replicate (n - 1 - ds.length) .no
def wZ (n p:Nat)(m:SF):List D->Int->FB:=λds β=>if ds.length=p then Gq (m (xN n ds) β) else .bad
abbrev Fx.fb (K:Frag)(H G:Hp)(ca:Str->Addr)(b:Addr):Fx:=⟨K,H,G,[b],ca,λ_=>false,some b⟩
def SR.startB {H G:Hp}{N:List Str}{b:Addr}{vs:List V}{ds:List D}{β:Int}(s:aC G H)(hb:H b=some (.lst [.int β]))(gb:G b=none)(r:cF K G vs ds)(hn:ds.length + 1<=N.length):SR (Fx.fb K H G ca b) (some b) G H (L2.start N (.ref b :: vs)) (xN N.length ds) β:=by
 have hl:=r.len
 refine⟨s,aC.refl _,λc _ h=>h,λc o h _=>h,λc h=>?_,λc h=>h,λc h=>?_,?_,λi t e=>?_,λi j a d e h=>?_⟩
 ·have:c=b:=by simpa using h
  subst this;exact Mx.lst hb
 ·cases h;exact⟨hb,gb,.inl (by simp)⟩
 ·unfold L2.start xN;simp;omega
 ·cases i with
  |zero=>
   unfold xN at e
   cases e
   exact⟨b,rfl,rfl⟩
  |succ i=>
   unfold xN at e
   have e:(ds.map Sl.fz ++ List.replicate (N.length - 1 - ds.length) Sl.no)[i]? =some t:=by simpa using e
   by_cases hi:i < ds.length
   ·rw[Oh (by simpa using hi),NW,NK hi] at e
    cases e
    obtain⟨x,hx,rx⟩:=r.at (NK hi)
    refine⟨x,?_,rx⟩
    unfold L2.start
    have hi':i < vs.length:=by rw[hl];exact hi
    rw[Oh (by simp;exact hi'),NW,List.getElem?_cons_succ,hx];rfl
   ·rw[Ol (by simpa using hi),Pk] at e
    split at e
    ·cases e;trivial
    ·cases e
 ·unfold xN at h
  have hm:=N6 h
  rcases NO.mp hm with z |hm
  ·cases z
  rcases Ob.mp hm with z |z
  ·obtain⟨_,_,z⟩:=NY.mp z;cases z
  ·have:=QC z;cases this
def wj {x qual:Str}{st:Stmt}{f:Addr}{fd:FuncData}{N:List Str}{ps:List Str}{k:Nat}{m:SF}(F:Eu K x qual st f fd)(S:aK N ps (ay st))(hp:1<=ps.length)
  (hbody:∀(cdv:Value) (A:Around) (outer:List Env) (s:Shared) (H G:Hp) (b:Addr) (E:XK),fX k (A.deeper (envOfC qual (ay st) s.heap.objs.size f cdv))->Ew (ml (pw P w) P w K mg base N qual (ay st) f cdv A outer s H E) (Fx.fb K H G ca b) E (df st) m) :
  gN P w K mg base (pw P w) (k + 1) f fd ps (Kf K (ps.length - 1) (wZ N.length (ps.length - 1) m)):=by
 have hpn:ps.length<=N.length:=by have:=congrArg List.length S.pre;rw[Pe] at this;omega
 refine F.vh S (λvs H Q E h=>?_) (λcdv A outer s H vs Q E hr h=>?_)
 ·obtain⟨b,rest,G,ds,β,rfl,hb,gb,sG,hl,r,_⟩:=h
  rw[N5,r.len];omega
 ·obtain⟨b,rest,G,ds,β,rfl,hb,gb,sG,hl,r,h⟩:=h
  refine⟨_,hbody cdv A outer s H G b E hr,?_⟩
  have I:=SR.startB (ca:=ca) (N:=N) sG hb gb r (by omega)
  refine⟨_,G,some b,β,I,?_⟩
  unfold wZ at h
  rw[NN hl] at h
  have fin':∀{B G' H' σ env β},SR (Fx.fb K H G ca b) B G' H' σ env β->iY (some b) H H'/\H' b=some (.lst [.int β]):=λJ=>by
   have e:=J.fix b rfl
   refine⟨λc o ec n=>J.keep c o ec λz=>n ?_,(J.box b e).1⟩
   have:c=b:=by simpa using z
   rw[this]
  cases q:m (xN N.length ds) β with
  |nx env β'=>rw[q] at h;exact λB G' H' σ J s'=>h .non G' H' (fin' J).1 (fin' J).2 s' J.sub (λc h1 h2=>J.new c h1 h2) Rp.non
  |bk env β'=>rw[q] at h;exact h.elim
  |ct env β'=>rw[q] at h;exact h.elim
  |rt d fr β'=>
   rw[q] at h
   refine λB G' H' σ env v J s' rv=>h v G' H' (fin' J).1 (fin' J).2 s' J.sub (λc h1 h2=>J.new c h1 h2) ?_
   cases fr with
   |true=>exact rv
   |false=>exact rv
  |exc c=>rw[q] at h;exact h.elim
  |bad=>rw[q] at h;exact h.elim
def vP {n p:Nat}{m:SF}(ds:List D)(β:Int)(h:wZ n p m ds β≠.bad):ds.length=p:=by
 unfold wZ at h
 by_cases hl:ds.length=p
 ·exact hl
 ·rw[NV hl] at h;exact absurd rfl h
end
def aw (p:Pr):D:=.tuple [.int p.1,.int p.2]
def qX:D->Option Pr
 | .tuple [.int a,.int b]=>some (a,b)
 |_=>none
def vC {d:D}{p:Pr}(h:qX d=some p):d=aw p:=by
 unfold qX at h
 split at h
 ·cases h;rfl
 ·cases h
def AI (p:Pr):qX (aw p)=some p:=rfl
def gV:List D->Option (List Pr)
 | []=>some []
 |d :: ds=>match qX d,gV ds with
  |some p,some ps=>some (p :: ps)
  |_,_=>none
theorem lW:∀{ds:List D} {ps:List Pr},gV ds=some ps->ds=ps.map aw
 | [],ps,h=>by cases h;rfl
 |d :: ds,ps,h=>by
  unfold gV at h
  split at h
  ·rename_i p qs h1 h2;cases h;rw[vC h1,lW h2];rfl
  ·cases h
theorem iN:∀ps:List Pr,gV (ps.map aw)=some ps
 | []=>rfl
 |p :: ps=>by
  show (match qX (aw p),gV (ps.map aw) with
   |some p,some ps=>some (p :: ps)
   |_,_=>none)=_
  rw[AI,iN ps]
section
variable {K:Frag}{X:Cx}{G H:Hp}
theorem cF.pairs:∀{ps:List Pr} {xs:List V},cF K G xs (ps.map aw)->bh K G xs ps
 | [],_,.nil=>.nil
 |p :: ps,_,.cons r t=>by
  cases r with
  |tup hq r=>
   cases r with
   |cons r1 r=>
    cases r with
    |cons r2 r=>cases r;cases r1;cases r2;exact .cons ⟨_,rfl,hq⟩ (cF.pairs t)
theorem bh.rps:∀{ps:List Pr} {xs:List V},bh K G xs ps->cF K G xs (ps.map aw)
 | [],_,.nil=>.nil
 |p :: ps,_,.cons r t=>by
  obtain⟨a,rfl,q⟩:=r
  exact .cons (.tup q (.cons (.int _) (.cons (.int _) .nil))) (bh.rps t)
def JP (p:Pr):Bool:=decide (0<=p.1) && decide (p.1 < 8) && decide (0<=p.2) && decide (p.2 < 8)
def Jz {p:Pr}(h:JP p=true):Sm p:=by
 unfold JP at h
 simp only[N4,N2] at h
 exact⟨⟨h.1.1.1,h.1.1.2⟩,h.1.2,h.2⟩
noncomputable def c3 (d:D):Option D:=match kW d with
 |some ds=>(match gV ds with
  |some ps=>if ps.all JP=true/\(OM.cJ 8 (OM.Mem ps)).length < 64 then some (.list ((OM.cJ 8 (OM.Mem ps)).map aw)) else none
  |none=>none)
 |none=>none
variable {Γ:Fx}{E:XK}{e a b c:Expr}{f fa fb fc:VF D}{L La Lb:List Nat}{md ma mb mc:Md}{pos:Pos}
theorem qN {p1 p2 pos2:Pos}(hc:X.calm=true)(hu:X.A.units + 64 < cLine)(hK:X.K=Γ.K)(hg:Gl X "sorted")(hm:X.mg "sorted"=none)(hg2:Gl X "set")(hm2:X.mg "set"=none)(ha:SE X Γ E a fa La ma)
  (he:starEach [a] X.env=(false,eval a X.env) :: starEach [] X.env:=by rfl)
  (he2:starEach [.Call (.Name "set" p2) [a] [] pos2] X.env=(false,eval (.Call (.Name "set" p2) [a] [] pos2) X.env) :: starEach [] X.env:=by rfl) :
  SE X Γ E (.Call (.Name "sorted" p1) [.Call (.Name "set" p2) [a] [] pos2] [] pos) (f1 fa c3) La .w:=by
 refine PE.post' (jI (um hc) hg hm (by decide +kernel) (aS (iy (C2 hc hu) hg2 hm2 (by decide +kernel) (aS ha bJ he) (by decide) (by decide) he) bJ he2) (by decide) (by decide) he2) λσ H Q ⟨env,G,B,β,I,o⟩=>?_
 refine i5 (r:=λx H1 Q=>K9 X.prog X.w X.K [x] H1 λy H2=>wq X.prog X.w X.K [y] H2 Q) ?_ I o
 intro B G H x dx d Q s hB bx e k
 rw[hK]
 unfold c3 at e
 cases q:kW dx with
 |none=>rw[q] at e;cases e
 |some ds=>
  rw[q] at e
  dsimp only at e
  cases q2:gV ds with
  |none=>rw[q2] at e;cases e
  |some ps=>
   rw[q2] at e
   dsimp only at e
   split at e
   ·rename_i hh
    obtain⟨h1,h2⟩:=hh
    cases e
    obtain⟨p,xs,rfl,hq,r⟩:=bx.seq q s
    rw[lW q2] at r
    have pv:=(r.mono s).pairs
    have sm:∀p,p∈ps->Sm p:=λp hp=>Jz (Oq.mp h1 p hp)
    refine⟨p,xs,ps,rfl,hq,pv,sm,λS qs hS hpv nd hm=>?_⟩
    have qsl:qs.length < 64:=by
     have:(pq qs).length<=(OM.cJ 8 (OM.Mem ps)).length:=OM.pY nd λx hx=>by
      have hx':=(hm x).mp hx
      have hs:=sm x hx'
      exact OM.bF.mpr ⟨⟨⟨hs.1.1,hs.1.2⟩,hs.2.1,hs.2.2⟩,hx'⟩
     simp only[NT] at this
     omega
    have xS:=Ext.own s (o:=AR X.prog X.w S qs) hS
    refine⟨S,qs,rfl,aI,hpv.grow (iX.new hS),λp hp=>sm p ((hm p).mp hp),nd,qsl,λl ws rs hl hpw hr hmem=>?_⟩
    have ers:rs=OM.cJ 8 (OM.Mem ps):=OM.i8 hr (OM.dX _ _) λx=>by
     rw[hmem x,hm x,OM.bF]
     constructor
     ·intro hx;have hs:=sm x hx;exact⟨⟨⟨hs.1.1,hs.1.2⟩,hs.2.1,hs.2.2⟩,hx⟩
     ·intro hx;exact hx.2
    subst ers
    have hlH:H l=none:=by
     by_cases z:l=S
     ·subst z;exact hS
     ·rw[aH z] at hl;exact hl
    have lS:l≠S:=λz=>by subst z;rw[aI] at hl;cases hl
    have hh:aC H (upd (upd H S (AR X.prog X.w S qs)) l (.lst ws)):=(aC.new hS).trans (aC.new hl)
    have xx:=Ext.tups s hh
    refine k _ _ _ xx ⟨l,rfl,hlH,?_,ws,aI,?_⟩
    ·unfold oM
     rw[s.free hlH,aI]
     exact NV λy=>y
    ·refine bh.rps (Paired.mapP hpw λv p ⟨a,ea,qa⟩=>⟨a,ea,qI (s.trans hh) ?_⟩)
     exact qa.grow (iX.new hl)
   ·cases e
end
section
variable {K:Frag}{X:Cx}{G H:Hp}{Γ:Fx}{E:XK}{e a b c:Expr}{f fa fb fc:VF D}{L La Lb:List Nat}{md ma mb mc:Md}{pos apos cpos np:Pos}
def fI:D->Option D
 | .int n=>if 0<=n/\n<=1000 then some (.list (cO 0 n.toNat)) else none
 |_=>none
def Bi (n:Nat):cF K G ((List.range n).map λ(i:Nat)=>V.int (i:Int)) (cO 0 n):=by
 have key:∀l:List Nat,cF K G (l.map λ(i:Nat)=>V.int (i:Int)) (l.map λ(k:Nat)=>int (0 + k)):=by
  intro l
  induction l with
  |nil=>exact .nil
  |cons x l ih=>exact .cons (by show Rp K G (.int (x:Int)) (.int (0 + (x:Int)));rw[Pu];exact .int _) ih
 exact key _
theorem qZ {p1 p2 pos2:Pos}(hc:X.calm=true)(hg:Gl X "list")(hm:X.mg "list"=none)(hg2:Gl X "range")(hm2:X.mg "range"=none)(ha:SE X Γ E a fa La ma)
  (he:starEach [a] X.env=(false,eval a X.env) :: starEach [] X.env:=by rfl)
  (he2:starEach [.Call (.Name "range" p2) [a] [] pos2] X.env=(false,eval (.Call (.Name "range" p2) [a] [] pos2) X.env) :: starEach [] X.env:=by rfl) :
  SE X Γ E (.Call (.Name "list" p1) [.Call (.Name "range" p2) [a] [] pos2] [] pos) (f1 fa fI) La .w:=by
 refine PE.post' (iy (r0 hc) hg hm (by decide +kernel) (aS (iy Cg hg2 hm2 (by decide +kernel) (aS ha bJ he) (by decide) (by decide) he) bJ he2) (by decide) (by decide) he2) λσ H Q ⟨env,G,B,β,I,o⟩=>?_
 refine i5 (r:=λx H1 Q=>∃n:Int,[x]= [.int n]/\∀p,H1 p=none->(λ(y:V) (H2:Hp)=>∃(p:Addr) (n:Int),[y]= [V.ref p]/\H2 p=some (.dW 0 n)/\0<=n/\n<=1000/\∀l,H2 l=none->Q (.ref l) (upd H2 l (.lst ((List.range n.toNat).map λ(i:Nat)=>V.int (i:Int))))) (V.ref p) (upd H1 p (.dW 0 n))) ?_ I o
 intro B G H x dx d Q s hB bx e k
 cases dx with
 |int n=>
  obtain rfl:=bx.int
  simp only[fI] at e
  split at e
  ·rename_i hh
   cases e
   refine⟨n,rfl,λp hp=>⟨p,n,rfl,aI,hh.1,hh.2,λl hl=>?_⟩⟩
   have hlp:l≠p:=λz=>by subst z;rw[aI] at hl;cases hl
   have hlH:H l=none:=by rw[aH hlp] at hl;exact hl
   have x1:=Ext.own s (o:=.dW 0 n) hp
   have x2:=Ext.own x1.gh (o:=.lst ((List.range n.toNat).map λ(i:Nat)=>V.int (i:Int))) hl
   exact k _ _ _ (x1.trans x2) ⟨l,rfl,hlH,s.free hlH,_,aI,Bi _⟩
  ·cases e
 |_=>cases e
def Fh:D->Option D
 | .int i=>some (.int (if i < 0 then -i else i))
 |_=>none
theorem Ko:BS K (λx H Q=>∃i,[x]= [.int i]/\Q (.int (if i < 0 then -i else i)) H) Fh .v:=by
 intro B G H x dx d Q s hB bx e k
 cases dx with
 |int i=>cases e;obtain rfl:=bx.int;exact⟨i,rfl,k _ G H (Ext.refl s) (.int _)⟩
 |_=>cases e
noncomputable def MM (d:D):Option D:=match d with
 | .list ds=>(match gV ds with
  |some ps=>if ps.all JP=true/\ps.Nodup/\ps.length < 64 then some (.list ((OM.cJ 8 (OM.Mem ps)).map aw)) else none
  |none=>none)
 |_=>none
def Bs (ds:List D)(k:D):Option (D×List D):=match k with
 | .int i=>if -(2 ^ 63)<=i/\i < 2 ^ 63 then (match seqIndex? i ds.length with
  |some n=>(match ds[n]? with
   |some d=>some (d,ds.eraseIdx n)
   |none=>none)
  |none=>none) else none
 |_=>none
def kn (i j:Nat)(L:List Nat)(f:VF D):SF:=λenv β=>if qq env[i]? =true/\qq env[j]? =true/\i≠j then toS (f (vl env) β) λk β'=>match (bp L env)[j]? with
 |some (.ow (.list es))=>(match Bs es k with
  |some (d,es')=>G6 i ((bp L env).set j (.ow (.list es'))) β' λds=>if ds.length < sizeLine then some (ds ++ [d]) else none
  |none=>.bad)
 |_=>.bad else .bad
theorem cF.eraseIdx:∀{xs:List V} {ds:List D} (i:Nat),cF K G xs ds->cF K G (xs.eraseIdx i) (ds.eraseIdx i)
 |_,_,_,.nil=>.nil
 |_,_,0,.cons _ t=>t
 |_,_,i + 1,.cons r t=>.cons r (cF.eraseIdx i t)
theorem Bg (i j:Nat){x y:Str}{np2 apos2 cpos2:Pos}(hb:∀j,Γ.br j=false)(he:SE X Γ E e f L md)(hN:X.N[i]? =some x:=by rfl)(hv:AF X.env.scope x:=by first |exact Or.inl rfl |exact Or.inr (Or.inl rfl) |exact Or.inr (Or.inr rfl))(hd:(x == ("__debug__":Str))=false:=by decide)
  (hcd:(x == ("__classdict__":Str))=false:=by decide)
  (hN2:X.N[j]? =some y:=by rfl) (hv2:AF X.env.scope y:=by first |exact Or.inl rfl |exact Or.inr (Or.inl rfl) |exact Or.inr (Or.inr rfl)) (hd2:(y == ("__debug__":Str))=false:=by decide)
  (hcd2:(y == ("__classdict__":Str))=false:=by decide)
  (hbase:attributeBase (.Name x np) "append" X.env (eval (.Name x np) X.env)=eval (.Name x np) X.env:=by rfl)
  (hfew:((backTo cpos (starEach [.Call (.Attribute (.Name y np2) "pop" apos2) [e] [] cpos2] X.env)).all (λx=> !x.1) && (backToKw cpos (keywordEach [] X.env)).all (λx=>x.1.isSome)
   && decide ([Expr.Call (.Attribute (.Name y np2) "pop" apos2) [e] [] cpos2].length + ([]:List Keyword).length + (if ([]:List Keyword).isEmpty then 0 else 1) < 30))=true:=by rfl)
  (hline:(apos.endLine == cpos.line)=true:=by rfl) (hs:starEach [.Call (.Attribute (.Name y np2) "pop" apos2) [e] [] cpos2] X.env=(false,eval (.Call (.Attribute (.Name y np2) "pop" apos2) [e] [] cpos2) X.env) :: starEach [] X.env:=by rfl)
  (hbase2:attributeBase (.Name y np2) "pop" X.env (eval (.Name y np2) X.env)=eval (.Name y np2) X.env:=by rfl)
  (hfew2:((backTo cpos2 (starEach [e] X.env)).all (λx=> !x.1) && (backToKw cpos2 (keywordEach [] X.env)).all (λx=>x.1.isSome)
   && decide ([e].length + ([]:List Keyword).length + (if ([]:List Keyword).isEmpty then 0 else 1) < 30))=true:=by rfl)
  (hline2:(apos2.endLine == cpos2.line)=true:=by rfl) (hs2:starEach [e] X.env=(false,eval e X.env) :: starEach [] X.env:=by rfl)
  (hsw:swapsWith (.Call (.Attribute (.Name x np) "append" apos) [.Call (.Attribute (.Name y np2) "pop" apos2) [e] [] cpos2] [] cpos) none pos.line X.env=pure false:=by rfl) :
  SS X Γ E (.Expr (.Call (.Attribute (.Name x np) "append" apos) [.Call (.Attribute (.Name y np2) "pop" apos2) [e] [] cpos2] [] cpos) pos) (kn i j L f):=by
 refine PS.post (pC (zz Qg PySem.F.slot_list_append PySem.F.type_list_append ot (jC hN hv hd hcd)
  (aS (zz Qg PySem.F.slot_list_pop PySem.F.type_list_pop Dc (jC hN2 hv2 hd2 hcd2) (aS he bJ hs2) hbase2 hfew2 hline2 hs2 rfl) bJ hs) hbase hfew hline hs rfl) hsw) λN σ H ⟨env,G,B,β,I,o⟩=>?_
 unfold kn at o
 by_cases hO:qq env[i]? =true/\qq env[j]? =true/\i≠j
 case neg=>rw[NV hO] at o;exact o.elim
 rw[NN hO] at o
 obtain⟨hO1,hO2,hij⟩:=hO
 obtain⟨ds0,q0⟩:=nF hO1
 obtain⟨es0,w0⟩:=nF hO2
 obtain⟨p,h1,_,_,_,xs,h5,_⟩:=I.slot i _ q0
 obtain⟨q,k1,_,_,_,ys,k5,_⟩:=I.slot j _ w0
 refine⟨_,h1,.inl ⟨rfl,xs,.inl (.inl h5)⟩,?_⟩
 refine⟨_,k1,.inl ⟨rfl,ys,.inl (.inl k5)⟩,?_⟩
 refine⟨env,G,B,β,I,cy o λkd β' k v G' H' I' s' m' vo=>?_⟩
 cases ej:(bp L env)[j]? with
 |none=>rw[ej] at k;exact k.elim
 |some sj=>
  rw[ej] at k
  cases sj with
  |ow dj=>
   cases dj with
   |list es=>
    dsimp only at k
    cases ep:Bs es kd with
    |none=>rw[ep] at k;exact k.elim
    |some pr=>
     obtain⟨d,es'⟩:=pr
     rw[ep] at k
     dsimp only at k
     unfold Bs at ep
     cases kd <;> first | (cases ep;done) |skip
     rename_i ii
     dsimp only at ep
     split at ep
     ·rename_i hr
      cases eI:seqIndex? ii es.length with
      |none=>rw[eI] at ep;cases ep
      |some n=>
       rw[eI] at ep
       dsimp only at ep
       cases eD:es[n]? with
       |none=>rw[eD] at ep;cases ep
       |some d0=>
        rw[eD] at ep
        cases ep
        obtain rfl:=(vo.brw I.boxThere).int
        obtain⟨q',g1,_,_,_,zs,g5,g6⟩:=I'.slot j _ ej
        rw[k1] at g1;cases g1
        obtain⟨xv,ex,rx⟩:=g6.at eD
        refine⟨q,zs,ii,n,xv,rfl,rfl,g5,hr.1,hr.2,by rw[g6.len];exact eI,ex,?_⟩
        have I2:=I'.write hb ej k1 (o:=.lst (zs.eraseIdx n)) (d':=.list (es.eraseIdx n)) λH2 e2 s2=>⟨_,e2,g6.eraseIdx n⟩
        obtain⟨ds,fs,eq,eg,k⟩:=pK k
        by_cases hz:ds.length < sizeLine
        case neg=>rw[NV hz] at eg;cases eg
        rw[NN hz] at eg
        cases eg
        obtain⟨p',f1,_,_,_,us,f5,f6⟩:=I2.slot i _ eq
        rw[h1] at f1;cases f1
        refine⟨p,us,xv,rfl,rfl,f5,by rw[f6.len];exact hz,?_⟩
        exact k B G' _ σ (I2.write hb eq h1 λH2 e2 s2=>⟨_,e2,f6.snoc rx⟩) s'
     ·cases ep
   |_=>exact k.elim
  |_=>exact k.elim
end
def dq:List D->Int->FB
 | [.int m],β=>if 0 < m/\m < 1073741824 then .ok (.int (β % m)) false (β / m) else .bad
 |_,_=>.bad
def zJ {ds:List D}{β:Int}(h:dq ds β≠.bad):∃m,ds= [.int m]/\0 < m/\m < 1073741824:=by
 unfold dq at h
 split at h
 ·rename_i m
  by_cases hh:0 < m/\m < 1073741824
  ·exact⟨m,rfl,hh.1,hh.2⟩
  ·rw[NV hh] at h;exact absurd rfl h
 ·exact absurd rfl h
def u5 {m β:Int}(h0:0 < m)(h1:m < 1073741824):dq [.int m] β=.ok (.int (β % m)) false (β / m):=NN ⟨h0,h1⟩
def constsOf:List Expr->Option (List Int)
 | []=>some []
 | .Constant (.int i) _ _ :: es=>(constsOf es).map λr=>i :: r
 |_=>none
def Nh (ns:List Int):VF (List D):=λ_ β=>.ok (ns.map int) β
theorem sH {X:Cx}{Γ:Fx}{E:XK}:∀{es:List Expr} {ns:List Int},constsOf es=some ns->SA X Γ E es (Nh ns) []
 | [],ns,h=>by
  have e:ns= []:=by unfold constsOf at h;exact (Option.some.inj h).symm
  subst e
  exact ah
 |e :: es,ns,h=>by
  unfold constsOf at h
  split at h
  ·cases ‹_ :: _= []›
  ·next i a b es' heq=>
   cases heq
   cases q:constsOf es with
   |none=>rw[q] at h;cases h
   |some r=>
    rw[q] at h
    have e2:i :: r=ns:=Option.some.inj h
    subst e2
    exact ae av (sH q) rfl
  ·cases h
section
variable {P:Program}{w:World}{K:Frag}{mg:Str->Option Value}{base:Heap}
def FJ {X:Cx}{i j:Nat}{x y:Str}{px py pos:Pos}{k:Nat}(hN:X.N.Nodup)(hi:X.N[i]? =some x)(hj:X.N[j]? =some y)(hx:X.env.scope.names.lookup x=some .local)(hy:X.env.scope.names.lookup y=some .local)(hc:X.calm=true) :
  PG X (.Tuple [.Name x px,.Name y py] k pos) (FA X.K 2 (qK (mE i) (qK (mE j) Gi))):=
 p7 hc (dR (di hN hi (Or.inl hx) (Or.inr hx)) (dR (di hN hj (Or.inl hy) (Or.inr hy)) nS))
def DN {b:Addr}{β m:Int}{H:Hp}{Q:VK}{G:Hp}(hb:H b=some (.lst [.int β]))(s:aC G H){p:Addr}(hp:H p=none)
  (kk:∀v G' H',iY (some b) H H'->H' b=some (.lst [.int (β / m)])->aC G G'->aC G' H'->(∀c,Mx H c->G c=none->G' c=none)->FV K H G' H' false (.int (β % m)) v->Q v H') (gb:G b=none) :
  Q (.int (β % m)) (upd (upd H p (.tup [.int (β / m),.int (β % m)])) b (.lst [.int (β / m)])):=by
 have hbp:b≠p:=aP hb hp
 refine kk _ G _ (λc o e n=>?_) aI (aC.refl _) (λc o e=>?_) (λc _ h=>h) (.int _)
 ·rw[aH (λz=>n (by rw[z])),aH (aP e hp)];exact e
 ·rw[aH (λz=>by rw[z,gb] at e;cases e),aH (aP (s c o e) hp)];exact s c o e
end
end L2
namespace L2
open PySem PySem.SeqAt PySem.Spec PyProof.Rows
def uS {M:Model}{A:Around}{E:Value->Shared->Prop}{s:Shared}{β:Type}{b:Nat}(f:Nat->β->Sem (ForInStep β))(I:List Nat->β->Shared->Prop)(Q:β->Shared->Prop)
  (turn:∀x rest b s,I (x :: rest) b s->wpAny M A (f x b) (λr s'=>match r with | .yield b'=>I rest b' s' | .done b'=>Q b' s') E s)
  (fin:∀b s,I [] b s->Q b s) (c:β) (h:I (List.range' 0 b) c s):wpAny M A (forIn [0:b] c f) Q E s:=by
 rw[Std.Legacy.Range.forIn_eq_forIn_range']
 simp only[Std.Legacy.Range.size,Nat.sub_zero,Nat.add_sub_cancel,Nat.div_one]
 exact wpAny_forIn_list f I Q turn fin _ c h
def rL (l:Addr)(items:Array Value)(n:Nat)(dd:Option Addr)(sl:Array (Option Value))(x:Value)(e:Value->Bool)(j:Nat)(hj:j < items.size)
  (hit:e items[j]=true) (hno:∀m (hm:m < items.size),m < j->e items[m]=false) :
  Meets (Builtin.«tuple.index» ⟨[.ref l,x],[]⟩)
   (λA R s=>s.heap.get? l=some {cls:=.type "tuple",dict:=dd,data:=.seq items n,slots:=sl}/\(∀y,y∈items->EqAt A.in1 s y x (e y))/\R (.ok (.ret (.int j s.toks))) {s with toks:=s.toks + 1}):=
 .of_wp λprog w A R s h=>by
  obtain⟨hp,g,d,tk,os⟩:=s;obtain⟨hl,he,h⟩:=h
  wp_walk using wpAny_loadPart' hl,uS _ (λrest b s'=>b.1=none/\s'=⟨hp,g,d,tk,os⟩/\∃i,i<=j/\rest=List.range' i (items.size - i)) _
  case turn=>
   rintro y rest b s' ⟨hb,rfl,i,hi,hr⟩
   obtain⟨m,hm⟩:∃m,items.size - i=m + 1:=⟨items.size - i - 1,by omega⟩
   rw[hm,List.range'_succ] at hr
   obtain⟨rfl,rfl⟩:=List.cons.inj hr
   have hlt:y < items.size:=by omega
   have e1:items[y]? =some items[y]:=by simp[hlt]
   simp only[e1]
   refine NL (he _ (QF hlt) prog w _ _ ?_)
   by_cases z:y=j
   ·subst z
    rw[hit]
    wp_walk
    exact⟨_,rfl,h⟩
   ·rw[hno y hlt (by omega)]
    wp_walk
    exact⟨rfl,rfl,y + 1,by omega,by congr 1;omega⟩
  case fin=>
   rintro b s' ⟨hb,rfl,i,hi,hr⟩
   obtain⟨m,hm⟩:∃m,items.size - i=m + 1:=⟨items.size - i - 1,by omega⟩
   rw[hm,List.range'_succ] at hr
   cases hr
  case h=>
   exact⟨rfl,rfl,0,Ov _,by rw[Nat.min_self];rfl⟩
section
variable {K:Frag}{X:Cx}{G H:Hp}{Γ:Fx}{E:XK}{e a b c:Expr}{f fa fb fc:VF D}{L La Lb:List Nat}{md ma mb mc:Md}{pos apos cpos np:Pos}
def xV (k:Int):Value->Bool
 | .int i _=>i == k
 |_=>false
theorem mR {k:Int}:∀{ns:List Int} {us:List Value} (i:Nat) (h:i < us.length) (h2:i < ns.length),Vals (ns.map V.int) us->xV k us[i]=(ns[i] == k)
 | [],_,_,_,h2,_=>absurd h2 (Nat.not_lt_zero _)
 |n :: ns,_,0,_,_,.cons r _=>by obtain⟨t,rfl⟩:=r;rfl
 |n :: ns,_,i + 1,h,h2,.cons _ rs=>mR i (Nat.lt_of_succ_lt_succ h) (Nat.lt_of_succ_lt_succ h2) rs
theorem vv {k:Int}{t:Tok}(A:Around)(s:Shared):∀{ns:List Int} {us:List Value},Vals (ns.map V.int) us->∀y∈us,EqAt A s y (.int k t) (xV k y)
 | [],_,.nil,y,hy=>by cases hy
 |n :: ns,_,.cons r rs,y,hy=>by
  rcases NO.mp hy with z |z
  ·subst z;obtain⟨t',rfl⟩:=r;exact EqAt.int_int n t' k t
  ·exact vv A s rs y z
def E1 (K:Frag):V->List V->Hp->VK->Prop:=λx vs H Q=>∃(a:Addr) (ns:List Int) (k:Int),x=.ref a/\vs= [.int k]/\fV K H a (ns.map V.int)/\k∈ns/\Q (.int (ns.idxOf k:Nat)) H
def Bc:Kz X "tuple.index" (E1 X.K):=by
 intro pins s σ H x vs v us Q I rx rv h
 obtain⟨a,ns,k,rfl,rfl,hq,hk,q⟩:=h
 cases rx
 obtain⟨u,rfl,ru⟩:=vals1 rv
 obtain⟨t,rfl⟩:=ru
 obtain⟨its,rs,pl,hz⟩:=I.tuple hq
 obtain⟨⟨cls,dd,data,sl⟩,ho,hc,n,hd⟩:=id pl
 simp only at hc hd
 subst hc hd
 have hj:ns.idxOf k < ns.length:=OI.mpr hk
 have hlen:its.length=ns.length:=by rw[<-rs.length,NT]
 refine call_meets PySem.F.slot_tuple_index ⟨_,ho,rfl⟩ PySem.F.entry_tuple_index (PySem.F.args_tuple_index_2 _ _)
  (rL a its.toArray n dd sl (.int k t) (xV k) (ns.idxOf k) (by simpa[hlen] using hj) ?_ ?_) ⟨ho,λy hy=>vv _ _ rs y (by simpa using hy),?_⟩
 ·have:=mR (k:=k) (ns.idxOf k) (by omega) hj rs
  simpa[PR hj] using this
 ·intro m hm hlt
  have hm':m < ns.length:=by simpa[hlen] using hm
  have hne:ns[m]≠k:=λz=>by
   have:=List.not_of_lt_findIdx (p:=(· == k)) hlt
   simp[z] at this
  have:=mR (k:=k) m (by omega) hm' rs
  rw[beq_eq_false_iff_ne.mpr hne] at this;simpa using this
 ·exact⟨.int (ns.idxOf k:Nat),H,I.tok _,⟨_,rfl⟩,q⟩
def Inv.tupleP {pins:List (Addr×Obj)}{σ:St}{s:Shared}{p:Addr}{xs:List V}(I:Inv X pins σ H s)(h:fV X.K H p xs):s.TypeIs (.ref p) "tuple"/\∀a,Value.ref p=.ref a->∃ob,s.heap.get? a=some ob/\ob.dict=none:=by
 rcases h with h | ⟨o,its,n,hk,hc,hs,hz,r,hd⟩
 ·obtain⟨_,_,_,o,e,c,n,d,hd⟩:=h.ok I.hok
  exact⟨⟨o,e,c⟩,λa z=>by cases z;exact⟨o,e,hd⟩⟩
 ·exact⟨⟨o,I.kIn p o hk,hc⟩,λa z=>by cases z;exact⟨o,I.kIn p o hk,hd⟩⟩
def MW (K:Frag)(r:V->List V->Hp->VK->Prop)(to:TE)(t:TA):TE:=λσ H Q=>to σ H λx H1=>(∃p xs,x=.ref p/\fV K H1 p xs)/\t σ H1 λxs H2=>r x xs H2 Q
def Iq {o e:Expr}{es:List Expr}{to:TE}{t:TA}{name:Str}{apos cpos:Pos}{id:String}{r:V->List V->Hp->VK->Prop}(slot:Slot "tuple" name id)(hty:typeOf (.builtin id)=pure (.type "method_descriptor"))(hm:Kz X id r)(ho:PE X o to)(ha:PA X (e :: es) t)
  (hbase:attributeBase o name X.env (eval o X.env)=eval o X.env:=by rfl)
  (hfew:((backTo cpos (starEach (e :: es) X.env)).all (λx=> !x.1) && (backToKw cpos (keywordEach [] X.env)).all (λx=>x.1.isSome)
   && decide ((e :: es).length + ([]:List Keyword).length + (if ([]:List Keyword).isEmpty then 0 else 1) < 30))=true:=by rfl)
  (hline:(apos.endLine == cpos.line)=true:=by rfl) (hs:starEach (e :: es) X.env=(false,eval e X.env) :: starEach es X.env:=by rfl) (hplain:(backTo cpos (starEach es X.env)).any (·.1)=false:=by rfl) :
  PE X (.Call (.Attribute o name apos) (e :: es) [] cpos) (MW X.K r to t):=by
 intro pins s σ H Q I h
 refine wpAny_Call_method_late hbase hfew hline rfl (cM (ho pins s σ H _ I h) λv s1 ⟨x,H1,I1,r1,⟨p,ys,ex,hr⟩,q1⟩=>?_)
 subst ex
 cases r1
 obtain⟨h1,h2⟩:=I1.tupleP hr
 refine⟨"tuple",id,PySem.F.plainAttrs_tuple,slot,hty,h1,h2,?_⟩
 have hA:=ha cpos pins s1 σ H1 _ I1 q1
 rw[hs] at hA ⊢
 refine Calls.callWith_builtin (by show (false || (backTo cpos (starEach es X.env)).any (·.1))=false;rw[hplain] <;> rfl) (Calls.evalArgs_plain ?_)
 exact cM hA λus s2 ⟨vs,H2,I2,r2,q2⟩=>hm pins s2 σ H2 (.ref p) vs (.ref p) us Q I2 rfl r2 q2
def iP:List D->Option (List Int)
 | []=>some []
 | .int i :: ds=>(iP ds).map (i :: ·)
 |_=>none
theorem nR:∀{ds:List D} {ns:List Int},iP ds=some ns->ds=ns.map int
 | [],ns,h=>by cases h;rfl
 | .int i :: ds,ns,h=>by
  unfold iP at h
  cases q:iP ds with
  |none=>rw[q] at h;cases h
  |some ms=>rw[q] at h;cases h;rw[nR q];rfl
 | .none :: _,_,h=>by cases h
 | .bool _ :: _,_,h=>by cases h
 | .str _ :: _,_,h=>by cases h
 | .list _ :: _,_,h=>by cases h
 | .tuple _ :: _,_,h=>by cases h
 | .dict _ :: _,_,h=>by cases h
theorem iC:∀ns:List Int,iP (ns.map int)=some ns
 | []=>rfl
 |n :: ns=>by show (iP (ns.map int)).map (n :: ·)=_;rw[iC ns];rfl
theorem qC:∀{ns:List Int} {xs:List V},cF K G xs (ns.map int)->xs=ns.map V.int
 | [],_,.nil=>rfl
 |n :: ns,_,.cons r t=>by cases r;rw[qC t];rfl
def EC (d y:D):Option D:=match d,y with
 | .tuple ds,.int k=>(match iP ds with
  |some ns=>if k∈ns then some (.int (ns.idxOf k:Nat)) else none
  |none=>none)
 |_,_=>none
def zW:D->Bool
 | .tuple _=>true
 |_=>false
def mP (fa fb:VF D):VF D:=λvs β=>(fa vs β).bnd λx β1=>if zW x=true then (fb vs β1).bnd λy β2=>R.of (EC x y) β2 else .bad
theorem nt (hK:X.K=Γ.K)(ha:SE X Γ E a fa La ma)(hb:SE X Γ E b fb Lb mb)
  (hbase:attributeBase a "index" X.env (eval a X.env)=eval a X.env:=by rfl)
  (hfew:((backTo cpos (starEach [b] X.env)).all (λx=> !x.1) && (backToKw cpos (keywordEach [] X.env)).all (λx=>x.1.isSome)
   && decide ([b].length + ([]:List Keyword).length + (if ([]:List Keyword).isEmpty then 0 else 1) < 30))=true:=by rfl)
  (hline:(apos.endLine == cpos.line)=true:=by rfl) (hs:starEach [b] X.env=(false,eval b X.env) :: starEach [] X.env:=by rfl) :
  SE X Γ E (.Call (.Attribute a "index" apos) [b] [] cpos) (mP fa fb) (La ++ Lb) .v:=by
 refine PE.post' (Iq PySem.F.slot_tuple_index PySem.F.type_tuple_index Bc ha (aS hb bJ hs) hbase hfew hline hs rfl) λσ H Q ⟨env,G,B,β,I,o⟩=>?_
 refine⟨env,G,B,β,I,o.bnd.imp λd1 β1 h x G1 H1 I1 s1 m1 vx=>?_⟩
 have vx:=vx.brw I.boxThere
 cases d1 with
 |tuple ds=>
  rw[NN (show zW (.tuple ds)=true from rfl)] at h
  obtain⟨p,xs,rfl,hq,r⟩:=vx.tuple I1.sub
  refine⟨⟨p,xs,rfl,by rw[hK];exact hq⟩,?_⟩
  refine⟨bp La env,G1,B,β1,I1,?_⟩
  rw[dQ]
  refine h.bnd.imp λd2 β2 h y G2 H2 I2 s2 m2 vy=>?_
  obtain⟨d,e,k⟩:=h.of
  have vy:=vy.brw I1.boxThere
  cases d2 with
  |int kk=>
   obtain rfl:=vy.int
   simp only[EC] at e
   cases q:iP ds with
   |none=>rw[q] at e;cases e
   |some ns=>
    rw[q] at e
    dsimp only at e
    split at e
    ·rename_i hk
     cases e
     have eds:=nR q
     subst eds
     have exs:=qC r
     subst exs
     have hq2:fV X.K H2 p (ns.map V.int):=by
      rw[hK]
      rcases hq with hq |hq
      ·rcases vx with vx | ⟨_,_,_,vx⟩
       ·cases vx with
        |tup g1 r9=>have z9:=qC r9;subst z9;exact (g1.grow (s2.trans I2.sub).grow)
       ·exact vx.elim
      ·exact .inr hq
     exact⟨p,ns,kk,rfl,rfl,hq2,hk,k _ G2 H2 (by rw[b9];exact I2) (s1.trans s2) (m1.trans m2) (.int _)⟩
    ·cases e
  |_=>simp only[EC] at e;cases e
 |_=>exact h.elim
def zD (t:Tg)(L:List Nat)(f:VF D):SF:=λenv β=>toS (f (vl env) β) λd β'=>match eT t d (bp L env) with
 |some env'=>.nx env' β'
 |none=>.bad
theorem Jw {t:Tg}{tg:Expr}(he:SE X Γ E e f L .v)(hg:SG X Γ tg t)(hs:swapsWithSole [tg] e pos.line X.env=pure false:=by rfl)(hw:swappedStores [tg] e X.env=pure none:=by rfl)
  (h1:(assignEach [tg] X.env).map (·.2)= [assign tg X.env]:=by rfl):SS X Γ E (.Assign [tg] e pos) (zD t L f):=by
 refine PS.post (n9 he hg hs hw h1) λN σ H ⟨env,G,B,β,I,o⟩=>?_
 refine⟨env,G,B,β,I,cy o λd β' k v G' H' I' s' m' vo=>?_⟩
 cases q:eT t d (bp L env) with
 |none=>rw[q] at k;exact k.elim
 |some env'=>
  rw[q] at k
  exact⟨_,G',B,β',d,env',I',vo,q,λσ' J=>k B G' H' σ' J s'⟩
abbrev Fx.at (Γ:Fx)(H0:Hp):Fx:=⟨Γ.K,H0,Γ.G0,Γ.par,Γ.ca,Γ.br,Γ.bx⟩
end
end L2
namespace L2
open PySem
section
variable {α γ:Type}
@[simp] theorem mU (a:α)(β:Int)(k:α->Int->R γ):(R.ok a β).bnd k=k a β:=rfl
@[simp] theorem LI (c:Str)(k:α->Int->R γ):(R.exc c:R α).bnd k=.exc c:=rfl
@[simp] theorem LF (k:α->Int->R γ):(R.bad:R α).bnd k=.bad:=rfl
@[simp] theorem MS (a:α)(β:Int)(k:α->Int->R γ):(R.ok a β).okb k=k a β:=rfl
@[simp] theorem uO (a:α)(β:Int):R.of (some a) β=.ok a β:=rfl
@[simp] theorem of_none (β:Int):(R.of none β:R α)=.bad:=rfl
@[simp] theorem MU (a:α)(β:Int)(k:α->Int->SO):toS (.ok a β) k=k a β:=rfl
@[simp] theorem LC (c:Str)(k:α->Int->SO):toS (.exc c:R α) k=.exc c:=rfl
@[simp] theorem LJ (k:α->Int->SO):toS (.bad:R α) k=.bad:=rfl
end
section
variable (f fa fb fc:VF D)(t u:VF Bool)(m m':SF)(vs:List Nv)(β:Int)(env:En)(i j:Nat)(L:List Nat)
@[simp] theorem si:gv i vs β=R.of (dat vs[i]?) β:=rfl
@[simp] theorem yc (d:D):dat (some (.da d))=some d:=rfl
@[simp] theorem MQ (d:D):cst d vs β=.ok d β:=rfl
@[simp] theorem Nm (g:D->Option D):f1 fa g vs β=(fa vs β).bnd λx β1=>R.of (g x) β1:=rfl
@[simp] theorem Nd (g:D->D->Option D):f2 fa fb g vs β=(fa vs β).bnd λx β1=>(fb vs β1).bnd λy β2=>R.of (g x y) β2:=rfl
@[simp] theorem z0:ag vs β=.ok [] β:=rfl
@[simp] theorem dw (fr:VF (List D)):aa fa fr vs β=(fa vs β).bnd λx β1=>(fr vs β1).bnd λxs β2=>.ok (x :: xs) β2:=rfl
@[simp] theorem va:j3 fa vs β=(fa vs β).bnd λx β1=>R.of (HZ x) β1:=rfl
@[simp] theorem ua:rJ t vs β=(t vs β).bnd λc β1=>.ok (!c) β1:=rfl
@[simp] theorem yu:yd t u vs β=(t vs β).bnd λc β1=>if c=true then u vs β1 else .ok false β1:=rfl
@[simp] theorem pM:mi t u vs β=(t vs β).bnd λc β1=>if c=true then .ok true β1 else u vs β1:=rfl
@[simp] theorem Nr (n:Bool):tN fa n vs β=(fa vs β).bnd λx β1=>.ok (if n then !Gb x else Gb x) β1:=rfl
@[simp] theorem I0:LH t fa fb vs β=(t vs β).bnd λc β1=>if c=true then fa vs β1 else fb vs β1:=rfl
@[simp] theorem bO (c:Bool){β1:Int}(h:fa vs β=.ok (.bool c) β1):cI fa vs β=.ok c β1:=by unfold cI;rw[h];rfl
@[simp] theorem xP:vl []= []:=rfl
@[simp] theorem uM (s:Sl):vl (s :: env)=s.val :: vl env:=rfl
@[simp] theorem xH (d:D):(Sl.fz d).val=.da d:=rfl
@[simp] theorem M6 (d:D):(Sl.ow d).val=.da d:=rfl
@[simp] theorem Mr:Sl.no.val=.no:=rfl
@[simp] theorem M1:Sl.bx.val=.bx:=rfl
@[simp] theorem LG:bp [] env=env:=rfl
@[simp] theorem JX:bp (i :: L) env=bp L (gQ env i):=rfl
@[simp] theorem LA:aG m m' env β=(match m env β with
 | .nx env' β'=>m' env' β'
 |r=>r):=rfl
@[simp] theorem Mi:jF L t m m' env β=toS (t (vl env) β) λc β'=>if c=true then m (bp L env) β' else m' (bp L env) β':=rfl
@[simp] theorem cq:bM f env β=toS (f (vl env) β) λd β'=>.rt d false β':=rfl
@[simp] theorem wY:qi f env β=toS (f (vl env) β) λd β'=>.rt d true β':=rfl
@[simp] theorem MO:kZ env β=.nx env β:=rfl
@[simp] theorem b4:bg i L f env β=toS (f (vl env) β) λd β'=>.nx ((bp L env).set i (.fz d)) β':=rfl
@[simp] theorem fG:gM i L f env β=toS (f (vl env) β) λd β'=>.nx ((bp L env).set i (.ow d)) β':=rfl
@[simp] theorem nA:mC L f env β=toS (f (vl env) β) λ_ β'=>.nx (bp L env) β':=rfl
end
def au {m m':SF}{env env':En}{β β':Int}(h:m env β=.nx env' β'):aG m m' env β=m' env' β':=by unfold aG;rw[h]
def gx {m m':SF}{env:En}{β β':Int}{d:D}{b:Bool}(h:m env β=.rt d b β'):aG m m' env β=.rt d b β':=by unfold aG;rw[h]
def jq {L:List Nat}{t:VF Bool}{m m':SF}{env:En}{β β':Int}(h:t (vl env) β=.ok true β'):jF L t m m' env β=m (bp L env) β':=by unfold jF;rw[h];rfl
def fK {L:List Nat}{t:VF Bool}{m m':SF}{env:En}{β β':Int}(h:t (vl env) β=.ok false β'):jF L t m m' env β=m' (bp L env) β':=by unfold jF;rw[h];rfl
def ax {F:List D->FR}{fr:VF (List D)}{vs:List Nv}{β β1:Int}{ds:List D}{d:D}{b:Bool}(h:fr vs β=.ok ds β1)(e:F ds=.ok d b):ao F fr vs β=.ok d β1:=by unfold ao;rw[h];dsimp only[R.bnd];rw[e]
def Cw {F:List D->FR}{fr:VF (List D)}{vs:List Nv}{β β1:Int}{ds:List D}{d:D}(h:fr vs β=.ok ds β1)(e:F ds=.ok d true):vD F fr vs β=.ok d β1:=by unfold vD;rw[h];dsimp only[R.bnd];rw[e]
def dU {fa:VF D}{g:D->Option D}{vs:List Nv}{β β1:Int}{x d:D}(h:fa vs β=.ok x β1)(e:g x=some d):f1 fa g vs β=.ok d β1:=by unfold f1;rw[h];dsimp only[R.bnd];rw[e];rfl
def az {fa fb:VF D}{g:D->D->Option D}{vs:List Nv}{β β1 β2:Int}{x y d:D}(h:fa vs β=.ok x β1)(h':fb vs β1=.ok y β2)(e:g x y=some d):f2 fa fb g vs β=.ok d β2:=by unfold f2;rw[h];dsimp only[R.bnd];rw[h'];dsimp only[R.bnd];rw[e];rfl
def iK {i:Nat}{F:List D->Int->FB}{fr:VF (List D)}{vs:List Nv}{β β1 β2:Int}{ds:List D}{d:D}{b:Bool}(hi:wg vs i=true)(h:fr vs β=.ok ds β1)(e:F ds β1=.ok d b β2):mj i F fr vs β=.ok d β2:=by unfold mj;rw[NN hi,h];dsimp only[R.bnd];rw[e]
def sz (n:Nat)(h:n<=1000):n<=sizeLine:=by rw[Ot];omega
def J1 (n:Nat)(h:n<=1000):n < sizeLine:=by rw[Ot];omega
def jd {fr:VF (List D)}{vs:List Nv}{β β1:Int}{ds:List D}(h:fr vs β=.ok ds β1)(hz:ds.length<=1000):cC fr vs β=.ok (.tuple ds) β1:=by unfold cC;rw[h];exact NN (sz _ hz)
def gm {fr:VF (List D)}{vs:List Nv}{β β1:Int}{ds:List D}(h:fr vs β=.ok ds β1)(hz:ds.length<=1000):bD fr vs β=.ok (.list ds) β1:=by unfold bD;rw[h];exact NN (sz _ hz)
def uy {i:Nat}{env:En}{β:Int}{g:List D->Option (List D)}{ds es:List D}(h:env[i]? =some (.ow (.list ds)))(e:g ds=some es):G6 i env β g=.nx (env.set i (.ow (.list es))) β:=by unfold G6;rw[h];dsimp only;rw[e]
def j9 {i:Nat}{L:List Nat}{f:VF D}{env:En}{β β':Int}{ds:List D}{d:D}(hi:env[i]? =some (.ow (.list ds)))(hf:f (vl env) β=.ok d β')(hL:(bp L env)[i]? =some (.ow (.list ds)))(hz:ds.length<=1000):jA i L f env β=.nx ((bp L env).set i (.ow (.list (ds ++ [d])))) β':=by
 unfold jA
 rw[NN (by rw[hi];rfl),hf]
 exact uy hL (NN (J1 _ hz))
def xW {i j:Nat}{L:List Nat}{f:VF D}{env:En}{β β':Int}{ds es es':List D}{k d:D}(hi:env[i]? =some (.ow (.list ds)))(hj:env[j]? =some (.ow (.list es)))(hij:i≠j)(hf:f (vl env) β=.ok k β')(hL:bp L env=env)(hp:Bs es k=some (d,es'))(hz:ds.length<=1000):kn i j L f env β=.nx ((env.set j (.ow (.list es'))).set i (.ow (.list (ds ++ [d])))) β':=by
 unfold kn
 rw[NN ⟨by rw[hi];rfl,by rw[hj];rfl,hij⟩,hf,hL]
 dsimp only[toS]
 rw[hj]
 dsimp only
 rw[hp]
 exact uy (by rw[N8 (Ne.symm hij)];exact hi) (NN (J1 _ hz))
def qy {i:Nat}{Le Li:List Nat}{fe fi:VF D}{env:En}{β β1 β2:Int}{ds:List D}{d:D}{k:Int}{n:Nat}(he:fe (vl env) β=.ok d β1)(h1:(bp Le env)[i]? =some (.ow (.list ds)))(hi:fi (vl env) β1=.ok (.int k) β2)(h2:(bp (Le ++ Li) env)[i]? =some (.ow (.list ds)))(hk:pQ ds.length k=some n):nz i Le Li fe fi env β=.nx ((bp (Le ++ Li) env).set i (.ow (.list (ds.set n d)))) β2:=by
 unfold nz
 rw[he]
 dsimp only[toS]
 rw[NN (by rw[h1];rfl),hi]
 exact uy h2 (by dsimp only;rw[hk];rfl)
theorem qR {t:Tg}{ft:VF Bool}{fe:VF D}{vs:List Nv}(g:D->Bool)(h:D->D):∀{ds:List D} {β:Int},(∀d,d∈ds->∃vs1,mw t d vs=some vs1/\ft vs1 β=.ok (g d) β/\(g d=true->fe vs1 β=.ok (h d) β))->gO t ft fe vs ds β=.ok ((ds.filter g).map h) β
 | [],β,_=>rfl
 |d :: ds,β,hh=>by
  obtain⟨vs1,e1,e2,e3⟩:=hh d (NR ..)
  have ih:=qR (t:=t) (ft:=ft) (fe:=fe) (vs:=vs) g h (ds:=ds) (β:=β) λd' hd=>hh d' (NP _ hd)
  unfold gO
  rw[e1]
  dsimp only
  rw[e2]
  dsimp only[R.okb]
  cases q:g d with
  |true=>
   rw[NN rfl,e3 q]
   dsimp only
   rw[ih,List.filter_cons_of_pos q];rfl
  |false=>
   rw[NV Og,ih,List.filter_cons_of_neg (by rw[q];exact Og)]
def xT {own:Nat}{ixs:List Nat}{t:Tg}{fi:VF (List D)}{ft:VF Bool}{fe:VF D}{vs:List Nv}{β β1:Int}{ds:List D}(g:D->Bool)(h:D->D)(hi:fi vs β=.ok ds β1)(hz:ds.length<=1000)
  (hh:∀d,d∈ds->∃vs1,mw t d (dg own ixs vs)=some vs1/\ft vs1 β1=.ok (g d) β1/\(g d=true->fe vs1 β1=.ok (h d) β1)):aN own ixs t fi ft fe vs β=.ok (.list ((ds.filter g).map h)) β1:=by
 unfold aN
 rw[hi]
 dsimp only[R.bnd]
 rw[NN (sz _ hz),qR g h hh];rfl
def td {own:Nat}{ixs:List Nat}{t:Tg}{fi:VF (List D)}{fe:VF D}{vs:List Nv}{β β1:Int}{ds:List D}(h:D->D)(hi:fi vs β=.ok ds β1)(hz:ds.length<=1000)
  (hh:∀d,d∈ds->∃vs1,mw t d (dg own ixs vs)=some vs1/\fe vs1 β1=.ok (h d) β1):aN own ixs t fi kU fe vs β=.ok (.list (ds.map h)) β1:=by
 rw[xT (ft:=kU) (λ_=>true) h hi hz λd hd=>let ⟨vs1,e1,e2⟩:=hh d hd;⟨vs1,e1,rfl,λ_=>e2⟩]
 rw[List.filter_eq_self.mpr (λ_ _=>rfl)]
def cR {α:Type}{own:Nat}{ixs:List Nat}{t:Tg}{fi:VF (List D)}{fe:VF D}{vs:List Nv}{β β1:Int}{l:List α}{e:α->D}(h:α->D)(hi:fi vs β=.ok (l.map e) β1)(hz:l.length<=1000)
  (hh:∀x,x∈l->∃vs1,mw t (e x) (dg own ixs vs)=some vs1/\fe vs1 β1=.ok (h x) β1):aN own ixs t fi kU fe vs β=.ok (.list (l.map h)) β1:=by
 unfold aN
 rw[hi]
 dsimp only[R.bnd]
 rw[NN (sz _ (by rw[NT];exact hz))]
 have key:∀m:List α,(∀x,x∈m->x∈l)->gO t kU fe (dg own ixs vs) (m.map e) β1=.ok (m.map h) β1:=by
  intro m
  induction m with
  |nil=>intro _;rfl
  |cons x m ih=>
   intro hm
   obtain⟨vs1,e1,e2⟩:=hh x (hm x (NR ..))
   rw[OE]
   unfold gO
   rw[e1]
   dsimp only
   show (R.ok true β1).okb _=_
   dsimp only[R.okb]
   rw[NN rfl,e2]
   dsimp only
   rw[ih λy hy=>hm y (NP _ hy)];rfl
 rw[key l λ_ h=>h];rfl
def cD {α:Type}{own:Nat}{ixs:List Nat}{t:Tg}{fi:VF (List D)}{ft:VF Bool}{fe:VF D}{vs:List Nv}{β β1:Int}{l:List α}{e:α->D}(g:α->Bool)(h:α->D)(hi:fi vs β=.ok (l.map e) β1)(hz:l.length<=1000)
  (hh:∀x,x∈l->∃vs1,mw t (e x) (dg own ixs vs)=some vs1/\ft vs1 β1=.ok (g x) β1/\(g x=true->fe vs1 β1=.ok (h x) β1)):aN own ixs t fi ft fe vs β=.ok (.list ((l.filter g).map h)) β1:=by
 unfold aN
 rw[hi]
 dsimp only[R.bnd]
 rw[NN (sz _ (by rw[NT];exact hz))]
 have key:∀m:List α,(∀x,x∈m->x∈l)->gO t ft fe (dg own ixs vs) (m.map e) β1=.ok ((m.filter g).map h) β1:=by
  intro m
  induction m with
  |nil=>intro _;rfl
  |cons x m ih=>
   intro hm
   obtain⟨vs1,e1,e2,e3⟩:=hh x (hm x (NR ..))
   have ih:=ih λy hy=>hm y (NP _ hy)
   rw[OE]
   unfold gO
   rw[e1]
   dsimp only
   rw[e2]
   dsimp only[R.okb]
   cases q:g x with
   |true=>
    rw[NN rfl,e3 q]
    dsimp only
    rw[ih,List.filter_cons_of_pos q];rfl
   |false=>
    rw[NV Og,ih,List.filter_cons_of_neg (by rw[q];exact Og)]
 rw[key l λ_ h=>h];rfl
theorem c6 {t:Tg}{m:SF}(Pv:Nat->En->Int->Prop):∀{ds:List D} {k:Nat} {env:En} {β:Int},Pv k env β->
  (∀i d env β,ds[i]? =some d->Pv (k + i) env β->∃env1,eT t d env=some env1/\∃env2 β2,m env1 β=.nx env2 β2/\Pv (k + i + 1) env2 β2)->∃env' β',kY t m ds env β=.nx env' β'/\Pv (k + ds.length) env' β'
 | [],k,env,β,h0,_=>⟨env,β,rfl,h0⟩
 |d :: ds,k,env,β,h0,hs=>by
  obtain⟨env1,e1,env2,β2,e2,h1⟩:=hs 0 d env β rfl h0
  obtain⟨env',β',e3,h2⟩:=c6 Pv (t:=t) (m:=m) (ds:=ds) (k:=k + 1) h1 λi d' en be hi hp=>by
   have:=hs (i + 1) d' en be (by simpa using hi) (by rw[show k + (i + 1)=k + 1 + i by omega];exact hp)
   rw[show k + (i + 1) + 1=k + 1 + i + 1 by omega] at this
   exact this
  refine⟨env',β',?_,by rw[N5,show k + (ds.length + 1)=k + 1 + ds.length by omega];exact h2⟩
  unfold kY
  rw[e1]
  dsimp only
  rw[e2]
  exact e3
theorem gc {L:List Nat}{t:VF Bool}{m:SF}(Pv:Nat->En->Int->Prop)(Dn:En->Int->Prop):∀{n k:Nat} {env:En} {β:Int},k < n->Pv k env β->
  (∀k env β,Pv k env β->∃c β1,t (vl env) β=.ok c β1/\((c=false/\Dn (bp L env) β1)\/(c=true/\∃env2 β2 k',m (bp L env) β1=.nx env2 β2/\k' < k/\Pv k' env2 β2)))->∃env' β',gX L t m n env β=.nx env' β'/\Dn env' β'
 | 0,k,env,β,hk,_,_=>by omega
 |n + 1,k,env,β,hk,h0,hs=>by
  obtain⟨c,β1,e1,hc⟩:=hs k env β h0
  unfold gX
  rw[e1]
  dsimp only[toS]
  rcases hc with⟨rfl,hd⟩ | ⟨rfl,env2,β2,k',e2,hl,h1⟩
  ·exact⟨_,_,rfl,hd⟩
  ·rw[NN rfl,e2]
   exact gc Pv Dn (n:=n) (k:=k') (by omega) h1 hs
end L2
namespace RM
open PySem L2
def qP:SF:=(bM (eN (f1 (gv 0) (jz "int")) (f1 (f1 (gv 0) (jz "bool")) C1)))
def qG (cn:List D->FR):SF:=(bM (eN (ao cn (aa (gv 0) ag)) (j7 (cst (.int 0)) (gv 0) (gv 1) C5 zX)))
def sD (cn:List D->FR):SF:=(bM (eN (ao cn (aa (gv 0) ag)) (j7 (cst (.int 1)) (gv 0) (cst (.int 8)) C5 C5)))
def jN (bw:List D->FR):SF:=(aG (jF ([] ++ ([] ++ [])) (mi (rJ (j3 (f1 (gv 0) (jz "tuple")))) (cI (f2 (f1 (gv 0) cc) (cst (.int 2)) (cp true))))
 (bM (cst (.bool false)))
 kZ)
 (bM (eN (ao bw (aa (f2 (gv 0) (cst (.int 0)) bo) (aa (gv 1) ag))) (ao bw (aa (f2 (gv 0) (cst (.int 1)) bo) (aa (gv 1) ag))))))
def ie:SF:=(qi (aN 1 [0] (.nm 0) (cY (f2 (gv 0) (gv 0) dS)) kU (cC (aa (f2 (gv 0) (gv 1) BP) (aa (f2 (gv 0) (gv 1) mY) ag)))))
def qr:SF:=(bM (f1 (aN 2 [] (.two 0 1) (bG (gv 0)) kU (f2 (gv 0) (gv 1) (cp false))) (de λbs=>bs.any id)))
def iJ (iq cx jJ fY:List D->FR):SF:=(aG (jF ([] ++ ([] ++ [])) (mi (rJ (j3 (f1 (gv 0) (jz "tuple")))) (cI (f2 (f1 (gv 0) cc) (cst (.int 2)) (cp true))))
 (bM (cst (.bool false)))
 kZ)
 (aG (bg 1 ([] ++ []) (f2 (gv 0) (cst (.int 0)) bo))
 (aG (bg 2 ([] ++ []) (f2 (gv 0) (cst (.int 1)) bo))
 (aG (jF (([1] ++ []) ++ []) (mi (rJ (j3 (ao iq (aa (gv 1) ag)))) (rJ (j3 (f1 (gv 2) (jz "tuple")))))
 (bM (cst (.bool false)))
 kZ)
 (aG (jF ([] ++ [1]) (rJ (j3 (f1 (aN 1 [1] (.nm 0) (bG (gv 2)) kU (ao cx (aa (gv 0) (aa (gv 1) ag)))) (de λbs=>bs.all id))))
 (bM (cst (.bool false)))
 kZ)
 (bM (eN (f2 (gv 2) (ao jJ (aa (gv 1) (aa (gv 2) ag))) (cp false)) (f1 (ao fY (aa (gv 2) ag)) C1))))))))
def hV (fM:List D->FR):SF:=(jF ([0] ++ []) (rJ (j3 (ao fM (aa (gv 0) ag))))
 (λenv β=>toS ((aa (cst (.str "this is no order")) ag) (vl env) β) λds _=>if ds.length<=sizeLine then .exc "NoOrder" else .bad)
 kZ)
def oV:SF:=(bM (eN (f2 (gv 1) (gv 2) (cp true)) (eN (f2 (cC (aa (gv 1) (aa (gv 2) ag))) (f2 (gv 0) (cst (.int 1)) bo) (nZ true)) (f2 (cC (aa (gv 2) (aa (gv 1) ag))) (f2 (gv 0) (cst (.int 1)) bo) (nZ true)))))
def gJ:SF:=(aG (jF ([] ++ []) (cI (f2 (gv 1) (f1 (gv 0) cc) zX))
 (bM (f2 (gv 0) (gv 1) bo))
 kZ)
 (bM (cst (.int 0))))
def kB:SF:=(aG (bg 2 [] (bD (Nh [48271,69621,16807,39373,30269,40014,40692,50021,61687,71993,83869,95561,30307]))) (aG (bg 3 ((((([] ++ []) ++ []) ++ ([] ++ ([] ++ []))) ++ ([] ++ [])) ++ ([] ++ ([] ++ []))) (f2 (f2 (f2 (f2 (f2 (gv 0) (cst (.int 2147483647)) mY) (cst (.int 12345)) dh) (f2 (gv 2) (f2 (gv 1) (cst (.int 13)) mY) bo) dS) (f2 (cst (.int 977)) (gv 1) dS) dh) (f2 (cst (.int 7919)) (f2 (gv 1) (cst (.int 13)) BP) dS) dh))
 (aG (bg 3 ([] ++ []) (f2 (gv 3) (cst (.int 1000000007)) mY))
 (bM (f2 (f2 (f2 (f2 (gv 3) (gv 3) dS) (f2 (cst (.int 48271)) (gv 1) dS) dh) (cst (.int 1000000007)) mY) (cst (.int 7)) BP)))))
def kJ (fm gi:List D->FR):SF:=(aG (bg 2 ([0] ++ ([1] ++ [])) (ao fm (aa (gv 0) (aa (gv 1) ag))))
 (aG (jF (([] ++ []) ++ []) (cI (f2 (f2 (gv 2) (cst (.int 2)) mY) (cst (.int 0)) (cp false)))
 (qi (bD (aa (f2 (f1 (gv 2) Fh) (cst (.int 2)) BP) ag)))
 kZ)
 (aG (bg 3 [] (cst (.int 0)))
 (aG (dr (.nm 4) [] (cY (cst (.int 40)))
 (bg 3 (([] ++ []) ++ ([2] ++ ([4] ++ []))) (f2 (f2 (gv 3) (cst (.int 142857143)) dS) (ao gi (aa (gv 2) (aa (gv 4) ag))) dh)))
 (qi (bD (aa (gv 3) ag)))))))
def dZ (aU:List D->Int->FB):SF:=(aG (gM 2 [] (f1 (gv 1) Ho))
 (aG (gM 3 [] (bD ag))
 (aG (gX ([] ++ []) (cI (f2 (gv 2) (bD ag) (cp true)))
 (kn 3 2 ([] ++ []) (mj 0 aU (aa (f1 (gv 2) cc) ag))) 1000)
 (qD 3))))
noncomputable def gq:SF:=(aG (bg 1 [] (f1 (gv 0) c3))
 (aG (bg 2 [] (f1 (cst (.int 1)) mF))
 (aG (gX ([] ++ []) (cI (f2 (gv 2) (f1 (gv 1) cc) (cp true)))
 (aG (bg 2 [] (f1 (gv 1) cc))
 (aG (bg 3 [] (bD ag))
 (aG (dr (.two 4 5) [1] (bG (gv 1))
 (bg 3 ([] ++ ([] ++ [4])) (f2 (gv 3) (aN 2 [5,4] (.two 0 1) (bG (gv 1)) (cI (f2 (gv 0) (gv 2) (cp false))) (cC (aa (gv 3) (aa (gv 1) ag)))) iZ)))
 (bg 1 ([] ++ []) (f1 (f2 (gv 1) (gv 3) iZ) c3))))) 1000)
 (bM (f1 (gv 1) lq)))))
def g7 (c7:List D->FR)(aU bt:List D->Int->FB):SF:=(aG (bg 2 ([] ++ ([1] ++ [])) (f2 (cst (.int 1)) (mj 0 aU (aa (gv 1) ag)) dh))
 (aG (bg 3 ([] ++ []) (mj 0 bt (aa (f1 (gv 2) fI) ag)))
 (aG (bg 4 (([] ++ ([] ++ ([] ++ ([] ++ [])))) ++ ([] ++ [])) (f2 (bD (aa (cst (.int 2)) (aa (cst (.int 3)) (aa (cst (.int 4)) (aa (cst (.int 7)) ag))))) (mj 0 aU (aa (cst (.int 4)) ag)) bo))
 (aG (gM 5 [] (bD ag))
 (aG (dr (.nm 6) [] (cY (gv 2))
 (dr (.nm 7) (([] ++ []) ++ []) (tD (f2 (gv 6) (cst (.int 1)) dh) (gv 2))
 (jF (([4] ++ []) ++ []) (cI (f2 (mj 0 aU (aa (gv 4) ag)) (cst (.int 0)) (cp false)))
 (jA 5 (([] ++ []) ++ (([] ++ []) ++ [])) (cC (aa (f2 (gv 3) (gv 6) bo) (aa (f2 (gv 3) (gv 7) bo) ag))))
 kZ)))
 (bM (cC (aa (gv 2) (aa (ao c7 (aa (gv 5) ag)) ag)))))))))
def pP (aF cU bW:List D->FR):SF:=(aG (mC ([0] ++ []) (ao aF (aa (gv 0) ag)))
 (qi (aN 2 [0] (.two 0 1) (bG (ao cU (aa (f2 (gv 0) (cst (.int 0)) bo) ag))) (j3 (ao bW (aa (gv 2) (aa (gv 0) (aa (gv 1) ag))))) (cC (aa (gv 0) (aa (gv 1) ag))))))
def KL:D->Bool
 | .int _=>true
 |_=>false
def k9:List D->FR
 | [d]=>if dP d=true then .bad else .ok (.bool (KL d)) false
 |_=>.bad
def uo {d:D}(h:dP d=false):k9 [d]=.ok (.bool (KL d)) false:=NV (by rw[h];exact Og)
def Fc (ds:List D)(h:k9 ds≠.bad):ba 1 1 qP ds=k9 ds:=by
 unfold k9 at h
 split at h
 ·rename_i d
  cases q:dP d with
  |true=>rw[q] at h;exact absurd rfl h
  |false=>
   rw[uo q]
   have e1:jz "int" d=some (.bool (DS d "int")):=by unfold jz;rw[q];rfl
   have e2:jz "bool" d=some (.bool (DS d "bool")):=by unfold jz;rw[q];rfl
   show fin (bM (eN (f1 (gv 0) (jz "int")) (f1 (f1 (gv 0) (jz "bool")) C1)) [.fz d] 0)=_
   unfold bM eN f1 gv
   simp only[uM,xP,xH,List.getElem?_cons_zero,yc,uO,mU,e1,e2]
   cases d <;> rfl
 ·exact absurd rfl h
def fF (d:D)(n:Int):Bool:=match d with
 | .int i=>decide (0<=i/\i < n)
 |_=>false
def cP:List D->FR
 | [d,.int n]=>if dP d=true then .bad else .ok (.bool (fF d n)) false
 |_=>.bad
def nr {d:D}{n:Int}(h:dP d=false):cP [d,.int n]=.ok (.bool (fF d n)) false:=NV (by rw[h];exact Og)
def wQ {i lo n:Int}{vs:List Nv}{β:Int}{fa fb fc:VF D}{g':D->D->Option D}{q:Bool}(ha:fa vs β=.ok (.int lo) β)(hb:fb vs β=.ok (.int i) β)(hc:fc vs β=.ok (.int n) β)(hq:g' (.int i) (.int n)=some (.bool q)):j7 fa fb fc C5 g' vs β=.ok (.bool (decide (lo<=i) && q)) β:=by
 unfold j7
 rw[ha];dsimp only[R.bnd];rw[hb];dsimp only[R.bnd]
 show (match (some (PyData.bool (decide (lo<=i))):Option D) with
  |some (.bool true)=>_
  |some (.bool false)=>_
  |_=>_)=_
 by_cases h:lo<=i
 ·rw[NS h]
  dsimp only
  rw[hc]
  dsimp only[R.bnd]
  rw[hq];rfl
 ·rw[NZ h];rfl
def E9 (ds:List D)(h:cP ds≠.bad):ba 2 2 (qG k9) ds=cP ds:=by
 unfold cP at h
 split at h
 ·rename_i d n
  cases q:dP d with
  |true=>rw[q] at h;exact absurd rfl h
  |false=>
   rw[nr q]
   show fin (bM (eN (ao k9 (aa (gv 0) ag)) (j7 (cst (.int 0)) (gv 0) (gv 1) C5 zX)) [.fz d,.fz (.int n)] 0)=_
   unfold bM eN ao
   simp only[uM,xP,xH,dw,z0,si,List.getElem?_cons_zero,yc,uO,mU,uo q]
   cases d with
   |int i=>
    show fin (toS (j7 (cst (.int 0)) (gv 0) (gv 1) C5 zX [.da (.int i),.da (.int n)] 0) _)=_
    rw[wQ (lo:=0) (i:=i) (n:=n) rfl rfl rfl rfl]
    show FR.ok (.bool (decide (0<=i) && decide (i < n))) false=.ok (.bool (decide (0<=i/\i < n))) false
    rw[Bool.decide_and]
   |_=>rfl
 ·exact absurd rfl h
def GP (d:D):Bool:=match d with
 | .int i=>decide (1<=i/\i<=8)
 |_=>false
def mn:List D->FR
 | [d]=>if dP d=true then .bad else .ok (.bool (GP d)) false
 |_=>.bad
def DQ {d:D}(h:dP d=false):mn [d]=.ok (.bool (GP d)) false:=NV (by rw[h];exact Og)
def Jc (ds:List D)(h:mn ds≠.bad):ba 1 1 (sD k9) ds=mn ds:=by
 unfold mn at h
 split at h
 ·rename_i d
  cases q:dP d with
  |true=>rw[q] at h;exact absurd rfl h
  |false=>
   rw[DQ q]
   show fin (bM (eN (ao k9 (aa (gv 0) ag)) (j7 (cst (.int 1)) (gv 0) (cst (.int 8)) C5 C5)) [.fz d] 0)=_
   unfold bM eN ao
   simp only[uM,xP,xH,dw,z0,si,List.getElem?_cons_zero,yc,uO,mU,uo q]
   cases d with
   |int i=>
    show fin (toS (j7 (cst (.int 1)) (gv 0) (cst (.int 8)) C5 C5 [.da (.int i)] 0) _)=_
    rw[wQ (lo:=1) (i:=i) (n:=8) rfl rfl rfl rfl]
    show FR.ok (.bool (decide (1<=i) && decide (i<=8))) false=.ok (.bool (decide (1<=i/\i<=8))) false
    rw[Bool.decide_and]
   |_=>rfl
 ·exact absurd rfl h
def pairF:List D->FR
 | [d,.int n]=>(match qX d with
  |some p=>.ok (.bool (decide ((0<=p.1/\p.1 < n)/\(0<=p.2/\p.2 < n)))) false
  |none=>.bad)
 |_=>.bad
def CU (p:Pr)(n:Int):pairF [aw p,.int n]=.ok (.bool (decide ((0<=p.1/\p.1 < n)/\(0<=p.2/\p.2 < n)))) false:=rfl
def Jp (ds:List D)(h:pairF ds≠.bad):ba 2 2 (jN cP) ds=pairF ds:=by
 unfold pairF at h
 split at h
 ·rename_i d n
  cases q:qX d with
  |none=>rw[q] at h;exact absurd rfl h
  |some p=>
   obtain rfl:=vC q
   rw[CU]
   obtain⟨a,b⟩:=p
   show fin (toS (eN (ao cP (aa (f2 (gv 0) (cst (.int 0)) bo) (aa (gv 1) ag))) (ao cP (aa (f2 (gv 0) (cst (.int 1)) bo) (aa (gv 1) ag))) [.da (.tuple [.int a,.int b]),.da (.int n)] 0) λd β'=>.rt d false β')=_
   have e1:ao cP (aa (f2 (gv 0) (cst (.int 0)) bo) (aa (gv 1) ag)) [.da (.tuple [.int a,.int b]),.da (.int n)] 0=.ok (.bool (decide (0<=a/\a < n))) 0:=rfl
   have e2:ao cP (aa (f2 (gv 0) (cst (.int 1)) bo) (aa (gv 1) ag)) [.da (.tuple [.int a,.int b]),.da (.int n)] 0=.ok (.bool (decide (0<=b/\b < n))) 0:=rfl
   unfold eN
   rw[e1]
   dsimp only[R.bnd]
   by_cases c:0<=a/\a < n
   ·rw[NS c,e2]
    show FR.ok (.bool (decide (0<=b/\b < n))) false=.ok (.bool (decide ((0<=a/\a < n)/\(0<=b/\b < n)))) false
    simp[c]
   ·rw[NZ c]
    show FR.ok (.bool false) false=.ok (.bool (decide ((0<=a/\a < n)/\(0<=b/\b < n)))) false
    simp[c]
 ·exact absurd rfl h
def aB (n:Nat)(l:List Pr):D:=.tuple [.int n,.tuple (l.map aw)]
open Classical in
noncomputable def sO (f:Nat->List Pr->FR):D->FR:=λd=>if h:∃nl:Nat×List Pr,d=aB nl.1 nl.2/\OM.Ord nl.1 nl.2 then f (Classical.choose h).1 (Classical.choose h).2 else .bad
def EV {p q:Pr}(h:aw p=aw q):p=q:=by
 obtain⟨a,b⟩:=p
 obtain⟨c,d⟩:=q
 unfold aw at h
 simp at h
 rw[h.1,h.2]
theorem oW:∀{l m:List Pr},l.map aw=m.map aw->l=m
 | [],[],_=>rfl
 | [],_ :: _,h=>by cases h
 |_ :: _,[],h=>by cases h
 |p :: l,q :: m,h=>by
  simp only[OE,List.cons.injEq] at h
  rw[EV h.1,oW h.2]
def Dp {n m:Nat}{l k:List Pr}(h:aB n l=aB m k):n=m/\l=k:=by
 unfold aB at h
 simp only[PyData.tuple.injEq,List.cons.injEq,int.injEq,and_true] at h
 exact⟨by omega,oW h.2⟩
def wG {f:Nat->List Pr->FR}{n:Nat}{l:List Pr}(O:OM.Ord n l):sO f (aB n l)=f n l:=by
 unfold sO
 have h:∃nl:Nat×List Pr,aB n l=aB nl.1 nl.2/\OM.Ord nl.1 nl.2:=⟨(n,l),rfl,O⟩
 rw[dif_pos h]
 obtain⟨e,_⟩:=Classical.choose_spec h
 obtain⟨e1,e2⟩:=Dp e
 rw[<-e1,<-e2]
def vN {f:Nat->List Pr->FR}{d:D}(h:sO f d≠.bad):∃n l,d=aB n l/\OM.Ord n l:=by
 unfold sO at h
 by_cases q:∃nl:Nat×List Pr,d=aB nl.1 nl.2/\OM.Ord nl.1 nl.2
 ·obtain⟨nl,e,O⟩:=q;exact⟨nl.1,nl.2,e,O⟩
 ·rw[dif_neg q] at h;exact absurd rfl h
noncomputable def dI:List D->FR
 | [.int n,d]=>(match kW d with
  |some ds=>(match gV ds with
   |some ps=>(open Classical in if 1<=n/\n<=8/\OM.Wn n.toNat ps then .ok (.tuple ((OM.cJ n.toNat (OM.Tr (OM.Mem ps))).map aw)) false else .bad)
   |none=>.bad)
  |none=>.bad)
 |_=>.bad
def CW {n:Nat}{ps:List Pr}(h1:1<=n)(h8:n<=8)(w:OM.Wn n ps):dI [.int n,.tuple (ps.map aw)]=.ok (.tuple ((OM.cJ n (OM.Tr (OM.Mem ps))).map aw)) false:=by
 unfold dI
 simp only[kW,iN]
 rw[NN ⟨by omega,by omega,by rw[Oj];exact w⟩,Oj]
def kS:List D->FR
 | [.tuple ds]=>(match gV ds with
  |some ps=>if ps.length<=1000 then .ok (.bool (ps.any λp=>decide (p.1=p.2))) false else .bad
  |none=>.bad)
 |_=>.bad
theorem il {α:Type}(f:α->Bool):∀l:List α,lF (l.map λx=>PyData.bool (f x))=some (l.map f)
 | []=>rfl
 |x :: l=>by
  show (lF (l.map λx=>PyData.bool (f x))).map (f x :: ·)=_
  rw[il f l];rfl
def IS (ds:List D)(h:kS ds≠.bad):ba 1 1 qr ds=kS ds:=by
 unfold kS at h
 split at h
 ·rename_i ds
  cases q:gV ds with
  |none=>rw[q] at h;exact absurd rfl h
  |some ps=>
   rw[q] at h
   dsimp only at h
   by_cases hz:ps.length<=1000
   case neg=>rw[NV hz] at h;exact absurd rfl h
   obtain rfl:=lW q
   have e:kS [.tuple (ps.map aw)]=.ok (.bool (ps.any λp=>decide (p.1=p.2))) false:=by
    unfold kS;simp only[iN];rw[NN hz]
   rw[e]
   have ec:aN 2 [] (.two 0 1) (bG (gv 0)) kU (f2 (gv 0) (gv 1) (cp false)) [.da (.tuple (ps.map aw))] 0=.ok (.list (ps.map λp=>PyData.bool (decide (p.1=p.2)))) 0:=by
    exact cR (l:=ps) (e:=aw) (λp=>PyData.bool (decide (p.1=p.2))) rfl hz λp hp=>⟨_,rfl,rfl⟩
   show fin (toS ((aN 2 [] (.two 0 1) (bG (gv 0)) kU (f2 (gv 0) (gv 1) (cp false)) [.da (.tuple (ps.map aw))] 0).bnd λx β1=>R.of (de (λbs=>bs.any id) x) β1) λd β'=>.rt d false β')=_
   rw[ec]
   simp only[mU,de]
   rw[il]
   simp[fin,List.any_map]
 ·exact absurd rfl h
def oy (p:Pr):SeqAt.shaped (aw p)=true:=rfl
theorem tO:∀l:List Pr,PyData.canLayAll0 (l.map aw)=true
 | []=>rfl
 |p :: l=>by
  show ((aw p).canLay0 && PyData.canLayAll0 (l.map aw))=true
  rw[tO l];rfl
theorem uF:∀l:List Pr,PyData.depthAll (l.map aw)<=1
 | []=>by show (0:Nat)<=1;omega
 |p :: l=>by
  show max (aw p).depth (PyData.depthAll (l.map aw))<=1
  have h1:(aw p).depth=1:=by simp[aw,PyData.depth,PyData.depthAll]
  have h2:=uF l
  omega
def rg (l:List Pr):SeqAt.shaped (.tuple (l.map aw))=true:=by
 unfold SeqAt.shaped
 have h1:(PyData.tuple (l.map aw)).canLay0=true:=by simp only[PyData.canLay0];exact tO l
 have h2:(PyData.tuple (l.map aw)).depth<=64:=by simp only[PyData.depth];have:=uF l;omega
 rw[h1,NS h2];rfl
def qp (l:List Pr):SeqAt.shaped (.list (l.map aw))=true:=by
 unfold SeqAt.shaped
 have h1:(PyData.list (l.map aw)).canLay0=true:=by simp only[PyData.canLay0];exact tO l
 have h2:(PyData.list (l.map aw)).depth<=64:=by simp only[PyData.depth];have:=uF l;omega
 rw[h1,NS h2];rfl
def CB (p q:Pr):PyData.eqv (aw p) (aw q)=decide (p=q):=by
 obtain⟨a,b⟩:=p
 obtain⟨c,d⟩:=q
 simp only[aw,PyData.eqv,PyData.eqvAll,Bool.and_true]
 rw[Ox]
 simp
theorem uk:∀l m:List Pr,PyData.eqvAll (l.map aw) (m.map aw)=decide (l=m)
 | [],[]=>rfl
 | [],_ :: _=>rfl
 |_ :: _,[]=>rfl
 |p :: l,q :: m=>by
  show (PyData.eqv (aw p) (aw q) && PyData.eqvAll (l.map aw) (m.map aw))=_
  rw[CB,uk l m,Ox]
  simp
def tP {n:Nat}{l:List Pr}(O:OM.Ord n l):l.length < 64:=by
 have h8:=O.hi
 have e:=O.closed
 by_cases h:l.length < 64
 ·exact h
 ·exfalso
  have h1:l.length<=n * n:=by rw[<-e];exact OM.Cq _ _
  have h2:n * n<=64:=O5 h8 h8
  have hn:n=8:=by
   by_cases h7:n<=7
   ·have:n * n<=7 * 7:=O5 h7 h7
    omega
   ·omega
  have hlen:l.length=n * n:=by subst hn;omega
  have hg:l=OM.cN n:=by
   refine OM.sub_eq O.ris (OM.jO n) (λx hx=>OM.bH.mpr (O.wn x hx)) ?_
   rw[hlen];unfold OM.cN;simp
  have:((0:Int),(0:Int))∈l:=by rw[hg];exact OM.bH.mpr ⟨⟨by omega,by omega⟩,by omega,by omega⟩
  exact O.irr 0 this
def BW {n:Nat}(h1:1<=n)(h8:n<=8):mn [.int n]=.ok (.bool true) false:=by
 rw[DQ rfl]
 show FR.ok (.bool (decide (1<=(n:Int)/\(n:Int)<=8))) false=_
 rw[NS (by omega)]
def Cf (neg:Bool)(l m:List Pr):cp neg (.tuple (l.map aw)) (.tuple (m.map aw))=some (.bool (if neg then !decide (l=m) else decide (l=m))):=by
 unfold cp
 rw[rg,rg]
 simp only[PL,OP,PyData.eqv,uk]
def vQ (neg:Bool)(l m:List Pr):cp neg (.list (l.map aw)) (.list (m.map aw))=some (.bool (if neg then !decide (l=m) else decide (l=m))):=by
 unfold cp
 rw[qp,qp]
 simp only[PL,OP,PyData.eqv,uk]
def EB {n:Nat}{l:List Pr}(O:OM.Ord n l):kS [.tuple (l.map aw)]=.ok (.bool false) false:=by
 have hl:=tP O
 unfold kS
 simp only[iN]
 rw[NN (by omega)]
 have:(l.any λp=>decide (p.1=p.2))=false:=by
  rw[List.any_eq_false]
  intro p hp
  simp only[N2]
  intro e
  obtain⟨a,b⟩:=p
  simp only at e
  subst e
  exact O.irr a hp
 rw[this]
def Ao {n:Nat}{l:List Pr}(O:OM.Ord n l):ba 3 1 (iJ mn pairF dI kS) [aB n l]=.ok (.bool true) false:=by
 have hl:=tP O
 show fin (iJ mn pairF dI kS [.fz (aB n l),.no,.no] 0)=_
 unfold iJ
 rw[au (env':=[.fz (aB n l),.no,.no]) (β':=0) (by rfl)]
 rw[au (env':=[.fz (aB n l),.fz (.int n),.no]) (β':=0) (by rfl)]
 rw[au (env':=[.fz (aB n l),.fz (.int n),.fz (.tuple (l.map aw))]) (β':=0) (by rfl)]
 have e4:ao mn (aa (gv 1) ag) [.da (aB n l),.da (.int n),.da (.tuple (l.map aw))] 0=.ok (.bool true) 0:=ax rfl (BW O.lo O.hi)
 rw[au (env':=[.fz (aB n l),.fz (.int n),.fz (.tuple (l.map aw))]) (β':=0) ?h4]
 case h4=>
  refine fK ?_
  show mi (rJ (j3 (ao mn (aa (gv 1) ag)))) _ [.da (aB n l),.da (.int n),.da (.tuple (l.map aw))] 0=_
  rw[pM,ua,va,e4]
  rfl
 have e5:aN 1 [1] (.nm 0) (bG (gv 2)) kU (ao pairF (aa (gv 0) (aa (gv 1) ag))) [.da (aB n l),.da (.int n),.da (.tuple (l.map aw))] 0=.ok (.list (l.map λ_=>PyData.bool true)) 0:=by
  refine cR (l:=l) (e:=aw) (λ_=>PyData.bool true) rfl (by omega) λp hp=>⟨_,rfl,?_⟩
  refine ax (b:=false) (ds:=[aw p,.int n]) rfl ?_
  rw[CU,NS (by have:=O.wn p hp;exact this)]
 rw[au (env':=[.fz (aB n l),.fz (.int n),.fz (.tuple (l.map aw))]) (β':=0) ?h5]
 case h5=>
  refine fK ?_
  show rJ (j3 (f1 (aN 1 [1] (.nm 0) (bG (gv 2)) kU (ao pairF (aa (gv 0) (aa (gv 1) ag)))) (de λbs=>bs.all id))) [.da (aB n l),.da (.int n),.da (.tuple (l.map aw))] 0=_
  rw[ua,va,dU (d:=.bool true) e5 (by simp only[de];rw[il];simp)]
  rfl
 have e6:ao dI (aa (gv 1) (aa (gv 2) ag)) [.da (aB n l),.da (.int n),.da (.tuple (l.map aw))] 0=.ok (.tuple (l.map aw)) 0:=ax rfl (by rw[CW O.lo O.hi O.wn,O.closed])
 have e7:ao kS (aa (gv 2) ag) [.da (aB n l),.da (.int n),.da (.tuple (l.map aw))] 0=.ok (.bool false) 0:=ax rfl (EB O)
 show fin (toS (eN (f2 (gv 2) (ao dI (aa (gv 1) (aa (gv 2) ag))) (cp false)) (f1 (ao kS (aa (gv 2) ag)) C1) [.da (aB n l),.da (.int n),.da (.tuple (l.map aw))] 0) _)=_
 unfold eN
 rw[az (d:=.bool true) (x:=.tuple (l.map aw)) rfl e6 (by rw[Cf];simp)]
 dsimp only[R.bnd]
 rw[dU (d:=.bool true) e7 rfl]
 rfl
noncomputable def fD:List D->FR
 | [d]=>sO (λ_ _=>.ok (.bool true) false) d
 |_=>.bad
def sQ {n:Nat}{l:List Pr}(O:OM.Ord n l):fD [aB n l]=.ok (.bool true) false:=by simp only[fD];exact wG O
def yb (ds:List D)(h:fD ds≠.bad):ba 3 1 (iJ mn pairF dI kS) ds=fD ds:=by
 unfold fD at h
 split at h
 ·obtain⟨n,l,rfl,O⟩:=vN h
  rw[Ao O,sQ O]
 ·exact absurd rfl h
noncomputable def fJ:List D->FR
 | [d]=>sO (λ_ _=>.ok .none false) d
 |_=>.bad
def mV {n:Nat}{l:List Pr}(O:OM.Ord n l):fJ [aB n l]=.ok .none false:=by simp only[fJ];exact wG O
def E4 (ds:List D)(h:fJ ds≠.bad):ba 1 1 (hV fD) ds=fJ ds:=by
 unfold fJ at h
 split at h
 ·obtain⟨n,l,rfl,O⟩:=vN h
  rw[mV O]
  have e:ao fD (aa (gv 0) ag) [.da (aB n l)] 0=.ok (.bool true) 0:=ax (ds:=[aB n l]) rfl (sQ O)
  show fin (hV fD [.fz (aB n l)] 0)=_
  unfold hV
  rw[fK (β':=0)]
  ·rfl
  ·show rJ (j3 (ao fD (aa (gv 0) ag))) [.da (aB n l)] 0=_
   rw[ua,va,e];rfl
 ·exact absurd rfl h
abbrev cX (ns:List Int):D:=.dict [(.none,.list (ns.map int))]
def oo {i j:Int}(h: -(2 ^ 64) < i/\i < 2 ^ 64):dS (.int i) (.int j)=some (.int (i * j)):=NN (by dsimp only;rw[NS h.1,NS h.2];rfl)
def yr {i j:Int}(h: -(2 ^ 64) < j/\j < 2 ^ 64):dS (.int i) (.int j)=some (.int (i * j)):=NN (by dsimp only;rw[NS h.1,NS h.2,PL,Bool.or_true])
def oN {i j:Int}(h:0 < j):mY (.int i) (.int j)=some (.int (i % j)):=NN (NS h)
def z8 {i j:Int}(h:0 < j)(h2:j < 1073741824):BP (.int i) (.int j)=some (.int (i / j)):=NN (by dsimp only;rw[NS h,NS h2];rfl)
theorem cT {α β:Type}(f:α->β)(l:List α)(i:Int):ik (l.map f) i=(ik l i).map f:=by
 unfold ik
 rw[NT]
 cases pQ l.length i with
 |none=>rfl
 |some j=>simp
def gZ {α:Type}{l:List α}{k:Nat}(h:k < l.length):ik l (k:Int)=some l[k]:=ko (NK h)
def IQ {fa fb:VF D}{vs:List Nv}{β β1 β2:Int}{i j:Int}(h:fa vs β=.ok (.int i) β1)(h':fb vs β1=.ok (.int j) β2):cI (f2 fa fb zX) vs β=.ok (decide (i < j)) β2:=bO _ _ _ _ (az h h' rfl)
def gp {neg:Bool}{fa fb:VF D}{vs:List Nv}{β β1 β2:Int}{i j:Int}(h:fa vs β=.ok (.int i) β1)(h':fb vs β1=.ok (.int j) β2):cI (f2 fa fb (cp neg)) vs β=.ok (if neg then !decide (i=j) else decide (i=j)) β2:=by
 refine bO _ _ _ _ (az h h' ?_)
 cases neg <;> rfl
def Jr (ns:List Int)(k:Nat):∃z,ba 2 2 gJ [cX ns,.int k]=.ok (.int z) false:=by
 show ∃z,fin (gJ [.fz (cX ns),.fz (.int k)] 0)=.ok (.int z) false
 unfold gJ
 have e:cI (f2 (gv 1) (f1 (gv 0) cc) zX) [.da (cX ns),.da (.int k)] 0=.ok (decide ((k:Int) < (ns.map int).length)) 0:=IQ rfl rfl
 by_cases h:k < ns.length
 ·refine⟨ns[k],?_⟩
  rw[NS (by simp;exact h)] at e
  rw[gx (d:=.int ns[k]) (b:=false) (β':=0)]
  ·rfl
  ·rw[jq e]
   show toS (f2 (gv 0) (gv 1) bo [.da (cX ns),.da (.int k)] 0) _=_
   rw[az (x:=cX ns) (y:=.int k) (d:=.int ns[k]) (β1:=0) (β2:=0) rfl rfl]
   ·rfl
   ·show ik (ns.map int) (k:Int)=_
    rw[cT,gZ h];rfl
 ·refine⟨0,?_⟩
  rw[NZ (by simp;omega)] at e
  rw[au (env':=[.fz (cX ns),.fz (.int k)]) (β':=0)]
  ·rfl
  ·rw[fK e];rfl
noncomputable def zb:List D->FR:=ba 2 2 gJ
noncomputable def D3:List D->FR:=ba 4 2 kB
abbrev xE:List Int:=[48271,69621,16807,39373,30269,40014,40692,50021,61687,71993,83869,95561,30307]
def J4 (c k:Int):∃z,D3 [.int c,.int k]=.ok (.int z) false:=by
 show ∃z,fin (kB [.fz (.int c),.fz (.int k),.no,.no] 0)=.ok (.int z) false
 unfold kB
 rw[au (env':=[.fz (.int c),.fz (.int k),.fz (.list (xE.map int)),.no]) (β':=0) (by rfl)]
 obtain⟨j,hj⟩:∃j:Nat,k % 13=j:=⟨(k % 13).toNat,by omega⟩
 have hj13:j < xE.length:=by show j < 13;omega
 have e1:f2 (f2 (f2 (f2 (f2 (gv 0) (cst (.int 2147483647)) mY) (cst (.int 12345)) dh) (f2 (gv 2) (f2 (gv 1) (cst (.int 13)) mY) bo) dS) (f2 (cst (.int 977)) (gv 1) dS) dh) (f2 (cst (.int 7919)) (f2 (gv 1) (cst (.int 13)) BP) dS) dh [.da (.int c),.da (.int k),.da (.list (xE.map int)),.no] 0
   =.ok (.int ((c % 2147483647 + 12345) * xE[j] + 977 * k + 7919 * (k / 13))) 0:=by
  refine az (az (az (az (az (x:=.int c) (y:=.int 2147483647) rfl rfl (oN (by omega))) rfl rfl) (az (x:=.list (xE.map int)) rfl (az (x:=.int k) (y:=.int 13) rfl rfl (oN (by omega))) (d:=.int xE[j]) ?_) (oo ⟨by omega,by omega⟩)) (az (x:=.int 977) (y:=.int k) rfl rfl (oo ⟨by omega,by omega⟩)) rfl) (az (x:=.int 7919) rfl (az (x:=.int k) (y:=.int 13) rfl rfl (z8 (by omega) (by omega))) (oo ⟨by omega,by omega⟩)) rfl
  show ik (xE.map int) (k % 13)=_
  rw[hj,cT,gZ hj13];rfl
 generalize ((c % 2147483647 + 12345) * xE[j] + 977 * k + 7919 * (k / 13))=st at e1
 rw[au (env':=[.fz (.int c),.fz (.int k),.fz (.list (xE.map int)),.fz (.int st)]) (β':=0) ?h]
 case h=>
  show toS (f2 _ _ dh [.da (.int c),.da (.int k),.da (.list (xE.map int)),.no] 0) _=_
  rw[e1];rfl
 have e2:f2 (gv 3) (cst (.int 1000000007)) mY [.da (.int c),.da (.int k),.da (.list (xE.map int)),.da (.int st)] 0=.ok (.int (st % 1000000007)) 0:=az rfl rfl (oN (by omega))
 rw[au (env':=[.fz (.int c),.fz (.int k),.fz (.list (xE.map int)),.fz (.int (st % 1000000007))]) (β':=0) ?h2]
 case h2=>
  show toS (f2 (gv 3) (cst (.int 1000000007)) mY [.da (.int c),.da (.int k),.da (.list (xE.map int)),.da (.int st)] 0) _=_
  rw[e2];rfl
 have hb: -(2 ^ 64) < st % 1000000007/\st % 1000000007 < 2 ^ 64:=⟨by omega,by omega⟩
 generalize st % 1000000007=u at hb
 have e3:f2 (f2 (f2 (f2 (gv 3) (gv 3) dS) (f2 (cst (.int 48271)) (gv 1) dS) dh) (cst (.int 1000000007)) mY) (cst (.int 7)) BP [.da (.int c),.da (.int k),.da (.list (xE.map int)),.da (.int u)] 0=.ok (.int ((u * u + 48271 * k) % 1000000007 / 7)) 0:=
  az (az (az (az (x:=.int u) (y:=.int u) rfl rfl (oo hb)) (az (x:=.int 48271) (y:=.int k) rfl rfl (oo ⟨by omega,by omega⟩)) rfl) rfl (oN (by omega))) rfl (z8 (by omega) (by omega))
 refine⟨(u * u + 48271 * k) % 1000000007 / 7,?_⟩
 show fin (toS (f2 _ (cst (.int 7)) BP [.da (.int c),.da (.int k),.da (.list (xE.map int)),.da (.int u)] 0) _)=_
 rw[e3];rfl
noncomputable def Jv:List D->FR:=ba 5 2 (kJ zb D3)
def K0 (ns:List Int)(k:Nat):∃z,Jv [cX ns,.int k]=.ok (.list [.int z]) true:=by
 obtain⟨c,hc⟩:=Jr ns k
 show ∃z,fin (kJ zb D3 [.fz (cX ns),.fz (.int k),.no,.no,.no] 0)=.ok (.list [.int z]) true
 unfold kJ
 have e0:ao zb (aa (gv 0) (aa (gv 1) ag)) [.da (cX ns),.da (.int k),.no,.no,.no] 0=.ok (.int c) 0:=ax rfl hc
 rw[au (env':=[.fz (cX ns),.fz (.int k),.fz (.int c),.no,.no]) (β':=0) ?h]
 case h=>
  show toS (ao zb _ [.da (cX ns),.da (.int k),.no,.no,.no] 0) _=_
  rw[e0];rfl
 have e1:cI (f2 (f2 (gv 2) (cst (.int 2)) mY) (cst (.int 0)) (cp false)) [.da (cX ns),.da (.int k),.da (.int c),.no,.no] 0=.ok (decide (c % 2=0)) 0:=gp (neg:=false) (az rfl rfl (oN (by omega))) rfl
 by_cases h:c % 2=0
 ·rw[NS h] at e1
  refine⟨(if c < 0 then -c else c) / 2,?_⟩
  rw[gx (d:=.list [.int ((if c < 0 then -c else c) / 2)]) (b:=true) (β':=0)]
  ·rfl
  ·rw[jq e1]
   show toS (bD (aa (f2 (f1 (gv 2) Fh) (cst (.int 2)) BP) ag) [.da (cX ns),.da (.int k),.da (.int c),.no,.no] 0) _=_
   rw[gm (ds:=[.int ((if c < 0 then -c else c) / 2)]) (β1:=0)]
   ·rfl
   ·have e2:f2 (f1 (gv 2) Fh) (cst (.int 2)) BP [.da (cX ns),.da (.int k),.da (.int c),.no,.no] 0=.ok (.int ((if c < 0 then -c else c) / 2)) 0:=az (dU (x:=.int c) rfl rfl) rfl (z8 (by omega) (by omega))
    rw[dw,e2];rfl
   ·simp
 ·rw[NZ h] at e1
  rw[au (env':=[.fz (cX ns),.fz (.int k),.fz (.int c),.no,.no]) (β':=0) (by rw[fK e1];rfl)]
  rw[au (env':=[.fz (cX ns),.fz (.int k),.fz (.int c),.fz (.int 0),.no]) (β':=0) (by rfl)]
  obtain⟨env',β',el,z,x,rfl,rfl⟩:=c6 (t:=.nm 4) (m:=bg 3 (([] ++ []) ++ ([2] ++ ([4] ++ []))) (f2 (f2 (gv 3) (cst (.int 142857143)) dS) (ao D3 (aa (gv 2) (aa (gv 4) ag))) dh)) (ds:=cO 0 40) (k:=0)
   (λ_ env β=>∃(z:Int) (x:Sl),env= [.fz (cX ns),.fz (.int k),.fz (.int c),.fz (.int z),x]/\β=0) (env:=[.fz (cX ns),.fz (.int k),.fz (.int c),.fz (.int 0),.no]) (β:=0) ⟨0,.no,rfl,rfl⟩ (by
    rintro i d env β hi ⟨z,x,rfl,rfl⟩
    obtain⟨j,rfl⟩:∃j:Int,d=.int j:=by
     unfold cO at hi
     rw[NW] at hi
     cases q:(List.range 40)[i]? with
     |none=>rw[q] at hi;cases hi
     |some j=>rw[q] at hi;cases hi;exact⟨_,rfl⟩
    obtain⟨y,hy⟩:=J4 c j
    refine⟨_,rfl,_,_,?_,z * 142857143 + y,.fz (.int j),rfl,rfl⟩
    show toS (f2 (f2 (gv 3) (cst (.int 142857143)) dS) (ao D3 (aa (gv 2) (aa (gv 4) ag))) dh [.da (cX ns),.da (.int k),.da (.int c),.da (.int z),.da (.int j)] 0) _=_
    rw[az (d:=.int (z * 142857143 + y)) (az (x:=.int z) (y:=.int 142857143) (β1:=0) (β2:=0) rfl rfl (yr ⟨by omega,by omega⟩)) (ax (ds:=[.int c,.int j]) (β1:=0) rfl hy) rfl]
    rfl)
  refine⟨z,?_⟩
  rw[au (env':=[.fz (cX ns),.fz (.int k),.fz (.int c),.fz (.int z),x]) (β':=0) ?h2]
  case h2=>exact el
  show fin (toS (bD (aa (gv 3) ag) [.da (cX ns),.da (.int k),.da (.int c),.da (.int z),x.val] 0) _)=_
  rw[gm (ds:=[.int z]) (β1:=0) rfl (by simp)]
  rfl
noncomputable def lh:List D->Int->FB:=wZ 4 1 (dZ dq)
theorem lay_ints:∀ns:List Int,PyData.canLayAll0 (ns.map int)=true
 | []=>rfl
 |n :: ns=>by
  show ((int n).canLay0 && PyData.canLayAll0 (ns.map int))=true
  rw[lay_ints ns];rfl
theorem p4:∀ns:List Int,PyData.depthAll (ns.map int)=0
 | []=>rfl
 |n :: ns=>by
  show max (int n).depth (PyData.depthAll (ns.map int))=0
  rw[p4 ns];rfl
def shaped_ints (ns:List Int):SeqAt.shaped (.list (ns.map int))=true:=by
 unfold SeqAt.shaped
 have h1:(PyData.list (ns.map int)).canLay0=true:=by simp only[PyData.canLay0];exact lay_ints ns
 have h2:(PyData.list (ns.map int)).depth<=64:=by simp only[PyData.depth];rw[p4];omega
 rw[h1,NS h2];rfl
theorem qV:∀l m:List Int,PyData.eqvAll (l.map int) (m.map int)=decide (l=m)
 | [],[]=>rfl
 | [],_ :: _=>rfl
 |_ :: _,[]=>rfl
 |p :: l,q :: m=>by
  show ((p == q) && PyData.eqvAll (l.map int) (m.map int))=_
  rw[qV l m,Ox]
  simp
def qE (neg:Bool)(l m:List Int):cp neg (.list (l.map int)) (.list (m.map int))=some (.bool (if neg then !decide (l=m) else decide (l=m))):=by
 unfold cp
 rw[shaped_ints,shaped_ints]
 simp only[PL,OP,PyData.eqv,qV]
theorem iM {α:Type}:∀{l:List α} {k:Nat} {x:α},l[k]? =some x->(x :: l.eraseIdx k).Perm l
 | [],_,_,h=>by simp at h
 |y :: l,0,x,h=>by simp at h;subst h;exact List.Perm.refl _
 |y :: l,k + 1,x,h=>by
  have h:l[k]? =some x:=by simpa using h
  have ih:=iM h
  show (x :: y :: l.eraseIdx k).Perm (y :: l)
  exact (List.Perm.swap y x _).trans (ih.cons y)
theorem tw {α β:Type}(f:α->β):∀(l:List α) (k:Nat),(l.map f).eraseIdx k=(l.eraseIdx k).map f
 | [],_=>rfl
 |_ :: _,0=>rfl
 |x :: l,k + 1=>by simp[tw f l k]
def za (ns:List Int)(hz:ns.length<=100)(β:Int):∃(ms:List Int) (β':Int),lh [.list (ns.map int)] β=.ok (.list (ms.map int)) true β'/\ms.Perm ns:=by
 show ∃(ms:List Int) (β':Int),Gq (dZ dq [.bx,.fz (.list (ns.map int)),.no,.no] β)=.ok (.list (ms.map int)) true β'/\ms.Perm ns
 unfold dZ
 rw[au (env':=[.bx,.fz (.list (ns.map int)),.ow (.list (ns.map int)),.no]) (β':=β) (by rfl)]
 have ez:bD ag [Nv.bx,.da (.list (ns.map int)),.da (.list (ns.map int)),.no] β=.ok (.list []) β:=gm rfl (by simp)
 rw[au (env':=[.bx,.fz (.list (ns.map int)),.ow (.list (ns.map int)),.ow (.list [])]) (β':=β) ?h]
 case h=>
  show toS (bD ag [Nv.bx,.da (.list (ns.map int)),.da (.list (ns.map int)),.no] β) _=_
  rw[ez];rfl
 obtain⟨env',β',ew,ms,rfl,hp⟩:=gc (L:=[] ++ []) (t:=cI (f2 (gv 2) (bD ag) (cp true))) (m:=kn 3 2 ([] ++ []) (mj 0 dq (aa (f1 (gv 2) cc) ag)))
  (λk env β=>∃ls ms:List Int,env= [.bx,.fz (.list (ns.map int)),.ow (.list (ls.map int)),.ow (.list (ms.map int))]/\(ms ++ ls).Perm ns/\k=ls.length)
  (λenv β=>∃ms:List Int,env= [.bx,.fz (.list (ns.map int)),.ow (.list []),.ow (.list (ms.map int))]/\ms.Perm ns) (n:=1000) (k:=ns.length) (env:=[.bx,.fz (.list (ns.map int)),.ow (.list (ns.map int)),.ow (.list [])]) (β:=β) (by omega) ⟨ns,[],rfl,by simp,rfl⟩ (by
   rintro k env β ⟨ls,ms,rfl,hp,rfl⟩
   have e1:bD ag [Nv.bx,.da (.list (ns.map int)),.da (.list (ls.map int)),.da (.list (ms.map int))] β=.ok (.list (([]:List Int).map int)) β:=gm rfl (by simp)
   have et:cI (f2 (gv 2) (bD ag) (cp true)) [Nv.bx,.da (.list (ns.map int)),.da (.list (ls.map int)),.da (.list (ms.map int))] β=.ok (!decide (ls= [])) β:=
    bO _ _ _ _ (az (x:=.list (ls.map int)) rfl e1 (by rw[qE];rfl))
   refine⟨_,_,et,?_⟩
   have hlen:=hp.length_eq
   rw[Of] at hlen
   cases ls with
   |nil=>exact .inl ⟨rfl,ms,rfl,by simpa using hp⟩
   |cons y ys=>
    refine .inr ⟨rfl,?_⟩
    have hm:(0:Int) < ((y :: ys).length:Nat)/\(((y :: ys).length:Nat):Int) < 1073741824:=by
     have:(y :: ys).length<=100:=by omega
     constructor
     ·simp
     ·omega
    obtain⟨j,hj⟩:∃j:Nat,β % (((y :: ys).length:Nat):Int)=j:=⟨(β % (((y :: ys).length:Nat):Int)).toNat,by have:=Int.emod_nonneg β (b:=(((y :: ys).length:Nat):Int)) (by omega);omega⟩
    have hj2:j < (y :: ys).length:=by have:=Int.emod_lt_of_pos β hm.1;omega
    have ef:mj 0 dq (aa (f1 (gv 2) cc) ag) [Nv.bx,.da (.list (ns.map int)),.da (.list ((y :: ys).map int)),.da (.list (ms.map int))] β=.ok (.int (j:Int)) (β / (((y :: ys).length:Nat):Int)):=by
     refine iK (ds:=[.int (((y :: ys).length:Nat):Int)]) (b:=false) (by rfl) ?_ (by rw[u5 hm.1 hm.2,hj])
     show R.ok [int ((((y :: ys).map int).length:Nat):Int)] β=_
     rw[NT]
    have hpop:Bs ((y :: ys).map int) (.int (j:Int))=some (.int (y :: ys)[j],((y :: ys).eraseIdx j).map int):=by
     unfold Bs
     dsimp only
     rw[NN ⟨by omega,by omega⟩]
     have es:seqIndex? (j:Int) ((y :: ys).map int).length=some j:=by
      rw[NT]
      exact PySem.StrLaws.seqIndex_nonneg (by omega) (by omega)
     rw[es]
     dsimp only
     rw[NW,NK hj2,tw];rfl
    refine⟨[.bx,.fz (.list (ns.map int)),.ow (.list (((y :: ys).eraseIdx j).map int)),.ow (.list ((ms ++ [(y :: ys)[j]]).map int))],β / (((y :: ys).length:Nat):Int),((y :: ys).eraseIdx j).length,?_,?_,(y :: ys).eraseIdx j,ms ++ [(y :: ys)[j]],rfl,?_,rfl⟩
    ·show kn 3 2 ([] ++ []) (mj 0 dq (aa (f1 (gv 2) cc) ag)) [.bx,.fz (.list (ns.map int)),.ow (.list ((y :: ys).map int)),.ow (.list (ms.map int))] β=_
     rw[xW (ds:=ms.map int) (es:=(y :: ys).map int) (by rfl) (by rfl) (by decide) ef (by rfl) hpop (by rw[NT];omega),Ou]
     rfl
    ·rw[List.length_eraseIdx]
     rw[NN hj2]
     show (y :: ys).length - 1 < (y :: ys).length
     simp
    ·rw[OS]
     exact (List.Perm.append_left ms (iM (NK hj2))).trans hp)
 refine⟨ms,β',?_,hp⟩
 rw[au ew]
 rfl
def Ki {n:Nat}{l:List Pr}(h8:n<=8)(w:OM.Wn n l):OM.cJ 8 (OM.Mem l)=OM.cJ n (OM.Mem l):=by
 refine OM.i8 (OM.dX _ _) (OM.dX _ _) λx=>?_
 rw[OM.bF,OM.bF]
 constructor
 ·rintro⟨_,h⟩;exact⟨w x h,h⟩
 ·rintro⟨h1,h⟩;exact⟨⟨⟨h1.1.1,by omega⟩,h1.2.1,by omega⟩,h⟩
def EN {n:Nat}{l:List Pr}(h1:1<=n)(h8:n<=8)(w:OM.Wn n l)(nd:l.Nodup)(irr:∀a,(a,a)∉l):l.length < 64:=by
 have:=OM.pY (l:=(0,0) :: l) (m:=OM.cN n) (Om.mpr ⟨irr 0,nd⟩) (λx hx=>by
  rcases NO.mp hx with e |e
  ·subst e;exact OM.bH.mpr ⟨⟨by simp,by simp;omega⟩,by simp,by simp;omega⟩
  ·exact OM.bH.mpr (w x e))
 have hg:(OM.cN n).length=n * n:=by unfold OM.cN;simp
 have hn:n * n<=64:=O5 h8 h8
 rw[hg,N5] at this
 omega
def HP {n:Nat}{l:List Pr}(h8:n<=8)(w:OM.Wn n l):l.all JP=true:=by
 rw[Oq]
 intro p hp
 have:=w p hp
 unfold JP
 rw[NS this.1.1,NS (by omega:p.1 < 8),NS this.2.1,NS (by omega:p.2 < 8)];rfl
def oY {n:Nat}{l:List Pr}{d:D}(h8:n<=8)(w:OM.Wn n l)(hl:(OM.cJ n (OM.Mem l)).length < 64)(hd:kW d=some (l.map aw)):c3 d=some (.list ((OM.cJ n (OM.Mem l)).map aw)):=by
 unfold c3
 rw[hd]
 simp only[iN]
 rw[Ki h8 w,NN ⟨HP h8 w,hl⟩]
def xp (l:List Pr)(p:Pr):List Pr:=(l.filter λq=>decide (q.1=p.2)).map λq=>(p.1,q.2)
def y6 (l:List Pr)(p:Pr):(xp l p).length<=l.length:=by unfold xp;rw[NT];exact O4 ..
theorem wc (l m:List Pr):(m.flatMap (xp l)).length<=m.length * l.length:=by
 induction m with
 |nil=>simp
 |cons p m ih=>
  rw[List.flatMap_cons,Of,N5,Nat.succ_mul]
  have:=y6 l p
  omega
def nH {a b:List D}(h:a.length + b.length<=10000):iZ (.list a) (.list b)=some (.list (a ++ b)):=NN (by rw[Ot];omega)
noncomputable def jV:List D->FR:=ba 6 1 gq
def A7 {n:Nat}{ps:List Pr}(h1:1<=n)(h8:n<=8)(w:OM.Wn n ps)(irr:∀a,¬OM.Tr (OM.Mem ps) a a):jV [.list (ps.map aw)]=.ok (.tuple ((OM.cJ n (OM.Tr (OM.Mem ps))).map aw)) false:=by
 have blen:∀{l:List Pr},OM.GV n ps l->l.length < 64:=λ{l} B=>EN h1 h8 B.wn (OM.jX B.ris) λa ha=>irr a (B.sup _ ha)
 show fin (gq [.fz (.list (ps.map aw)),.no,.no,.no,.no,.no] 0)=_
 unfold gq
 have B0:=OM.Bj (ps:=ps) w
 have e0:f1 (gv 0) c3 [.da (.list (ps.map aw)),.no,.no,.no,.no,.no] 0=.ok (.list ((OM.cJ n (OM.Mem ps)).map aw)) 0:=dU rfl (oY h8 w (blen B0) rfl)
 rw[au (env':=[.fz (.list (ps.map aw)),.fz (.list ((OM.cJ n (OM.Mem ps)).map aw)),.no,.no,.no,.no]) (β':=0) ?h0]
 case h0=>
  show toS (f1 (gv 0) c3 [.da (.list (ps.map aw)),.no,.no,.no,.no,.no] 0) _=_
  rw[e0];rfl
 rw[au (env':=[.fz (.list (ps.map aw)),.fz (.list ((OM.cJ n (OM.Mem ps)).map aw)),.fz (.int (-1)),.no,.no,.no]) (β':=0) (by rfl)]
 obtain⟨env',β',ew,rfl,x,sz,a,b,rfl⟩:=gc (L:=[] ++ []) (t:=cI (f2 (gv 2) (f1 (gv 1) cc) (cp true)))
  (m:=aG (bg 2 [] (f1 (gv 1) cc)) (aG (bg 3 [] (bD ag)) (aG (dr (.two 4 5) [1] (bG (gv 1)) (bg 3 ([] ++ ([] ++ [4])) (f2 (gv 3) (aN 2 [5,4] (.two 0 1) (bG (gv 1)) (cI (f2 (gv 0) (gv 2) (cp false))) (cC (aa (gv 3) (aa (gv 1) ag)))) iZ))) (bg 1 ([] ++ []) (f1 (f2 (gv 1) (gv 3) iZ) c3)))))
  (λk env β=>β=0/\∃(l:List Pr) (sz:Int) (x a b:Sl),env= [.fz (.list (ps.map aw)),.fz (.list (l.map aw)),.fz (.int sz),x,a,b]/\OM.GV n ps l/\(sz= -1\/∃lp,OM.GV n ps lp/\l=OM.lb n lp/\sz=lp.length)/\k=2 * (64 - l.length) + (if sz=l.length then 0 else 1))
  (λenv β=>β=0/\∃(x sz a b:Sl),env= [.fz (.list (ps.map aw)),.fz (.list ((OM.cJ n (OM.Tr (OM.Mem ps))).map aw)),sz,x,a,b])
  (n:=1000) (k:=2 * (64 - (OM.cJ n (OM.Mem ps)).length) + (if (-1:Int)=(OM.cJ n (OM.Mem ps)).length then 0 else 1)) (env:=[.fz (.list (ps.map aw)),.fz (.list ((OM.cJ n (OM.Mem ps)).map aw)),.fz (.int (-1)),.no,.no,.no]) (β:=0)
  (by split <;> omega) ⟨rfl,_,_,_,_,_,rfl,B0,.inl rfl,rfl⟩ (by
   rintro k env β ⟨rfl,l,sz,x,a,b,rfl,B,hsz,rfl⟩
   have hl:=blen B
   have et:cI (f2 (gv 2) (f1 (gv 1) cc) (cp true)) [.da (.list (ps.map aw)),.da (.list (l.map aw)),.da (.int sz),x.val,a.val,b.val] 0=.ok (!decide (sz=((l.map aw).length:Nat))) 0:=gp (neg:=true) rfl rfl
   rw[NT] at et
   refine⟨_,_,et,?_⟩
   by_cases c:sz=(l.length:Nat)
   ·refine .inl ⟨by rw[NS c];rfl,rfl,x,.fz (.int sz),a,b,?_⟩
    rcases hsz with h | ⟨lp,Bp,rfl,h⟩
    ·omega
    ·show [Sl.fz (.list (ps.map aw)),.fz (.list ((OM.lb n lp).map aw)),.fz (.int sz),x,a,b]=_
     rw[OM.CA Bp (by omega)]
   ·refine .inr ⟨by rw[NZ c];rfl,?_⟩
    obtain⟨B2,hs⟩:=OM.wN B
    have hl2:=blen B2
    have hge:l.length<=(OM.lb n l).length:=OM.pY (OM.jX B.ris) hs
    have eturn:∃x' a' b':Sl,aG (bg 2 [] (f1 (gv 1) cc)) (aG (bg 3 [] (bD ag)) (aG (dr (.two 4 5) [1] (bG (gv 1)) (bg 3 ([] ++ ([] ++ [4])) (f2 (gv 3) (aN 2 [5,4] (.two 0 1) (bG (gv 1)) (cI (f2 (gv 0) (gv 2) (cp false))) (cC (aa (gv 3) (aa (gv 1) ag)))) iZ))) (bg 1 ([] ++ []) (f1 (f2 (gv 1) (gv 3) iZ) c3)))) [.fz (.list (ps.map aw)),.fz (.list (l.map aw)),.fz (.int sz),x,a,b] 0
      =.nx [.fz (.list (ps.map aw)),.fz (.list ((OM.lb n l).map aw)),.fz (.int (l.length:Nat)),x',a',b'] 0:=by
     rw[au (env':=[.fz (.list (ps.map aw)),.fz (.list (l.map aw)),.fz (.int (l.length:Nat)),x,a,b]) (β':=0) ?g1]
     case g1=>
      show SO.nx [.fz (.list (ps.map aw)),.fz (.list (l.map aw)),.fz (.int ((l.map aw).length:Nat)),x,a,b] 0=_
      rw[NT]
     have e3:bD ag [.da (.list (ps.map aw)),.da (.list (l.map aw)),.da (.int (l.length:Nat)),x.val,a.val,b.val] 0=.ok (.list []) 0:=gm rfl (by simp)
     rw[au (env':=[.fz (.list (ps.map aw)),.fz (.list (l.map aw)),.fz (.int (l.length:Nat)),.fz (.list []),a,b]) (β':=0) ?g2]
     case g2=>
      show toS (bD ag [.da (.list (ps.map aw)),.da (.list (l.map aw)),.da (.int (l.length:Nat)),x.val,a.val,b.val] 0) _=_
      rw[e3];rfl
     obtain⟨env2,β2,ef,rfl,a2,b2,rfl⟩:=c6 (t:=.two 4 5) (m:=bg 3 ([] ++ ([] ++ [4])) (f2 (gv 3) (aN 2 [5,4] (.two 0 1) (bG (gv 1)) (cI (f2 (gv 0) (gv 2) (cp false))) (cC (aa (gv 3) (aa (gv 1) ag)))) iZ)) (ds:=l.map aw) (k:=0)
      (λi env β=>β=0/\∃a b:Sl,env= [.fz (.list (ps.map aw)),.fz (.list (l.map aw)),.fz (.int (l.length:Nat)),.fz (.list (((l.take i).flatMap (xp l)).map aw)),a,b]) (env:=[.fz (.list (ps.map aw)),.fz (.list (l.map aw)),.fz (.int (l.length:Nat)),.fz (.list []),a,b]) (β:=0) ⟨rfl,a,b,rfl⟩ (by
       rintro i d env β hi ⟨rfl,a,b,rfl⟩
       rw[NW] at hi
       cases q:l[i]? with
       |none=>rw[q] at hi;cases hi
       |some p=>
        rw[q] at hi
        cases hi
        have hil:i < l.length:=(N0.mp q).1
        refine⟨[.fz (.list (ps.map aw)),.fz (.list (l.map aw)),.fz (.int (l.length:Nat)),.fz (.list (((l.take (0 + i)).flatMap (xp l)).map aw)),.fz (.int p.1),.fz (.int p.2)],rfl,[.fz (.list (ps.map aw)),.fz (.list (l.map aw)),.fz (.int (l.length:Nat)),.fz (.list (((l.take (0 + i + 1)).flatMap (xp l)).map aw)),.fz (.int p.1),.fz (.int p.2)],0,?_,rfl,_,_,rfl⟩
        have ec:aN 2 [5,4] (.two 0 1) (bG (gv 1)) (cI (f2 (gv 0) (gv 2) (cp false))) (cC (aa (gv 3) (aa (gv 1) ag))) [.da (.list (ps.map aw)),.da (.list (l.map aw)),.da (.int (l.length:Nat)),.da (.list (((l.take (0 + i)).flatMap (xp l)).map aw)),.da (.int p.1),.da (.int p.2)] 0=.ok (.list ((xp l p).map aw)) 0:=by
         rw[cD (l:=l) (e:=aw) (λq=>decide (q.1=p.2)) (λq=>aw (p.1,q.2)) rfl (by omega) (β1:=0)]
         ·unfold xp;rw[Pq];rfl
         ·intro q hq
          refine⟨_,rfl,gp (neg:=false) (i:=q.1) (j:=p.2) rfl rfl,λ_=>?_⟩
          exact jd (ds:=[.int p.1,.int q.2]) rfl (by simp)
        have hk:(l.take (0 + i)).length<=63:=by rw[Pe];omega
        have hfl:=wc l (l.take (0 + i))
        have hfl2:(l.take (0 + i)).length * l.length<=63 * 63:=O5 hk (by omega)
        have hm1:=y6 l p
        have e5:f2 (gv 3) (aN 2 [5,4] (.two 0 1) (bG (gv 1)) (cI (f2 (gv 0) (gv 2) (cp false))) (cC (aa (gv 3) (aa (gv 1) ag)))) iZ [.da (.list (ps.map aw)),.da (.list (l.map aw)),.da (.int (l.length:Nat)),.da (.list (((l.take (0 + i)).flatMap (xp l)).map aw)),.da (.int p.1),.da (.int p.2)] 0=.ok (.list (((l.take (0 + i + 1)).flatMap (xp l)).map aw)) 0:=by
         refine az rfl ec ?_
         rw[nH (by rw[NT,NT];omega),<-Ou]
         have:l.take (0 + i + 1)=l.take (0 + i) ++ [p]:=by rw[OD,Pb,q];rfl
         rw[this,List.flatMap_append,List.flatMap_cons,List.flatMap_nil,PD]
        show toS (f2 (gv 3) (aN 2 [5,4] (.two 0 1) (bG (gv 1)) (cI (f2 (gv 0) (gv 2) (cp false))) (cC (aa (gv 3) (aa (gv 1) ag)))) iZ [.da (.list (ps.map aw)),.da (.list (l.map aw)),.da (.int (l.length:Nat)),.da (.list (((l.take (0 + i)).flatMap (xp l)).map aw)),.da (.int p.1),.da (.int p.2)] 0) _=_
        rw[e5];rfl)
     rw[OD,NT,O9 (NQ _)] at ef
     rw[au (env':=[.fz (.list (ps.map aw)),.fz (.list (l.map aw)),.fz (.int (l.length:Nat)),.fz (.list ((l.flatMap (xp l)).map aw)),a2,b2]) (β':=0) ?g3]
     case g3=>exact ef
     have hfl:=wc l l
     have hfl2:l.length * l.length<=63 * 63:=O5 (by omega) (by omega)
     have e6:f1 (f2 (gv 1) (gv 3) iZ) c3 [.da (.list (ps.map aw)),.da (.list (l.map aw)),.da (.int (l.length:Nat)),.da (.list ((l.flatMap (xp l)).map aw)),a2.val,b2.val] 0=.ok (.list ((OM.lb n l).map aw)) 0:=by
      refine dU (x:=.list ((l ++ OM.more l).map aw)) (az rfl rfl ?_) (oY h8 (OM.Cn B) hl2 rfl)
      rw[nH (by rw[NT,NT];omega),<-Ou];rfl
     refine⟨.fz (.list ((l.flatMap (xp l)).map aw)),a2,b2,?_⟩
     show toS (f1 (f2 (gv 1) (gv 3) iZ) c3 [.da (.list (ps.map aw)),.da (.list (l.map aw)),.da (.int (l.length:Nat)),.da (.list ((l.flatMap (xp l)).map aw)),a2.val,b2.val] 0) _=_
     rw[e6];rfl
    obtain⟨x',a',b',et2⟩:=eturn
    refine⟨_,_,_,et2,?_,rfl,_,_,_,_,_,rfl,B2,.inr ⟨l,B,rfl,rfl⟩,rfl⟩
    rw[NV c]
    split <;> omega)
 rw[au ew]
 rfl
def vZ (ms:List Int)(ps:List Pr):Prop:=∀p,p∈ps->∃i j:Nat,i < j/\ms[i]? =some p.1/\ms[j]? =some p.2
theorem p6 {α:Type}:∀{l:List α} {i j:Nat} {x:α},l.Nodup->l[i]? =some x->l[j]? =some x->i=j
 | [],_,_,_,_,h,_=>by simp at h
 |y :: l,0,0,_,_,_,_=>rfl
 |y :: l,0,j + 1,x,nd,h1,h2=>by
  simp at h1
  subst h1
  exact absurd (N6 (by simpa using h2)) (Om.mp nd).1
 |y :: l,i + 1,0,x,nd,h1,h2=>by
  simp at h2
  subst h2
  exact absurd (N6 (by simpa using h1)) (Om.mp nd).1
 |y :: l,i + 1,j + 1,x,nd,h1,h2=>by
  rw[p6 (l:=l) (i:=i) (j:=j) (Om.mp nd).2 (by simpa using h1) (by simpa using h2)]
def El {ms:List Int}{ps:List Pr}(nd:ms.Nodup)(h:vZ ms ps){a b:Int}(t:OM.Tr (OM.Mem ps) a b):∃i j:Nat,i < j/\ms[i]? =some a/\ms[j]? =some b:=by
 refine t.least (S:=λa b=>∃i j:Nat,i < j/\ms[i]? =some a/\ms[j]? =some b) (λa b r=>h _ r) ?_
 rintro a b c ⟨i,j,hij,h1,h2⟩ ⟨k,l,hkl,h3,h4⟩
 have:=p6 nd h2 h3
 exact⟨i,l,by omega,h1,h4⟩
def Aw {ms:List Int}{ps:List Pr}(nd:ms.Nodup)(h:vZ ms ps)(a:Int):¬OM.Tr (OM.Mem ps) a a:=λt=>by
 obtain⟨i,j,hij,h1,h2⟩:=El nd h t
 have:=p6 nd h1 h2
 omega
def dW (n:Nat):List Int:=(List.range n).map λ(k:Nat)=>(k:Int)
def b5 (n:Nat):(dW n).length=n:=by unfold dW;simp
def aV {n:Nat}{x:Int}:x∈dW n↔0<=x/\x < n:=by
 unfold dW
 rw[NY]
 constructor
 ·rintro⟨k,hk,rfl⟩
  have:=N9.mp hk
  omega
 ·intro h
  exact⟨x.toNat,N9.mpr (by omega),by omega⟩
def dE (n:Nat):(dW n).Nodup:=by
 unfold dW
 rw[P4,O2]
 exact (P4.mp Qc).imp λ{a b} h e=>h (by omega)
def sV (n:Nat):cO 0 n=(dW n).map int:=by
 unfold cO dW
 rw[Pq]
 refine OR λk _=>?_
 show int (0 + (k:Int))=_
 rw[Pu];rfl
theorem iU {lo:Int}{n i:Nat}{d:D}(h:(cO lo n)[i]? =some d):i < n/\d=.int (lo + i):=by
 unfold cO at h
 rw[NW] at h
 cases q:(List.range n)[i]? with
 |none=>rw[q] at h;cases h
 |some j=>
  rw[q] at h
  cases h
  obtain⟨hi,ej⟩:=N0.mp q
  rw[OO] at hi
  rw[QA] at ej
  subst ej
  exact⟨hi,rfl⟩
def o6 {n:Nat}(h:n<=1000):fI (.int n)=some (.list ((dW n).map int)):=by
 unfold fI
 dsimp only
 rw[NN ⟨by omega,by omega⟩,Oj,sV]
def cZ {fa:VF D}{vs:List Nv}{β β1:Int}{n:Nat}(h:fa vs β=.ok (.int n) β1)(hn:n<=1000):cY fa vs β=.ok (cO 0 n) β1:=by
 unfold cY
 rw[h]
 simp only[mU]
 rw[NN (l4 (by omega) (by omega)),Oj]
def C6 {fa fb:VF D}{vs:List Nv}{β β1 β2:Int}{i j:Int}(h:fa vs β=.ok (.int i) β1)(h':fb vs β1=.ok (.int j) β2)(hi:0<=i/\i<=1000)(hj:0<=j/\j<=1000):tD fa fb vs β=.ok (cO i (j - i).toNat) β2:=by
 unfold tD
 rw[h]
 simp only[mU]
 rw[h']
 simp only[mU]
 rw[NN (by rw[l4 (by omega) (by omega),l4 (by omega) (by omega)];rfl)]
def c5 {t:Tg}{L:List Nat}{fi:VF (List D)}{m:SF}{env:En}{β β1:Int}{ds:List D}(h:fi (vl env) β=.ok ds β1):dr t L fi m env β=kY t m ds (bp L env) β1:=by unfold dr;rw[h];rfl
noncomputable def uq:List D->Int->FB:=wZ 8 1 (g7 jV dq lh)
def BE {n:Nat}{ms:List Int}{ps:List Pr}(h1:1<=n)(h8:n<=8)(hp:ms.Perm (dW n))(ha:vZ ms ps):OM.Wn n ps/\(∀a,¬OM.Tr (OM.Mem ps) a a)/\OM.Ord n (OM.cJ n (OM.Tr (OM.Mem ps))):=by
 have nd:ms.Nodup:=hp.nodup_iff.mpr (dE n)
 have w:OM.Wn n ps:=λp hm=>by
  obtain⟨i,j,_,e1,e2⟩:=ha p hm
  have m1:=aV.mp (hp.mem_iff.mp (N6 e1))
  have m2:=aV.mp (hp.mem_iff.mp (N6 e2))
  exact⟨m1,m2⟩
 have ir:=λa=>Aw nd ha a
 exact⟨w,ir,OM.JL h1 h8 w ir⟩
def jU {m:Nat}(h:1<=m)(h2:m<=1000)(β:Int):∃j:Nat,j < m/\dq [.int m] β=.ok (.int (j:Int)) false (β / m):=by
 refine⟨(β % m).toNat,?_,?_⟩
 ·have h0:=Int.emod_nonneg β (b:=(m:Int)) (by omega)
  have h3:=Int.emod_lt_of_pos β (b:=(m:Int)) (by omega)
  omega
 ·rw[u5 (by omega) (by omega)]
  have h0:=Int.emod_nonneg β (b:=(m:Int)) (by omega)
  rw[show ((β % m).toNat:Int)=β % m by omega]
def DZ {most:Nat}(hm1:1<=most)(hm8:most<=8)(β:Int):∃(n:Nat) (l:List Pr) (β':Int),uq [.int most] β=.ok (aB n l) false β'/\OM.Ord n l/\n<=most:=by
 obtain⟨j,hj,ej⟩:=jU hm1 (by omega) β
 show ∃(n:Nat) (l:List Pr) (β':Int),Gq (g7 jV dq lh [.bx,.fz (.int most),.no,.no,.no,.no,.no,.no] β)=.ok (aB n l) false β'/\OM.Ord n l/\n<=most
 unfold g7
 generalize hβ1:β / (most:Int)=β1 at ej
 have n8:1 + j<=8:=by omega
 have e1:f2 (cst (.int 1)) (mj 0 dq (aa (gv 1) ag)) dh [Nv.bx,.da (.int most),.no,.no,.no,.no,.no,.no] β=.ok (.int ((1 + j:Nat):Int)) β1:=by
  refine az (x:=.int 1) rfl (iK (by rfl) rfl ej) ?_
  show some (int (1 + (j:Int)))=_
  rw[show ((1 + j:Nat):Int)=1 + (j:Int) by omega]
 rw[au (env':=[.bx,.fz (.int most),.fz (.int ((1 + j:Nat):Int)),.no,.no,.no,.no,.no]) (β':=β1) ?g1]
 case g1=>
  show toS (f2 (cst (.int 1)) (mj 0 dq (aa (gv 1) ag)) dh [Nv.bx,.da (.int most),.no,.no,.no,.no,.no,.no] β) _=_
  rw[e1];rfl
 generalize hn:1 + j=n at n8
 have n1:1<=n:=by omega
 obtain⟨ms,β2,em,hp⟩:=za (dW n) (by rw[b5];omega) β1
 have hml:ms.length=n:=by rw[hp.length_eq,b5]
 have e2:mj 0 lh (aa (f1 (gv 2) fI) ag) [Nv.bx,.da (.int most),.da (.int n),.no,.no,.no,.no,.no] β1=.ok (.list (ms.map int)) β2:=by
  refine iK (ds:=[.list ((dW n).map int)]) (b:=true) (β1:=β1) (by rfl) ?_ em
  rw[dw,dU (x:=.int n) (d:=.list ((dW n).map int)) (β1:=β1) rfl (o6 (by omega))];rfl
 rw[au (env':=[.bx,.fz (.int most),.fz (.int n),.fz (.list (ms.map int)),.no,.no,.no,.no]) (β':=β2) ?g2]
 case g2=>
  show toS (mj 0 lh (aa (f1 (gv 2) fI) ag) [Nv.bx,.da (.int most),.da (.int n),.no,.no,.no,.no,.no] β1) _=_
  rw[e2];rfl
 obtain⟨q,hq,eq⟩:=jU (m:=4) (by omega) (by omega) β2
 obtain⟨th,hth,hthv⟩:∃th:Nat,([2,3,4,7]:List Nat)[q]? =some th/\1<=th/\th<=7:=by
  rcases (show q=0\/q=1\/q=2\/q=3 by omega) with rfl |rfl |rfl |rfl
  ·exact⟨2,rfl,by omega,by omega⟩
  ·exact⟨3,rfl,by omega,by omega⟩
  ·exact⟨4,rfl,by omega,by omega⟩
  ·exact⟨7,rfl,by omega,by omega⟩
 generalize hβ3:β2 / ((4:Nat):Int)=β3 at eq
 have e3:f2 (bD (aa (cst (.int 2)) (aa (cst (.int 3)) (aa (cst (.int 4)) (aa (cst (.int 7)) ag))))) (mj 0 dq (aa (cst (.int 4)) ag)) bo [Nv.bx,.da (.int most),.da (.int n),.da (.list (ms.map int)),.no,.no,.no,.no] β2=.ok (.int th) β3:=by
  refine az (x:=.list (([2,3,4,7]:List Nat).map λ(k:Nat)=>int (k:Int))) (y:=.int q) (gm rfl (by simp)) (iK (ds:=[.int 4]) (by rfl) rfl eq) ?_
  show ik (([2,3,4,7]:List Nat).map λ(k:Nat)=>int (k:Int)) (q:Int)=_
  rw[cT,ko hth];rfl
 rw[au (env':=[.bx,.fz (.int most),.fz (.int n),.fz (.list (ms.map int)),.fz (.int th),.no,.no,.no]) (β':=β3) ?g3]
 case g3=>
  show toS (f2 (bD (aa (cst (.int 2)) (aa (cst (.int 3)) (aa (cst (.int 4)) (aa (cst (.int 7)) ag))))) (mj 0 dq (aa (cst (.int 4)) ag)) bo [Nv.bx,.da (.int most),.da (.int n),.da (.list (ms.map int)),.no,.no,.no,.no] β2) _=_
  rw[e3];rfl
 have e4:bD ag [Nv.bx,.da (.int most),.da (.int n),.da (.list (ms.map int)),.da (.int th),.no,.no,.no] β3=.ok (.list []) β3:=gm rfl (by simp)
 rw[au (env':=[.bx,.fz (.int most),.fz (.int n),.fz (.list (ms.map int)),.fz (.int th),.ow (.list []),.no,.no]) (β':=β3) ?g4]
 case g4=>
  show toS (bD ag [Nv.bx,.da (.int most),.da (.int n),.da (.list (ms.map int)),.da (.int th),.no,.no,.no] β3) _=_
  rw[e4];rfl
 obtain⟨env',β',ef,ps,a,b,rfl,hal,hpl⟩:=c6 (t:=.nm 6) (m:=dr (.nm 7) (([] ++ []) ++ []) (tD (f2 (gv 6) (cst (.int 1)) dh) (gv 2))
   (jF (([4] ++ []) ++ []) (cI (f2 (mj 0 dq (aa (gv 4) ag)) (cst (.int 0)) (cp false)))
   (jA 5 (([] ++ []) ++ (([] ++ []) ++ [])) (cC (aa (f2 (gv 3) (gv 6) bo) (aa (f2 (gv 3) (gv 7) bo) ag)))) kZ)) (ds:=cO 0 n) (k:=0)
  (λi env β=>∃(ps:List Pr) (a b:Sl),env= [.bx,.fz (.int most),.fz (.int n),.fz (.list (ms.map int)),.fz (.int th),.ow (.list (ps.map aw)),a,b]/\vZ ms ps/\ps.length<=8 * i)
  (env:=[.bx,.fz (.int most),.fz (.int n),.fz (.list (ms.map int)),.fz (.int th),.ow (.list []),.no,.no]) (β:=β3) ⟨[],.no,.no,rfl,λp hp=>(by cases hp),by simp⟩ (by
   rintro i d env β hi ⟨ps,a,b,rfl,hal,hpl⟩
   obtain⟨hin,rfl⟩:=iU hi
   refine⟨[.bx,.fz (.int most),.fz (.int n),.fz (.list (ms.map int)),.fz (.int th),.ow (.list (ps.map aw)),.fz (.int (0 + (i:Int))),b],rfl,?_⟩
   have er:tD (f2 (gv 6) (cst (.int 1)) dh) (gv 2) [Nv.bx,.da (.int most),.da (.int n),.da (.list (ms.map int)),.da (.int th),.da (.list (ps.map aw)),.da (.int (0 + (i:Int))),b.val] β=.ok (cO (0 + (i:Int) + 1) ((n:Int) - (0 + (i:Int) + 1)).toNat) β:=C6 rfl rfl ⟨by omega,by omega⟩ ⟨by omega,by omega⟩
   rw[c5 (env:=[.bx,.fz (.int most),.fz (.int n),.fz (.list (ms.map int)),.fz (.int th),.ow (.list (ps.map aw)),.fz (.int (0 + (i:Int))),b]) er]
   obtain⟨env',β',ef,qs,b,rfl,hal2,hql⟩:=c6 (t:=.nm 7) (m:=jF (([4] ++ []) ++ []) (cI (f2 (mj 0 dq (aa (gv 4) ag)) (cst (.int 0)) (cp false)))
     (jA 5 (([] ++ []) ++ (([] ++ []) ++ [])) (cC (aa (f2 (gv 3) (gv 6) bo) (aa (f2 (gv 3) (gv 7) bo) ag)))) kZ) (ds:=cO (0 + (i:Int) + 1) ((n:Int) - (0 + (i:Int) + 1)).toNat) (k:=0)
    (λk env β=>∃(qs:List Pr) (b:Sl),env= [.bx,.fz (.int most),.fz (.int n),.fz (.list (ms.map int)),.fz (.int th),.ow (.list (qs.map aw)),.fz (.int (0 + (i:Int))),b]/\vZ ms qs/\qs.length<=8 * i + k)
    (env:=[.bx,.fz (.int most),.fz (.int n),.fz (.list (ms.map int)),.fz (.int th),.ow (.list (ps.map aw)),.fz (.int (0 + (i:Int))),b]) (β:=β) ⟨ps,b,rfl,hal,by omega⟩ (by
     rintro k d env β hk ⟨qs,b,rfl,hal,hql⟩
     obtain⟨hkn,rfl⟩:=iU hk
     have hkn:i + 1 + k < n:=by omega
     refine⟨[.bx,.fz (.int most),.fz (.int n),.fz (.list (ms.map int)),.fz (.int th),.ow (.list (qs.map aw)),.fz (.int (0 + (i:Int))),.fz (.int (0 + (i:Int) + 1 + (k:Int)))],rfl,?_⟩
     obtain⟨z,hz,ez⟩:=jU hthv.1 (by omega) β
     have et:cI (f2 (mj 0 dq (aa (gv 4) ag)) (cst (.int 0)) (cp false)) [Nv.bx,.da (.int most),.da (.int n),.da (.list (ms.map int)),.da (.int th),.da (.list (qs.map aw)),.da (.int (0 + (i:Int))),.da (.int (0 + (i:Int) + 1 + (k:Int)))] β=.ok (decide ((z:Int)=0)) (β / th):=gp (neg:=false) (iK (ds:=[.int th]) (by rfl) rfl ez) rfl
     by_cases c:(z:Int)=0
     ·rw[NS c] at et
      have h1:i < ms.length:=by omega
      have h2:i + 1 + k < ms.length:=by omega
      refine⟨[.bx,.fz (.int most),.fz (.int n),.fz (.list (ms.map int)),.fz (.int th),.ow (.list ((qs ++ [(ms[i],ms[i + 1 + k])]).map aw)),.fz (.int (0 + (i:Int))),.fz (.int (0 + (i:Int) + 1 + (k:Int)))],β / th,?_,qs ++ [(ms[i],ms[i + 1 + k])],_,rfl,?_,?_⟩
      ·rw[jq et]
       have ep:cC (aa (f2 (gv 3) (gv 6) bo) (aa (f2 (gv 3) (gv 7) bo) ag)) [Nv.bx,.da (.int most),.da (.int n),.da (.list (ms.map int)),.da (.int th),.da (.list (qs.map aw)),.da (.int (0 + (i:Int))),.da (.int (0 + (i:Int) + 1 + (k:Int)))] (β / th)=.ok (aw (ms[i],ms[i + 1 + k])) (β / th):=by
        refine jd (ds:=[.int ms[i],.int ms[i + 1 + k]]) ?_ (by simp)
        have a1:f2 (gv 3) (gv 6) bo [Nv.bx,.da (.int most),.da (.int n),.da (.list (ms.map int)),.da (.int th),.da (.list (qs.map aw)),.da (.int (0 + (i:Int))),.da (.int (0 + (i:Int) + 1 + (k:Int)))] (β / th)=.ok (.int ms[i]) (β / th):=by
         refine az rfl rfl ?_
         show ik (ms.map int) (0 + (i:Int))=_
         rw[Pu,cT,gZ h1];rfl
        have a2:f2 (gv 3) (gv 7) bo [Nv.bx,.da (.int most),.da (.int n),.da (.list (ms.map int)),.da (.int th),.da (.list (qs.map aw)),.da (.int (0 + (i:Int))),.da (.int (0 + (i:Int) + 1 + (k:Int)))] (β / th)=.ok (.int ms[i + 1 + k]) (β / th):=by
         refine az rfl rfl ?_
         show ik (ms.map int) (0 + (i:Int) + 1 + (k:Int))=_
         rw[show (0 + (i:Int) + 1 + (k:Int))=((i + 1 + k:Nat):Int) by omega,cT,gZ h2];rfl
        rw[dw,a1]
        dsimp only[R.bnd]
        rw[dw,a2];rfl
       have:=j9 (i:=5) (L:=([] ++ []) ++ (([] ++ []) ++ [])) (env:=[.bx,.fz (.int most),.fz (.int n),.fz (.list (ms.map int)),.fz (.int th),.ow (.list (qs.map aw)),.fz (.int (0 + (i:Int))),.fz (.int (0 + (i:Int) + 1 + (k:Int)))]) (ds:=qs.map aw) (by rfl) ep (by rfl) (by rw[NT];omega)
       rw[Ou]
       exact this
      ·intro p hp
       rcases Ob.mp hp with hp |hp
       ·exact hal p hp
       ·have:p=(ms[i],ms[i + 1 + k]):=by simpa using hp
        subst this
        exact⟨i,i + 1 + k,by omega,NK h1,NK h2⟩
      ·rw[Of];simp;omega
     ·rw[NZ c] at et
      refine⟨_,_,by rw[fK et];rfl,qs,_,rfl,hal,by omega⟩)
   have hlen:(cO (0 + (i:Int) + 1) ((n:Int) - (0 + (i:Int) + 1)).toNat).length<=7:=by rw[fo];omega
   exact⟨_,_,ef,qs,_,b,rfl,hal2,by omega⟩)
 rw[au (env':=[.bx,.fz (.int most),.fz (.int n),.fz (.list (ms.map int)),.fz (.int th),.ow (.list (ps.map aw)),a,b]) (β':=β') ?g5]
 case g5=>
  rw[c5 (env:=[.bx,.fz (.int most),.fz (.int n),.fz (.list (ms.map int)),.fz (.int th),.ow (.list []),.no,.no]) (cZ (n:=n) rfl (by omega))]
  exact ef
 obtain⟨w,ir,O⟩:=BE n1 n8 hp hal
 refine⟨n,OM.cJ n (OM.Tr (OM.Mem ps)),β',?_,O,by omega⟩
 have e9:cC (aa (gv 2) (aa (ao jV (aa (gv 5) ag)) ag)) [Nv.bx,.da (.int most),.da (.int n),.da (.list (ms.map int)),.da (.int th),.da (.list (ps.map aw)),a.val,b.val] β'=.ok (aB n (OM.cJ n (OM.Tr (OM.Mem ps)))) β':=by
  refine jd (ds:=[.int n,.tuple ((OM.cJ n (OM.Tr (OM.Mem ps))).map aw)]) ?_ (by simp)
  have a1:ao jV (aa (gv 5) ag) [Nv.bx,.da (.int most),.da (.int n),.da (.list (ms.map int)),.da (.int th),.da (.list (ps.map aw)),a.val,b.val] β'=.ok (.tuple ((OM.cJ n (OM.Tr (OM.Mem ps))).map aw)) β':=ax rfl (A7 n1 n8 w ir)
  rw[dw]
  show (R.ok (int n) β').bnd _=_
  dsimp only[R.bnd]
  rw[dw,a1];rfl
 show Gq (toS (cC (aa (gv 2) (aa (ao jV (aa (gv 5) ag)) ag)) [Nv.bx,.da (.int most),.da (.int n),.da (.list (ms.map int)),.da (.int th),.da (.list (ps.map aw)),a.val,b.val] β') _)=_
 rw[e9];rfl
theorem uA (p:Pr):∀l:List Pr,((l.map aw).any λe=>PyData.eqv e (aw p))=decide (p∈l)
 | []=>rfl
 |q :: l=>by
  rw[OE,P0,uA p l,CB,Ox]
  simp only[OY,N2,NO]
  exact⟨λh=>h.imp Eq.symm id,λh=>h.imp Eq.symm id⟩
def zr (l:List Pr):(l.map aw).all SeqAt.shaped=true:=by
 rw[Oq]
 intro d hd
 obtain⟨p,_,rfl⟩:=NY.mp hd
 exact oy p
def uN (neg:Bool)(p:Pr)(l:List Pr):nZ neg (aw p) (.tuple (l.map aw))=some (.bool (if neg then !decide (p∈l) else decide (p∈l))):=by
 unfold nZ
 simp only[kW,oy,zr,PL,OP,uA]
def zl (neg:Bool)(p:Pr)(l:List Pr):nZ neg (aw p) (.list (l.map aw))=some (.bool (if neg then !decide (p∈l) else decide (p∈l))):=by
 unfold nZ
 simp only[kW,oy,zr,PL,OP,uA]
def lP (neg:Bool)(i j:Int):cp neg (.int i) (.int j)=some (.bool (if neg then !decide (i=j) else decide (i=j))):=rfl
theorem pI {fa fb:VF D}{vs:List Nv}{β:Int}{a b:Bool}(h:fa vs β=.ok (.bool a) β)(h':fb vs β=.ok (.bool b) β):eN fa fb vs β=.ok (.bool (a && b)) β:=by
 unfold eN
 rw[h]
 dsimp only[R.bnd]
 cases a with
 |true=>exact h'
 |false=>rfl
def jR {fa fb:VF D}{vs:List Nv}{β:Int}{a b:Int}(h:fa vs β=.ok (.int a) β)(h':fb vs β=.ok (.int b) β):cC (aa fa (aa fb ag)) vs β=.ok (aw (a,b)) β:=by
 refine jd (ds:=[.int a,.int b]) ?_ (by simp)
 rw[dw,h]
 dsimp only[R.bnd]
 rw[dw,h'];rfl
def Cr (l:List Pr)(p:Pr):Bool:= !decide (p.1=p.2) && (!decide ((p.1,p.2)∈l) && !decide ((p.2,p.1)∈l))
def LL {n:Nat}{l:List Pr}{fa:VF D}{vs:List Nv}{β:Int}(h:fa vs β=.ok (aB n l) β):f2 fa (cst (.int 1)) bo vs β=.ok (.tuple (l.map aw)) β:=az h rfl rfl
def Mc {n:Nat}{l:List Pr}{fa:VF D}{vs:List Nv}{β:Int}(h:fa vs β=.ok (aB n l) β):f2 fa (cst (.int 0)) bo vs β=.ok (.int n) β:=az h rfl rfl
def JM:List D->FR:=ba 3 3 oV
def Lj (n:Nat)(l:List Pr)(a b:Int):JM [aB n l,.int a,.int b]=.ok (.bool (Cr l (a,b))) false:=by
 show fin (toS (eN (f2 (gv 1) (gv 2) (cp true)) (eN (f2 (cC (aa (gv 1) (aa (gv 2) ag))) (f2 (gv 0) (cst (.int 1)) bo) (nZ true)) (f2 (cC (aa (gv 2) (aa (gv 1) ag))) (f2 (gv 0) (cst (.int 1)) bo) (nZ true))) [.da (aB n l),.da (.int a),.da (.int b)] 0) _)=_
 rw[pI (az (x:=.int a) (y:=.int b) rfl rfl (lP true a b)) (pI (az (jR (a:=a) (b:=b) rfl rfl) (LL (n:=n) (l:=l) rfl) (uN true (a,b) l)) (az (jR (a:=b) (b:=a) rfl rfl) (LL (n:=n) (l:=l) rfl) (uN true (b,a) l)))]
 rfl
def oK:List D->FR:=ba 1 1 ie
def ED {n:Nat}(h1:1<=n)(h8:n<=8):oK [.int n]=.ok (.list ((OM.cN n).map aw)) true:=by
 have hm:n * n<=64:=O5 h8 h8
 have e:aN 1 [0] (.nm 0) (cY (f2 (gv 0) (gv 0) dS)) kU (cC (aa (f2 (gv 0) (gv 1) BP) (aa (f2 (gv 0) (gv 1) mY) ag))) [.da (.int n)] 0=.ok (.list ((OM.cN n).map aw)) 0:=by
  have hi:cY (f2 (gv 0) (gv 0) dS) [.da (.int n)] 0=.ok ((List.range (n * n)).map λ(k:Nat)=>int (0 + (k:Int))) 0:=by
   refine cZ (n:=n * n) (az (x:=.int n) (y:=.int n) rfl rfl ?_) (by omega)
   rw[oo ⟨by omega,by omega⟩];rfl
  rw[cR (l:=List.range (n * n)) (e:=λ(k:Nat)=>int (0 + (k:Int))) (λk=>aw (((k / n:Nat):Int),((k % n:Nat):Int))) hi (by rw[OO];omega) λk hk=>⟨_,rfl,?_⟩]
  ·unfold OM.cN;rw[Pq];rfl
  ·refine jR (az (x:=.int (0 + (k:Int))) (y:=.int n) rfl rfl ?_) (az (x:=.int (0 + (k:Int))) (y:=.int n) rfl rfl ?_)
   ·rw[z8 (by omega) (by omega),Pu];rfl
   ·rw[oN (by omega),Pu];rfl
 show fin (ie [.fz (.int n)] 0)=_
 unfold ie
 rw[wY,show vl [Sl.fz (.int n)]= [.da (.int n)] from rfl,e];rfl
def jE (n:Nat)(l:List Pr):List Pr:=(OM.cN n).filter (Cr l)
def gG (n:Nat):(OM.cN n).length=n * n:=by unfold OM.cN;simp
def zy {n:Nat}{l:List Pr}(h8:n<=8):(jE n l).length<=64:=by
 have h1:(jE n l).length<=(OM.cN n).length:=O4 _ _
 rw[gG] at h1
 have:n * n<=64:=O5 h8 h8
 omega
def nq {n:Nat}{l:List Pr}{p:Pr}:p∈jE n l↔((0<=p.1/\p.1 < n)/\(0<=p.2/\p.2 < n))/\Cr l p=true:=by
 unfold jE;rw[NX,OM.bH]
noncomputable def yw:List D->FR:=ba 1 1 (pP fJ oK JM)
def kP {fa:VF D}{vs:List Nv}{β:Int}{c:Bool}(h:fa vs β=.ok (.bool c) β):j3 fa vs β=.ok c β:=by rw[va,h];rfl
def E5 {n:Nat}{l:List Pr}(O:OM.Ord n l):yw [aB n l]=.ok (.list ((jE n l).map aw)) true:=by
 have hm:n * n<=64:=O5 O.hi O.hi
 show fin (pP fJ oK JM [.fz (aB n l)] 0)=_
 unfold pP
 rw[au (env':=[.fz (aB n l)]) (β':=0) ?g1]
 case g1=>
  show toS (ao fJ (aa (gv 0) ag) [.da (aB n l)] 0) _=_
  rw[ax (ds:=[aB n l]) rfl (mV O)];rfl
 have e:aN 2 [0] (.two 0 1) (bG (ao oK (aa (f2 (gv 0) (cst (.int 0)) bo) ag))) (j3 (ao JM (aa (gv 2) (aa (gv 0) (aa (gv 1) ag))))) (cC (aa (gv 0) (aa (gv 1) ag))) [.da (aB n l)] 0=.ok (.list ((jE n l).map aw)) 0:=by
  have hi:bG (ao oK (aa (f2 (gv 0) (cst (.int 0)) bo) ag)) [.da (aB n l)] 0=.ok ((OM.cN n).map aw) 0:=by
   unfold bG
   rw[ax (ds:=[.int n]) rfl (ED O.lo O.hi)];rfl
  exact cD (l:=OM.cN n) (e:=aw) (Cr l) aw hi (by rw[gG];omega) λp hp=>⟨_,rfl,kP (ax (ds:=[aB n l,.int p.1,.int p.2]) rfl (Lj n l p.1 p.2)),λ_=>jR rfl rfl⟩
 show fin (toS (aN 2 [0] (.two 0 1) (bG (ao oK (aa (f2 (gv 0) (cst (.int 0)) bo) ag))) (j3 (ao JM (aa (gv 2) (aa (gv 0) (aa (gv 1) ag))))) (cC (aa (gv 0) (aa (gv 1) ag))) [.da (aB n l)] 0) _)=_
 rw[e];rfl
end RM
namespace L2
open PySem PySem.Spec PyProof.Rows
section
variable {X:Cx}{pins:List (Addr×Obj)}{σ:St}{H:Hp}{s:Shared}
def Inv.turnedL {t':Nat}{ch:List Addr}{h':Heap}(I:Inv X pins σ H s)(k:∀b o,b∉ch->s.heap.get? b=some o->h'.get? b=some o)(hf:∀b∈ch,oz X pins H b):Inv X pins σ H {s with heap:=h',toks:=t'}:=by
 have nit:∀b u,H b=some u->b∉ch:=λb u e z=>by rw[(hf b z).1] at e;cases e
 have nL:X.env.locals∉ch:=λz=>(hf _ z).2.1 rfl
 refine I.step (g':=s.gens) (d':=s.drawn) (ch:=ch) (λb hb=>?_) (λb o _ _ hc e _=>k b o hc e) (λb o _ _ hc e _=>⟨o.slots,k b o hc e⟩) (λ_ _ _ _ n=>n)
  (λb o hc e=>⟨o,k b o hc e⟩) (λ_ _ e=>e) (λ_ _ _ e=>e) (λb ps e=>⟨#[],by rw[e];simp⟩) (λm hm=>?_) (λb u e=>?_) I.bare
 ·obtain⟨f0,f1,f2,f3,f4,f5⟩:=hf b hb
  exact⟨f3,f1,f4,f5⟩
 ·obtain⟨o,es,ep,ho,r⟩:=hm
  exact⟨o,es,ep,k _ o nL ho,r⟩
 ·refine (I.hok b u e).stay (λc v hc q=>k c v ?_ q) (λ_ q=>q) λ_ _ q=>q
  rcases hc with z |z
  ·rw[z];exact nit b u e
  ·exact nit c _ z
end
def JO {n:Nat}(i j:Nat)(h:(i == j)=false):(n + i:Nat)≠n + j:=by
 have:i≠j:=by simpa using h
 omega
section
variable {X:Cx}{Γ:Fx}{E:XK}{e a b c:Expr}{f fa fb:VF D}{L La Lb:List Nat}{md ma mb:Md}{pos:Pos}
def Ga:D->Option D
 | .int i=>some (.int i)
 | .bool k=>some (.int (if k then 1 else 0))
 |_=>none
theorem IJ {K:Frag}:BS K (λx H Q=>(∃i,[x]= [.int i]/\Q (.int i) H)\/∃k,[x]= [.bl k]/\Q (.int (if k then 1 else 0)) H) Ga .v:=by
 intro B G H x dx d Q s hB bx e k
 cases dx with
 |int i=>cases e;obtain rfl:=bx.int;exact .inl ⟨i,rfl,k _ G H (Ext.refl s) (.int _)⟩
 |bool b=>cases e;obtain rfl:=bx.bool;exact .inr ⟨b,rfl,k _ G H (Ext.refl s) (.int _)⟩
 |_=>cases e
end
section
variable {κ:Type}[DecidableEq κ]
def Gx (kvs:List (κ×V))(k:κ):Option V:=(kvs.find? λkv=>decide (kv.1=k)).map (·.2)
def putK (kvs:List (κ×V))(k:κ)(v:V):List (κ×V):=
 if (kvs.any λkv=>decide (kv.1=k))=true then kvs.map (λkv=>if kv.1=k then (kv.1,v) else kv) else kvs ++ [(k,v)]
theorem KV.any {kvs:List (κ×V)}{vs:List (κ×Value)}(r:KV kvs vs)(k:κ):(kvs.any λkv=>decide (kv.1=k))=vs.any λkv=>decide (kv.1=k):=by
 unfold KV at r
 induction r with
 |nil=>rfl
 |cons h t ih=>rw[P0,P0,ih,h.1]
end
def Fb (H:Hp)(a:Addr)(y:V)(r:Option V):Prop:=
 (∃kvs k,Rd H a (.dK kvs)/\y=kV k/\r=Gx kvs k)\/∃kvs k b,Rd H a (.dT kvs)/\y=.ref b/\Rd H b (.tup (k.map kV))/\r=Gx kvs k
def Fg (H:Hp)(a:Addr)(y v:V)(H':Hp):Prop:=
 (∃kvs k,H a=some (.dK kvs)/\y=kV k/\kvs.length < sizeLine/\H'=upd H a (.dK (putK kvs k v)))\/
 ∃kvs k b,H a=some (.dT kvs)/\y=.ref b/\Rd H b (.tup (k.map kV))/\kvs.length < sizeLine/\H'=upd H a (.dT (putK kvs k v))
def Fb.k {H:Hp}{a:Addr}{kvs:List (Key×V)}{k:Key}(e:H a=some (.dK kvs)):Fb H a (kV k) (Gx kvs k):=.inl ⟨kvs,k,.inl e,rfl,rfl⟩
def Fb.t {H:Hp}{a b:Addr}{kvs:List (List Key×V)}{k:List Key}(e:H a=some (.dT kvs))(eb:Rd H b (.tup (k.map kV))):Fb H a (.ref b) (Gx kvs k):=.inr ⟨kvs,k,b,.inl e,rfl,eb,rfl⟩
def Fg.k {H:Hp}{a:Addr}{kvs:List (Key×V)}{k:Key}{v:V}(e:H a=some (.dK kvs))(hl:kvs.length < sizeLine):Fg H a (kV k) v (upd H a (.dK (putK kvs k v))):=.inl ⟨kvs,k,e,rfl,hl,rfl⟩
def Fg.t {H:Hp}{a b:Addr}{kvs:List (List Key×V)}{k:List Key}{v:V}(e:H a=some (.dT kvs))(eb:Rd H b (.tup (k.map kV)))(hl:kvs.length < sizeLine) :
  Fg H a (.ref b) v (upd H a (.dT (putK kvs k v))):=.inr ⟨kvs,k,b,e,rfl,eb,hl,rfl⟩
section
variable {X:Cx}{pos:Pos}
end
mutual
def JT:D->Bool
 | .list ds=>Dm ds
 | .tuple ds=>Dm ds
 | .dict kvs=> !kvs.isEmpty && kvs.all λkv=>match kv.1,kv.2 with
  | .str _,.int _=>true
  |_,_=>false
 |_=>true
def Dm:List D->Bool
 | []=>true
 |d :: ds=>JT d && Dm ds
end
section
variable {prog:Program}{w:World}{A:Around}{E:Value->Shared->Prop}{s:Shared}{it t:Addr}{i:Nat}{xs:Array Value}{Q:Value->Shared->Prop}
theorem MN (hi:s.heap.IsTupleIter it t i)(ht:s.heap.IsTuple t xs)
  (k1:∀x,xs[i]? =some x->∀h',h'.IsTupleIter it t (i + 1)->Heap.SameBut it s.heap h'->Q x {s with heap:=h'})
  (k2:xs[i]? =none->A.handled=none/\∀h' e,Heap.ExtBut it s.heap h'->(∃o,h'.get? e=some o/\o.cls=.type "StopIteration")->E (.ref e) {s with heap:=h'}) :
  wpAny (model prog w) A (Builtin.SmallTypes.nextOf (.ref it)) Q E s:=by
 obtain⟨o,ho,hc,hd⟩:=id hi
 obtain⟨ol,hol, -,nl,hdl⟩:=ht
 refine NL (wpAny_callSpecial?_slot (name:=Str.ofString "__next__") hi.typeIs F.slot_tuple_iterator_next (Qd F.slot_tuple_iterator_next hi.typeIs F.entry_tuple_iterator_next ?_ (F.args_tuple_iterator_next_1 _)))
 refine (show wpAny _ _ (field (.ref it) 0 >>= _) _ _ s from NL (wpAny_field ho hd (x:=.ref t) rfl ?_))
 refine (show wpAny _ _ (if (Value.ref t == Value.none)=true then _ else _) _ _ s from ?_)
 rw[NV (by exact Og)]
 refine (show wpAny _ _ (field (.ref it) 1 >>= _) _ _ s from NL (wpAny_field ho hd (x:=.int i 0) rfl ?_))
 refine (show wpAny _ _ (seqItems? (.ref t) >>= _) _ _ s from NL (wpAny_seqItems hol hdl ?_))
 cases hx:xs[i]? with
 |some x=>
  simp only[Oj,hx]
  refine NL (PN ho hd (by simp) (NU ⟨x,rfl,NU (k1 x hx _ ?_ (Heap.SameBut.update ..))⟩))
  refine⟨_,OK _ ho (Obj.isFreed_of_fields (QB hd _)),(Obj.cls_mapFields ..).trans hc,?_⟩
  rw[QB hd]
  simp[rawInt]
 |none=>
  obtain⟨hh,hE⟩:=k2 hx
  simp only[Oj,hx]
  refine NL (wpAny_rule (NL (PN ho hd (by simp) (show wpAny _ _ (newExc (.type "StopIteration") [] >>= _) _ _ _ from NL ?_))))
  simp only[newExc,newTuple]
  refine NL (PK (NL (m:=firstArgMember _ _) (wpAny_of_eq (a:=Value.none) (by first |rfl | (simp only[firstArgMember];rfl)) (PK ?_ (by size_fits)))) (by size_fits))
  simp only[raiseNew]
  refine NL (wpAny_handled ?_)
  have hh':A.in1.handled=none:=hh
  first |rw[hh'] |rw[hh]
  exact NL (NU (wpAny_throw (hE _ _ (((Heap.SameBut.update ..).extBut.push _).push _) ⟨_,N3 _ rfl,rfl⟩)))
def HG (hh:A.handled=none)(hne:t≠it)(xs:Array Value):Draws prog w A it [it,t] xs.size (λi v=>xs[i]? =some v) (λi h=>h.IsTupleIter it t i/\h.IsTuple t xs) where
 live:=λ_ _ st=>let ⟨o,ho,_⟩:=st.1;⟨o,ho⟩
 frame:=λ_ _ _ st hk=>⟨st.1.at λo e=>hk it (by simp) o e,st.2.at λo e=>hk t (by simp) o e⟩
 item:=λi s Q E hi st k=>MN st.1 st.2 (λx hx h' q1 q2=>k x h' s.toks hx ⟨q1,st.2.extBut q2.extBut hne⟩ q2) λz=>by simp at z;omega
 done:=λs Q E st k=>MN st.1 st.2 (λx hx=>by simp at hx) λ_=>⟨hh,k⟩
end
abbrev Jf (t:Addr):Obj:={cls:=.type "tuple_iterator",data:=.fields #[.ref t,.int 0 0]}
abbrev Ls (it:Addr):Obj:={cls:=.type "enumerate",data:=.fields #[.none,.bool false,.ref it,rawInt 0,.none,.none]}
def D0 (t:Addr)(xs:Array Value)(n:Nat)(dc:Option Addr)(sl:Array (Option Value)) :
  Meets (Builtin.«enumerate.__new__» ⟨[.type "enumerate",.ref t],[]⟩) (λ_ R s=>s.heap.get? t=some ⟨.type "tuple",dc,.seq xs n,sl⟩/\
   R (.ok (.ret (.ref (s.heap.push (Jf t)).objs.size))) {s with heap:=(s.heap.push (Jf t)).push (Ls s.heap.objs.size)}):=by
 refine .of_wp λprog w A R s h=>?_
 obtain⟨hp,g,d,tk,os⟩:=s
 obtain⟨hl,h⟩:=h
 have sb:=sub_enumerate
 have hT:Heap.IsTuple (Shared.heap ⟨hp,g,d,tk,os⟩) t xs:=⟨_,hl,rfl,n,rfl⟩
 wp_walk using QD hl
 refine wpAny_stack_any λst=>NU ?_
 split
 ·rename_i c _ _ _ _ _
  cases (c == Value.type "enumerate") <;> (wp_walk using QD hl,Qj hT;exact⟨_,rfl,h⟩)
 ·wp_walk using QD hl,Qj hT
  exact⟨_,rfl,h⟩
section
variable {prog:Program}{w:World}{A:Around}{E:Value->Shared->Prop}{s:Shared}
def xQ {t:Addr}{xs:Array Value}{Q:Value->Shared->Prop}(hT:s.heap.IsTuple t xs)
  (k:∀h',IsEnum h' (s.heap.objs.size + 1) s.heap.objs.size 0 .none->h'.IsTupleIter s.heap.objs.size t 0->(∀b o,s.heap.get? b=some o->h'.get? b=some o)->Q (.ref (s.heap.objs.size + 1)) {s with heap:=h'}) :
  wpAny (model prog w) A (call (.type "enumerate") [.ref t]) Q E s:=by
 obtain⟨⟨c,dc,dt,sl⟩,hl,hc,n,hd⟩:=hT
 have hc:c=.type "tuple":=hc
 have hd:dt=.seq xs n:=hd
 subst hc hd
 refine callType_new F.called_enumerate (by decide) (F.typeCall_enumerate_1 _) (F.newCall_enumerate_1 _) (λob=>F.args_object_init_2 ob _) F.entry_enumerate_new (D0 t xs n dc sl) ⟨hl,?_⟩
 have hz:(s.heap.push (Jf t)).objs.size=s.heap.objs.size + 1:=Pg ..
 have g2:((s.heap.push (Jf t)).push (Ls s.heap.objs.size)).get? (s.heap.push (Jf t)).objs.size=some (Ls s.heap.objs.size):=N3 _ rfl
 have g1:((s.heap.push (Jf t)).push (Ls s.heap.objs.size)).get? s.heap.objs.size=some (Jf t):=NM _ (N3 _ rfl)
 rw[hz] at g2
 show _/\_
 rw[hz]
 exact⟨⟨_,g2,rfl⟩,k _ g2 ⟨_,g1,rfl,rfl⟩ λb o e=>NM _ (NM _ e)⟩
end
def JA {prog:Program}{w:World}{A:Around}{it t:Addr}{xs:Array Value}(hh:A.handled=none)(i:Nat)(hx:xs[i]? =none):Draws prog w A it [it,t] i (λ_ _=>False) (λj h=>j=i/\h.IsTupleIter it t i/\h.IsTuple t xs) where
 live:=λ_ _ st=>let ⟨o,ho,_⟩:=st.2.1;⟨o,ho⟩
 frame:=λ_ _ _ st hk=>⟨st.1,st.2.1.at λo e=>hk it (by simp) o e,st.2.2.at λo e=>hk t (by simp) o e⟩
 item:=λj s Q E hi st k=>absurd st.1 (by omega)
 done:=λs Q E st k=>MN st.2.1 st.2.2 (λx h=>by rw[hx] at h;cases h) λ_=>⟨hh,k⟩
def L8 (K:Frag)(a:Addr):It:=
 ⟨λi H=>∃xs x,fV K H a xs/\xs[i]? =some x,
  λi H v H'=>∃x t,H t=none/\(∀xs,fV K H a xs->xs[i]? =some x)/\v=.ref t/\H'=upd H t (.tup [.int i,x]),
  λi H=>∃xs,fV K H a xs/\xs.length<=i⟩
abbrev sE (n:Nat):List Nat:=[n + 1,n]
def Bk {h:Heap}{a n:Addr}{i:Nat}{its:Array Value}{b:Addr}(p:h.IsTuple a its)(q:h.IsTupleIter n b i):a≠n:=λz=>by
 subst z
 obtain⟨o,e,c,_⟩:=p
 obtain⟨o',e',c',_⟩:=q
 rw[e] at e';cases e'
 rw[c] at c'
 simp at c'
def Bd {h:Heap}{a n it:Addr}{i:Int}{its:Array Value}{old:Value}(p:h.IsTuple a its)(q:IsEnum h n it i old):n≠a:=λz=>by
 subst z
 obtain⟨o,e,c,_⟩:=p
 rw[q] at e;cases e
 simp at c
def xA {P:Program}{w:World}{K:Frag}{elts:List Expr}{x1}{pos:Pos}(a:Addr)(n:Nat):Turn P w K (.Tuple elts x1 pos) (L8 K a) (sE n) (n + 1)
  (λi h=>(∃old,IsEnum h (n + 1) n i old)/\h.IsTupleIter n a i) where
 mem:=by simp
 obj:=λi h st c hc=>by
  obtain⟨⟨old,z1⟩,⟨o2,z2,_,d2⟩⟩:=st
  simp only[sE,NO,OF,PF] at hc
  rcases hc with rfl |rfl
  ·exact⟨_,z1,λv z=>by
    have z':Data.fields _=Data.cell v:=z
    cases z'⟩
  ·exact⟨o2,z2,λv z=>by rw[d2] at z;cases z⟩
 keep:=λi h h' st k=>by
  obtain⟨⟨old,z1⟩,z2⟩:=st
  exact⟨⟨old,k _ (by simp) _ z1⟩,z2.at λo e=>k _ (by simp) o e⟩
 item:=by
  intro X hP hw hK hc i pins s σ H E I hf st hg
  subst hP hw hK
  obtain⟨xs,x,ha,hx⟩:=hg
  obtain⟨its,rv,p,hz⟩:=I.tuple ha
  have p:s.heap.IsTuple a its.toArray:=p
  obtain⟨u0,hu0,ru0⟩:=rv.get hx
  obtain⟨⟨old,z1⟩,z2⟩:=st
  have hh:X.A.in1.handled=none:=I.ok.hd hc
  have hlt:i < its.toArray.size:=by
   have:=N0.mp hu0
   simpa using this.1
  refine wpAny_pyNext_enum_itemD (HG hh (Bk p z2) its.toArray) z1 ⟨z2,p⟩ hlt (JO 1 0 rfl) (by
   simp only[NO,OF,PF,not_or]
   exact⟨JO 1 0 rfl,Bd p z1⟩) λu h' tk hu q1 q2 q3 q4 q5=>?_
  have eu:u0=u:=by
   have hu:its.toArray[i]? =some u:=hu
   rw[PX,hu0] at hu
   exact Option.some.inj hu
  subst eu
  refine⟨_,rfl,wpAny_letOwnedTupleGo_enum (s:={s with heap:=h',toks:=tk + 1}) q1 λh2 r1 r2=>?_⟩
  have r2:∀c,c≠n + 1->h2.get? c=h'.get? c:=r2.2
  have lz:n + 1 < s.heap.objs.size:=N1 z1
  have hT:H s.heap.objs.size=none:=I.hok.fresh (NQ _)
  have I1:Inv X pins σ (upd H s.heap.objs.size (.tup [.int i,x])) {s with heap:=s.heap.push {cls:=.type "tuple",data:=.seq #[.int i tk,u0]},toks:=s.toks}:=
   I.laid (λb o e=>NM _ e) (NQ _) ⟨by show 2<=sizeLine;rw[Ot];omega,[.int i tk,u0],.cons ⟨tk,rfl⟩ (.cons ru0 .nil),tQ.new _ _⟩
  have hf':∀c∈sE n,oz X pins (upd H s.heap.objs.size (.tup [.int i,x])) c:=λc hc=>⟨by
   rw[aH (λz=>?_)]
   ·exact (hf c hc).1
   ·subst z
    simp only[sE,NO,OF,PF] at hc
    omega,(hf c hc).2⟩
  have I2:Inv X pins σ (upd H s.heap.objs.size (.tup [.int i,x])) {s with heap:=h2,toks:=tk + 1}:=by
   refine I1.turnedL (ch:=sE n) (λc o hc e=>?_) hf'
   have e:(s.heap.push {cls:=.type "tuple",data:=.seq #[.int i tk,u0]}).get? c=some o:=e
   simp only[sE,NO,OF,PF,not_or] at hc
   rw[r2 c hc.1]
   by_cases z:c=s.heap.objs.size
   ·subst z
    rw[N3 _ rfl] at e
    rw[<-e];exact q3
   ·refine q5 c o hc.1 hc.2 ?_
    rw[Heap.get?_push_ne _ _ _ z] at e
    exact e
  refine⟨.ref s.heap.objs.size,_,I2,rfl,⟨x,_,hT,λxs' h'=>?_,rfl,rfl⟩,⟨⟨u0,r1⟩,q2.1.at λo e=>(r2 _ (JO 0 1 rfl)).trans e⟩,λc hc=>(hf' c hc).1⟩
  rw[I.tuple_inj h' ha];exact hx
 done:=by
  intro X hP hw hK hc i pins s σ H E I hf st hg
  subst hP hw hK
  obtain⟨xs,ha,hl⟩:=hg
  obtain⟨its,rv,p,hz⟩:=I.tuple ha
  obtain⟨⟨old,z1⟩,z2⟩:=st
  have hh:X.A.in1.handled=none:=I.ok.hd hc
  have l1:=rv.length
  refine wpAny_pyNext_enum_endD (JA hh i (xs:=its.toArray) (by simp;omega)) z1 ⟨rfl,z2,p⟩ λh' q=>⟨rfl,?_⟩
  refine I.turnedL (t':=s.toks) (ch:=sE n) (λc o hc e=>?_) hf
  simp only[sE,NO,OF,PF,not_or] at hc
  exact q c o hc.2 e
 self:=λ_ _ _ _ _ st h=>by
  obtain⟨⟨old,z1⟩,_⟩:=st
  exact QH z1 h
def NF (K:Frag)(ta:TA):TI:=λσ H R=>ta σ H λvs H2=>∃a xs,vs= [.ref a]/\fV K H2 a xs/\R (L8 K a) H2
def sX:bootBuiltins "enumerate"=some (.type "enumerate"):=by decide +kernel
section
variable {X:Cx}
theorem HM {a:Expr}{ta:TA}{p pos pt:Pos}{elts:List Expr}{x1}(hg:Gl X "enumerate")(hm:X.mg "enumerate"=none)(ha:PA X [a] ta)(hs:starEach [a] X.env= [(false,eval a X.env)]:=by rfl) :
  PI X (.Tuple elts x1 pt) (.Call (.Name "enumerate" p) [a] [] pos) (NF X.K ta):=by
 intro pins s σ H R I h
 refine Call_ (lj I hg hm sX (O6 (cM (ha pos pins s σ H _ I h) λus s1 ⟨vs,H1,I1,r1,q1⟩=>?_) hs rfl))
 obtain⟨a,xs,e,h1,q⟩:=q1
 subst e
 cases r1 with
 |cons r rr=>
  cases rr
  cases r
  obtain⟨its,rv,p1,hz⟩:=I1.tuple h1
  refine xQ (show s1.heap.IsTuple a its.toArray from p1) λh' z1 z2 z3=>?_
  refine QH z1 ⟨_,sE s1.heap.objs.size,_,_,H1,rfl,I1.kept (t':=s1.toks) z3,xA a s1.heap.objs.size,⟨⟨_,z1⟩,z2⟩,λc hc=>?_,q⟩
  have:s1.heap.objs.size<=c:=by
   simp only[sE,NO,OF,PF] at hc
   rcases hc with rfl |rfl <;> first |exact NQ _ |exact Nat.le_add_right _ _
  exact I1.fpOk this (I1.hok.fresh this)
end
section
variable {X:Cx}{Γ:Fx}{E:XK}{e a b c:Expr}{f fa fb:VF D}{L La Lb:List Nat}{md ma mb:Md}{pos:Pos}
def dz (ds:List D):List D:=ds.mapIdx λi d=>.tuple [.int i,d]
def Dd (fa:VF D):VF (List D):=λvs β=>(fa vs β).bnd λx β1=>match x with
 | .tuple ds=>.ok (dz ds) β1
 |_=>.bad
def Dw {K:Frag}{B:Option Addr}{G H1:Hp}{p:Addr}{xs:List V}{ds:List D}(hp:fV K G p xs)(r:cF K G xs ds):Walk K B G H1 (dz ds) (L8 K p):=λGc H i s1 s2 m=>by
 have hp':=hp.grow (s1.trans s2).grow
 have l1:=r.len
 have lz:(dz ds).length=ds.length:=by unfold dz;rw[List.length_mapIdx]
 refine⟨λhi=>⟨?_,λx H' y=>?_⟩,λhi=>⟨xs,hp',by omega⟩⟩
 ·have h1:i < xs.length:=by omega
  exact⟨xs,xs[i],hp',by simp[h1]⟩
 ·obtain⟨x,t,ht,hx,rfl,rfl⟩:=y
  obtain⟨d,ed,rd⟩:=r.at' (hx xs hp')
  have xn:=Ext.new s2 (o:=.tup [.int i,x]) ht
  refine⟨upd Gc t (.tup [.int i,x]),.tuple [.int i,d],xn,?_,.tup (.inl (.inl aI)) (.cons (.int i) (.cons (rd.mono (s1.trans xn.gg)) .nil))⟩
  unfold dz
  rw[Qs,ed];rfl
theorem CD {p pt:Pos}{elts:List Expr}{x1}(hK:X.K=Γ.K)(hg:Gl X "enumerate")(hm:X.mg "enumerate"=none)(ha:SE X Γ E a fa La ma)(hs:starEach [a] X.env= [(false,eval a X.env)]:=by rfl)(hs':starEach [a] X.env=(false,eval a X.env) :: starEach [] X.env:=by rfl) :
  SI X Γ E (.Tuple elts x1 pt) (.Call (.Name "enumerate" p) [a] [] pos) (Dd fa) La md:=by
 refine PI.post (HM hg hm (aS ha bJ hs') hs) ?_
 rintro σ H Q ⟨env,G,B,β,I,o⟩
 refine⟨env,G,B,β,I,o.bnd.imp λd1 β1 h x G1 H1 I1 s1 m1 vx=>?_⟩
 have vx:=vx.brw I.boxThere
 rw[hK]
 cases d1 with
 |tuple ds=>
  rcases vx with vx | ⟨p,rfl,hb,q⟩
  ·cases vx with
   | @tup p xs _ hq r=>exact⟨p,xs,rfl,hq.grow I1.sub.grow,h _ G1 H1 I1 s1 m1 (Dw hq r)⟩
  ·exact q.elim
 |_=>exact h.elim
end
end L2
namespace L2.ST
open PySem PySem.SetTable
section
variable {prog:Program}{w:World}{A:Around}{E:Value->Shared->Prop}{s:Shared}
set_option maxHeartbeats 3200000 in
theorem sf {l:Addr}{vs:List Value}{ns:List Int}{T:String}{itO:Obj}{St:Addr->Nat->Heap->Prop}{Q:Value->Shared->Prop}(X:Src prog w s.heap l vs T itO St)(hh:A.handled=none)(hi:PyProof.Rows.IntsAre vs ns)(hb:vs.length + 1 < scanBound)
  (h:∀(h':Heap) (tk:Nat),h'.SetOf (intKind prog w) s.heap.objs.size (λk'=>(PyProof.Rows.firstMet (λi=>ns.getD i 0) vs.length).any (· == k')) (PyProof.Rows.firstMet (λi=>ns.getD i 0) vs.length).length->(∀b o,s.heap.get? b=some o->h'.get? b=some o)->Q (.ref s.heap.objs.size) {s with heap:=h',toks:=tk}) :
  wpAny (model prog w) A (call (.type "set") [.ref l]) Q E s:=by
 obtain⟨c0,tl0,hmro0⟩:=OQ.mro
 have hmade0:=OQ.made
 have hsub0:=OQ.sub
 refine wpAny_call (codeAny_of_tree ?_)
 show wpAny _ _ (callAny (.type "set") ⟨[.ref l],[]⟩) _ _ _
 refine NU ⟨Code.quiet_builtin _ (by decide +kernel),PY F.entry_type_call ?_⟩
 (rw[Around.under_plain (weight_type_call_type "set" [.ref l] []) rfl])
 have g1:=OQ.notType
 have g2:=OQ.canCreate
 have g3:=F.typeCall_set_1 (.ref l)
 repeat (any_goals (first |assumption |wp_step))
 refine Qa (oZ (.ref l) (E:=E) (Q1:=λobj s1=>obj=.ref s.heap.objs.size/\s1={s with heap:=s.heap.push {cls:=.type "set",dict:=none,data:=.set #[] 0 (.fresh 0 0 (gL w))}}) ⟨rfl,rfl⟩) λr s1 hr=>?_
 cases r with
 |error e=>exact hr
 |ok fl=>
  cases fl with
  |ret obj=>
   obtain⟨rfl,rfl⟩:=hr
   generalize hO:({cls:=.type "set",dict:=none,data:=.set #[] 0 (.fresh 0 0 (gL w))}:Obj)=O
   have hS0:(s.heap.push O).get? s.heap.objs.size=some O:=N3 _ (by rw[<-hO];rfl)
   have hT0:Shared.TypeIs {s with heap:=s.heap.push O} (.ref s.heap.objs.size) "set":=⟨_,hS0,by rw[<-hO]⟩
   have g4:=OQ.init.lookup
   have g5:=OQ.init.bind (.ref s.heap.objs.size)
   repeat (any_goals (first |assumption |wp_step))
   refine Qa (codeAny_call_builtin (R:=wants (λr s2=>r=.none/\∃h' tk,s2={s with heap:=h',toks:=tk}/\h'.SetOf (intKind prog w) s.heap.objs.size (λk'=>(PyProof.Rows.firstMet (λi=>ns.getD i 0) vs.length).any (· == k')) (PyProof.Rows.firstMet (λi=>ns.getD i 0) vs.length).length/\(∀b o,s.heap.get? b=some o->h'.get? b=some o)) E)
    OQ.init.plain F.entry_set_init (check_set_init_1 hT0 ?_)) λr2 s2 hr2=>?_
   ·obtain⟨ol,hol,hcl⟩:=X.ty
    have hol':(s.heap.push O).get? l=some ol:=NM _ hol
    have e1:=X.ns
    have e2:=X.nf
    have e3:=X.nd
    have hTl:Shared.TypeIs {s with heap:=s.heap.push O} (.ref l) T:=⟨ol,hol',hcl⟩
    have hdat:O.data=.set #[] 0 (.fresh 0 0 (gL w)):=by rw[<-hO]
    (unfold Builtin.«set.__init__» noKeywords Builtin.Frozenset.updateFrom)
    subst hO
    obtain⟨oc,od,odt,osl⟩:=ol
    simp only at hcl
    subst hcl
    (generalize hPI0:pyIter=PI0)
    wp_walk
    subst hPI0
    have kp:∀b o,s.heap.get? b=some o->(s.heap.push {cls:=.type "set",dict:=none,data:=.set #[] 0 (.fresh 0 0 (gL w))}).get? b=some o:=λb o e=>NM _ e
    refine X.it _ _ _ _ kp ?_
    refine NL (wpAny_runValue ?_)
    have hlS:l < s.heap.objs.size:=N1 hol
    have hh3:A.in1.in1.in1.handled=none:=by simp[hh]
    have hneI:l≠(s.heap.push {cls:=.type "set",dict:=none,data:=.set #[] 0 (.fresh 0 0 (gL w))}).objs.size:=by
     rw[Pg];exact Oz (Nat.lt_succ_of_lt hlS)
    have hSf:s.heap.objs.size∉ [(s.heap.push {cls:=.type "set",dict:=none,data:=.set #[] 0 (.fresh 0 0 (gL w))}).objs.size,l]:=by
     rw[Pg]
     intro z
     rcases NO.mp z with e |z
     ·exact absurd e (Oz (Nat.lt_succ_self _))
     ·exact absurd (Oe.mp z) (Nat.ne_of_gt hlS)
    refine PyProof.Rows.codeAny_set_update_loopS ((X.wk _ _ hh3 hneI).toS) s.heap.objs.size hSf (λi=>ns.getD i 0) (λi v e=>PyProof.Rows.IntsAre.int_at hi i v e) hb (vs.length - 0) 0 _ (by omega) (Ov _) (X.st _ kp) ?_ ?_
    ·exact PyProof.Rows.SetOf_congr ((PyProof.Rows.setObjOf_fresh (knd:=intKind prog w) (gL w)).setOf (NM _ hS0) (by unfold scanBound;omega)) (λ_=>rfl) rfl
    ·intro s' hm F'
     obtain⟨h',g',d',tk,os'⟩:=s'
     have eg:g'=s.gens:=hm.gens
     have ed:d'=s.drawn:=hm.drawn
     have eo:os'=s.os:=hm.os
     subst eg;subst ed;subst eo
     show wpAny _ _ _ _ _ _
     refine NU ?_
     show wpAny _ _ (ret Value.none) _ _ _
     refine NU ⟨rfl,h',tk,rfl,F',λb o e=>hm.heap b o (λz=>?_) (NM _ (kp b o e))⟩
     have hlt:=N1 e
     rw[Pg] at z
     rcases NO.mp z with z |z
     ·exact absurd hlt (by rw[z];exact OA _)
     ·rw[Oe.mp z] at hlt
      exact absurd hlt (Nat.not_lt.mpr (Nat.le_succ _))
   ·cases r2 with
    |error e=>exact hr2
    |ok fl2=>
     cases fl2 with
     |ret r=>
      obtain⟨rfl,h',tk,rfl,hF,hk⟩:=hr2
      repeat (any_goals (first |assumption |wp_step))
      exact h _ _ hF hk
     |_=>exact hr2.elim
  |_=>exact hr.elim
end
end L2.ST
namespace L2
open PySem PyProof.Rows
section
variable {X:Cx}{K:Frag}{pins:List V}{σ:St}{H:Hp}{s:Shared}{E:XK}
def KD (ns:List Int)(k:Int):Bool:=(firstMet (λi=>ns.getD i 0) ns.length).any (· == k)
def rP (ns:List Int):Nat:=(firstMet (λi=>ns.getD i 0) ns.length).length
def G9 (K:Frag):List V->Hp->VK->Prop:=λxs H Q=>∃a ns,xs= [.ref a]/\(gY K H a (ns.map V.int)\/fV K H a (ns.map V.int))/\ns.length<=1000/\∀S,H S=none->Q (.ref S) (upd H S (.set (KD ns) (rP ns)))
def A8 (hc:X.calm=true):dm X (.type "set") (G9 X.K):=by
 intro pins s σ H xs us Q I r h
 obtain⟨a,ns,rfl,hq,hz,q⟩:=h
 obtain⟨u,rfl,rx⟩:=vals1 r
 cases rx
 have hh:=I.ok.hd hc
 have core:∀{its:List Value} {T:String} {itO:Obj} {St:Addr->Nat->Heap->Prop},Vals (ns.map V.int) its->L2.ST.Src X.prog X.w s.heap a its T itO St->wpAny (model X.prog X.w) X.A (call (.type "set") [.ref a]) (EP X pins σ Q) X.xe s:=λ{its T itO St} rv src=>by
  have hl:its.length=ns.length:=by rw[<-rv.length,NT]
  refine L2.ST.sf src hh (intsAre_of rv) (by unfold scanBound;omega) λh' tk F k=>?_
  rw[hl] at F
  exact⟨.ref _,_,I.laid (t':=tk) (o:=.set (KD ns) (rP ns)) k (NQ _) F,rfl,q _ (I.hok.fresh (NQ _))⟩
 rcases hq with hq |hq
 ·obtain⟨its,rv,pl,hz⟩:=I.list hq
  exact core rv (L2.ST.Src.list pl.isList)
 ·obtain⟨its,rv,pl,hz⟩:=I.tuple hq
  exact core rv (L2.ST.Src.tuple pl)
def Bm:dm X (.builtin "len") (λxs H Q=>∃S f n,xs= [.ref S]/\H S=some (.set f n)/\Q (.int n) H):=by
 intro pins s σ H xs us Q I r h
 obtain⟨S,f,n,rfl,hS,q⟩:=h
 obtain⟨u,rfl,rx⟩:=vals1 r
 cases rx
 obtain⟨o,es,ep,t,ho,hex,hd,_,_,hb,hf,e⟩:s.heap.SetOf (intKind X.prog X.w) S f n:=I.hok _ _ hS
 refine call_len_set ho hex hd hf (by unfold scanBound at hb;omega) ⟨.int n,H,I.tok _,⟨_,by rw[e]⟩,q⟩
def pF (d:D):Option D:=match kW d with
 |some ds=>(match iP ds with
  |some ns=>if ns.length<=1000 then some (.int (rP ns)) else none
  |none=>none)
 |none=>none
theorem cF.intsB {G:Hp}:∀{ns:List Int} {xs:List V},cF K G xs (ns.map int)->xs=ns.map V.int
 | [],_,.nil=>rfl
 |n :: ns,_,.cons r t=>by cases r;rw[cF.intsB t];rfl
variable {Γ:Fx}{e a b c:Expr}{f fa fb fc:VF D}{L La Lb:List Nat}{md ma mb mc:Md}{pos:Pos}
theorem A1 {p1 p2 pos2:Pos}(hc:X.calm=true)(hK:X.K=Γ.K)(hg:Gl X "len")(hm:X.mg "len"=none)(hg2:Gl X "set")(hm2:X.mg "set"=none)(ha:SE X Γ E a fa La ma)
  (he:starEach [a] X.env=(false,eval a X.env) :: starEach [] X.env:=by rfl)
  (he2:starEach [.Call (.Name "set" p2) [a] [] pos2] X.env=(false,eval (.Call (.Name "set" p2) [a] [] pos2) X.env) :: starEach [] X.env:=by rfl) :
  SE X Γ E (.Call (.Name "len" p1) [.Call (.Name "set" p2) [a] [] pos2] [] pos) (f1 fa pF) La .v:=by
 refine PE.post' (jI Bm hg hm (by decide +kernel) (aS (iy (A8 hc) hg2 hm2 (by decide +kernel) (aS ha bJ he) (by decide) (by decide) he) bJ he2) (by decide) (by decide) he2) λσ H Q ⟨env,G,B,β,I,o⟩=>?_
 refine i5 (r:=λx H1 Q=>G9 X.K [x] H1 λy H2=>∃S f n,[y]= [V.ref S]/\H2 S=some (.set f n)/\Q (.int n) H2) ?_ I o
 intro B G H x dx d Q s hB bx e k
 rw[hK]
 unfold pF at e
 cases q:kW dx with
 |none=>rw[q] at e;cases e
 |some ds=>
  rw[q] at e
  dsimp only at e
  cases q2:iP ds with
  |none=>rw[q2] at e;cases e
  |some ns=>
   rw[q2] at e
   dsimp only at e
   split at e
   ·rename_i hz
    cases e
    obtain⟨p,xs,rfl,hq,r⟩:=bx.seq q s
    rw[nR q2] at r
    have r:=r.intsB
    subst r
    exact⟨p,ns,rfl,hq,hz,λS hS=>⟨S,_,_,rfl,aI,k _ _ _ (Ext.own s hS) (.int _)⟩⟩
   ·cases e
end
end L2
namespace L2
open PySem
section
variable {K:Frag}{h:Heap}{mg:Str->Option Value}
theorem A9 {α:Type}{P:List α->Prop}(q:∀a,P [a]):∀us:List α,us.length=1->P us
 | [a],_=>q a
theorem ln2 {α:Type}{P:List α->Prop}(q:∀a b,P [a,b]):∀us:List α,us.length=2->P us
 | [a,b],_=>q a b
theorem Kw {α:Type}{P:List α->Prop}(q:∀a b c,P [a,b,c]):∀us:List α,us.length=3->P us
 | [a,b,c],_=>q a b c
theorem Nz {α:Type}{P:List α->Prop}(q:∀a b c d,P [a,b,c,d]):∀us:List α,us.length=4->P us
 | [a,b,c,d],_=>q a b c d
def a8 (x:Str)(st:Stmt)(ps:List Str):Prop:=∀(kV doc pm:Value) (an:Option Addr) (cdv ct:Value) (us:List Value),us.length=ps.length->bindArgs (PySem.W.fnOf x x (jk st) (df st) (ay st) .none kV doc pm an cdv ct) ⟨us,[]⟩=pure (ps.zip us)
structure Fo (K:Frag)(mg:Str->Option Value)(x:Str)(st:Stmt)(ps:List Str):Prop where
 ex:∃f fd,iA K mg x st ps f fd
def bE {x:Str}{st:Stmt}{ps:List Str}{f:Addr}{oc:Value}{od an:Option Addr}{sl:Array (Option Value)}{kV doc pm cdv ct:Value}(X:K.In h)(G:h.Ns mainGlobals mg)(b:a8 x st ps)(a:PySem.W.nsIn K mainGlobals x=some (some (.ref f)))
  (l:K.lookup f=some ⟨oc,od,.func (PySem.W.fnOf x x (jk st) (df st) (ay st) .none kV doc pm an cdv ct),sl⟩) (c:PySem.W.codeIn K cdv x=true) (k:PySem.W.keepIn K (.ref f)=true):Fo K mg x st ps:=
 ⟨⟨f,_,Qi X G a,yF l c k,(yF l c k).binds b⟩⟩
def Mz:List Str:=["len","range","enumerate","zip","min","max","sum","abs","sorted","reversed","int","str","bool","list","tuple","dict","set","isinstance","repr","any","all","divmod"]
def L9 (K:Frag):Bool:=Mz.all λx=>match PySem.W.nsIn K mainGlobals x with
 |some none=>true
 |_=>false
def HS (q:L9 K=true){x:Str}(hx:x∈Mz):PySem.W.nsIn K mainGlobals x=some none:=by
 have:=Oq.mp q x hx
 split at this
 ·assumption
 ·cases this
def KA (X:K.In h)(G:h.Ns mainGlobals mg)(q:L9 K=true):iQ mg:=by
 have key:∀{x:Str},x∈Mz->mg x=none:=λhx=>PySem.W.mg_none_of X G (HS q hx)
 constructor <;> exact key (by decide)
end
section
variable {X:Cx}{P:Program}{w:World}{K:Frag}{mg:Str->Option Value}{base:Heap}{ca:Str->Addr}
def AV:mD X (compareOp .IsNot) (λx y H Q=>∃a b,x=.bl a/\y=.bl b/\Q (.bl (!(a == b))) H):=by
 intro pins s σ H x y v u Q I rx ry h
 obtain⟨a,b,rfl,rfl,q⟩:=h
 cases rx;cases ry
 refine wpAny_isNot_plain rfl (ID I q ?_)
 cases a <;> cases b <;> rfl
def Hq:D->D->Option D
 | .bool a,.bool b=>some (.bool (!(a == b)))
 |_,_=>none
theorem Cv:nP K (λx y H Q=>∃a b,x=.bl a/\y=.bl b/\Q (.bl (!(a == b))) H) Hq .v:=by
 intro B G H x y dx dy d Q s hB bx bv e k
 cases dx with
 |bool a=>
  cases dy with
  |bool b=>cases e;obtain rfl:=bx.bool;obtain rfl:=bv.bool;exact⟨a,b,rfl,rfl,k _ G H (Ext.refl s) (.bl _)⟩
  |_=>cases e
 |_=>cases e
end
end L2
namespace L2
open PySem PySem.Spec PyProof.Rows
def GF {prog:Program}{w:World}{A:Around}{it t:Addr}{xs:Array Value}(hh:A.handled=none)(i:Nat)(hx:xs[i]? =none):Draws prog w A it [it,t] i (λ_ _=>False) (λj h=>j=i/\h.IsListIter it t i/\h.IsList t xs) where
 live:=λ_ _ st=>let ⟨o,ho,_⟩:=st.2.1;⟨o,ho⟩
 frame:=λ_ _ _ st hk=>⟨st.1,st.2.1.at λo e=>hk it (by simp) o e,st.2.2.at λo e=>hk t (by simp) o e⟩
 item:=λj s Q E hi st k=>absurd st.1 (by omega)
 done:=λs Q E st k=>wpAny_nextOf_list_end hh st.2.1 st.2.2 hx k
def JG (K:Frag)(a:Addr):It:=
 ⟨λi H=>∃xs x,gY K H a xs/\xs[i]? =some x,
  λi H v H'=>∃x t,H t=none/\(∀xs,gY K H a xs->xs[i]? =some x)/\v=.ref t/\H'=upd H t (.tup [.int i,x]),
  λi H=>∃xs,gY K H a xs/\xs.length<=i⟩
def Ar {h:Heap}{a n:Addr}{i:Nat}{its:Array Value}{b:Addr}(p:h.IsList a its)(q:h.IsListIter n b i):a≠n:=λz=>by
 subst z
 obtain⟨o,e,c,_⟩:=p
 obtain⟨o',e',c',_⟩:=q
 rw[e] at e';cases e'
 rw[c] at c'
 simp at c'
def As {h:Heap}{a n it:Addr}{i:Int}{its:Array Value}{old:Value}(p:h.IsList a its)(q:IsEnum h n it i old):n≠a:=λz=>by
 subst z
 obtain⟨o,e,c,_⟩:=p
 rw[q] at e;cases e
 simp at c
def yV {P:Program}{w:World}{K:Frag}{elts:List Expr}{x1}{pos:Pos}(a:Addr)(n:Nat):Turn P w K (.Tuple elts x1 pos) (JG K a) (sE n) (n + 1)
  (λi h=>(∃old,IsEnum h (n + 1) n i old)/\h.IsListIter n a i) where
 mem:=by simp
 obj:=λi h st c hc=>by
  obtain⟨⟨old,z1⟩,⟨o2,z2,_,d2⟩⟩:=st
  simp only[sE,NO,OF,PF] at hc
  rcases hc with rfl |rfl
  ·exact⟨_,z1,λv z=>by
    have z':Data.fields _=Data.cell v:=z
    cases z'⟩
  ·exact⟨o2,z2,λv z=>by rw[d2] at z;cases z⟩
 keep:=λi h h' st k=>by
  obtain⟨⟨old,z1⟩,z2⟩:=st
  exact⟨⟨old,k _ (by simp) _ z1⟩,z2.at λo e=>k _ (by simp) o e⟩
 item:=by
  intro X hP hw hK hc i pins s σ H E I hf st hg
  subst hP hw hK
  obtain⟨xs,x,ha,hx⟩:=hg
  obtain⟨its,rv,p,hz⟩:=I.list ha
  have p:s.heap.IsList a its.toArray:=p.isList
  obtain⟨u0,hu0,ru0⟩:=rv.get hx
  obtain⟨⟨old,z1⟩,z2⟩:=st
  have hh:X.A.in1.handled=none:=I.ok.hd hc
  have hlt:i < its.toArray.size:=by
   have:=N0.mp hu0
   simpa using this.1
  refine wpAny_pyNext_enum_itemD (Draws.list hh n a (Ar p z2) its.toArray) z1 ⟨z2,p⟩ hlt (JO 1 0 rfl) (by
   simp only[NO,OF,PF,not_or]
   exact⟨JO 1 0 rfl,As p z1⟩) λu h' tk hu q1 q2 q3 q4 q5=>?_
  have eu:u0=u:=by
   have hu:its.toArray[i]? =some u:=hu
   rw[PX,hu0] at hu
   exact Option.some.inj hu
  subst eu
  refine⟨_,rfl,wpAny_letOwnedTupleGo_enum (s:={s with heap:=h',toks:=tk + 1}) q1 λh2 r1 r2=>?_⟩
  have r2:∀c,c≠n + 1->h2.get? c=h'.get? c:=r2.2
  have lz:n + 1 < s.heap.objs.size:=N1 z1
  have hT:H s.heap.objs.size=none:=I.hok.fresh (NQ _)
  have I1:Inv X pins σ (upd H s.heap.objs.size (.tup [.int i,x])) {s with heap:=s.heap.push {cls:=.type "tuple",data:=.seq #[.int i tk,u0]},toks:=s.toks}:=
   I.laid (λb o e=>NM _ e) (NQ _) ⟨by show 2<=sizeLine;rw[Ot];omega,[.int i tk,u0],.cons ⟨tk,rfl⟩ (.cons ru0 .nil),tQ.new _ _⟩
  have hf':∀c∈sE n,oz X pins (upd H s.heap.objs.size (.tup [.int i,x])) c:=λc hc=>⟨by
   rw[aH (λz=>?_)]
   ·exact (hf c hc).1
   ·subst z
    simp only[sE,NO,OF,PF] at hc
    omega,(hf c hc).2⟩
  have I2:Inv X pins σ (upd H s.heap.objs.size (.tup [.int i,x])) {s with heap:=h2,toks:=tk + 1}:=by
   refine I1.turnedL (ch:=sE n) (λc o hc e=>?_) hf'
   have e:(s.heap.push {cls:=.type "tuple",data:=.seq #[.int i tk,u0]}).get? c=some o:=e
   simp only[sE,NO,OF,PF,not_or] at hc
   rw[r2 c hc.1]
   by_cases z:c=s.heap.objs.size
   ·subst z
    rw[N3 _ rfl] at e
    rw[<-e];exact q3
   ·refine q5 c o hc.1 hc.2 ?_
    rw[Heap.get?_push_ne _ _ _ z] at e
    exact e
  refine⟨.ref s.heap.objs.size,_,I2,rfl,⟨x,_,hT,λxs' h'=>?_,rfl,rfl⟩,⟨⟨u0,r1⟩,q2.1.at λo e=>(r2 _ (JO 0 1 rfl)).trans e⟩,λc hc=>(hf' c hc).1⟩
  rw[I.list_inj h' ha];exact hx
 done:=by
  intro X hP hw hK hc i pins s σ H E I hf st hg
  subst hP hw hK
  obtain⟨xs,ha,hl⟩:=hg
  obtain⟨its,rv,p,hz⟩:=I.list ha
  obtain⟨⟨old,z1⟩,z2⟩:=st
  have hh:X.A.in1.handled=none:=I.ok.hd hc
  have l1:=rv.length
  refine wpAny_pyNext_enum_endD (GF hh i (xs:=its.toArray) (by simp;omega)) z1 ⟨rfl,z2,p.isList⟩ λh' q=>⟨rfl,?_⟩
  refine I.turnedL (t':=s.toks) (ch:=sE n) (λc o hc e=>?_) hf
  simp only[sE,NO,OF,PF,not_or] at hc
  exact q c o hc.2 e
 self:=λ_ _ _ _ _ st h=>by
  obtain⟨⟨old,z1⟩,_⟩:=st
  exact QH z1 h
def LY (K:Frag)(ta:TA):TI:=λσ H R=>ta σ H λvs H2=>∃a xs,vs= [.ref a]/\gY K H2 a xs/\R (JG K a) H2
section
variable {X:Cx}
theorem Jt {a:Expr}{ta:TA}{p pos pt:Pos}{elts:List Expr}{x1}(hg:Gl X "enumerate")(hm:X.mg "enumerate"=none)(ha:PA X [a] ta)(hs:starEach [a] X.env= [(false,eval a X.env)]:=by rfl) :
  PI X (.Tuple elts x1 pt) (.Call (.Name "enumerate" p) [a] [] pos) (LY X.K ta):=by
 intro pins s σ H R I h
 refine Call_ (lj I hg hm sX (O6 (cM (ha pos pins s σ H _ I h) λus s1 ⟨vs,H1,I1,r1,q1⟩=>?_) hs rfl))
 obtain⟨a,xs,e,h1,q⟩:=q1
 subst e
 cases r1 with
 |cons r rr=>
  cases rr
  cases r
  obtain⟨its,rv,p1,hz⟩:=I1.list h1
  refine call_enumerate_list p1.isList λh' z1 z2 _ z3=>?_
  refine QH z1 ⟨_,sE s1.heap.objs.size,_,_,H1,rfl,I1.kept (t':=s1.toks) z3,yV a s1.heap.objs.size,⟨⟨_,z1⟩,z2⟩,λc hc=>?_,q⟩
  have:s1.heap.objs.size<=c:=by
   simp only[sE,NO,OF,PF] at hc
   rcases hc with rfl |rfl <;> first |exact NQ _ |exact Nat.le_add_right _ _
  exact I1.fpOk this (I1.hok.fresh this)
end
section
variable {X:Cx}{Γ:Fx}{E:XK}{e a b c:Expr}{f fa fb:VF D}{L La Lb:List Nat}{md ma mb:Md}{pos:Pos}
def ET (fa:VF D):VF (List D):=λvs β=>(fa vs β).bnd λx β1=>match x with
 | .list ds=>.ok (dz ds) β1
 |_=>.bad
def Du {K:Frag}{B:Option Addr}{G H1:Hp}{p:Addr}{xs:List V}{ds:List D}(hp:∀Gc H,aC G Gc->aC Gc H->iY B H1 H->gY K H p xs)(r:cF K G xs ds):Walk K B G H1 (dz ds) (JG K p):=λGc H i s1 s2 m=>by
 have hp':=hp Gc H s1 s2 m
 have l1:=r.len
 have lz:(dz ds).length=ds.length:=by unfold dz;rw[List.length_mapIdx]
 refine⟨λhi=>⟨?_,λx H' y=>?_⟩,λhi=>⟨xs,hp',by omega⟩⟩
 ·have h1:i < xs.length:=by omega
  exact⟨xs,xs[i],hp',by simp[h1]⟩
 ·obtain⟨x,t,ht,hx,rfl,rfl⟩:=y
  obtain⟨d,ed,rd⟩:=r.at' (hx xs hp')
  have xn:=Ext.new s2 (o:=.tup [.int i,x]) ht
  refine⟨upd Gc t (.tup [.int i,x]),.tuple [.int i,d],xn,?_,.tup (.inl (.inl aI)) (.cons (.int i) (.cons (rd.mono (s1.trans xn.gg)) .nil))⟩
  unfold dz
  rw[Qs,ed];rfl
theorem vt {p pt:Pos}{elts:List Expr}{x1}(hK:X.K=Γ.K)(hg:Gl X "enumerate")(hm:X.mg "enumerate"=none)(ha:SE X Γ E a fa La .v)(hs:starEach [a] X.env= [(false,eval a X.env)]:=by rfl)(hs':starEach [a] X.env=(false,eval a X.env) :: starEach [] X.env:=by rfl) :
  SI X Γ E (.Tuple elts x1 pt) (.Call (.Name "enumerate" p) [a] [] pos) (ET fa) La .v:=by
 refine PI.post (Jt hg hm (aS ha bJ hs') hs) ?_
 rintro σ H Q ⟨env,G,B,β,I,o⟩
 refine⟨env,G,B,β,I,o.bnd.imp λd1 β1 h x G1 H1 I1 s1 m1 vx=>?_⟩
 have vx:Rp Γ.K G1 x d1:=vx
 rw[hK]
 cases d1 with
 |list ds=>
  cases vx with
  | @lst p xs _ hq r=>exact⟨p,xs,rfl,.inl (Rd.mono (.inl hq) I1.sub),h _ G1 H1 I1 s1 m1 (Du (λGc H t1 t2 _=>.inl (Rd.mono (.inl hq) (t1.trans t2))) r)⟩
 |_=>exact h.elim
end
end L2
namespace L2
open PySem PyProof.Rows
section
variable {X:Cx}{K:Frag}{pins:List V}{σ:St}{H:Hp}{s:Shared}{E:XK}
theorem qJ:∀{us:List Value} {ns:List Int},IntsAre us ns->∃xs:List (Int×Tok),us=xs.map (λp=>Value.int p.1 p.2)/\xs.map (·.1)=ns
 |_,_,.nil=>⟨[],rfl,rfl⟩
 |_,_,.cons n t hr=>by
  obtain⟨xs,e1,e2⟩:=qJ hr
  exact⟨(n,t) :: xs,by rw[e1];rfl,by rw[<-e2];rfl⟩
def CZ {us:List Value}{ns:List Int}(h:IntsAre us ns):∃xs:Array (Int×Tok),us.toArray=intItems xs/\(∀i,numAt xs i=ns.getD i 0)/\xs.size=ns.length:=by
 obtain⟨xs,e1,e2⟩:=qJ h
 refine⟨xs.toArray,?_,λi=>?_,?_⟩
 ·rw[e1,intItems,List.map_toArray]
 ·rw[numAt_eq];show ((xs.map (·.1)).getD i 0)=_;rw[e2]
 ·rw[<-e2];simp
end
end L2
namespace RM
open PySem L2
def l8 (bw:List D->FR):SF:=(aG (jF ([] ++ ([] ++ [])) (mi (rJ (j3 (f1 (gv 0) (jz "tuple")))) (cI (f2 (f1 (gv 0) cc) (gv 1) (cp true))))
 (bM (cst (.bool false)))
 kZ)
 (bM (eN (f1 (aN 1 [1] (.nm 0) (bG (gv 0)) kU (ao bw (aa (gv 0) (aa (gv 1) ag)))) (de λbs=>bs.all id)) (f2 (f1 (gv 0) pF) (gv 1) (cp false)))))
def nk:SF:=(aG (gM 1 (([] ++ []) ++ []) (f2 (bD (aa (cst (.int 0)) ag)) (f1 (gv 0) cc) pA))
 (aG (dr (.two 2 3) [] (Dd (gv 0))
 (nz 1 [2] [] (gv 2) (gv 3)))
 (qD 1)))
def gu (ij jH:List D->FR):SF:=(aG (jF ([0] ++ (([] ++ []) ++ [])) (rJ (j3 (ao ij (aa (gv 0) (aa (f2 (gv 1) (cst (.int 0)) bo) ag)))))
 (bM (cst (.bool false)))
 kZ)
 (aG (bg 2 ([0] ++ []) (ao jH (aa (gv 0) ag)))
 (bM (f1 (aN 2 [2] (.two 0 1) (bG (f2 (gv 1) (cst (.int 1)) bo)) kU (f2 (f2 (gv 2) (gv 0) bo) (f2 (gv 2) (gv 1) bo) zX)) (de λbs=>bs.all id)))))
def p0 (aF c8:List D->FR):SF:=(aG (mC ([1] ++ []) (ao aF (aa (gv 1) ag)))
 (bM (ao c8 (aa (gv 0) (aa (gv 1) ag)))))
def hW:SF:=(bM (f2 (gv 0) (f2 (cst (.int 1)) (gv 1) yh) LK))
def gr (ar:List D->FR):SF:=(aG (gM 1 (([] ++ []) ++ ([] ++ [])) (f2 (bD (aa (cst (.int 0)) ag)) (f2 (gv 0) (cst (.int 0)) bo) pA))
 (aG (dr (.two 2 3) ([] ++ []) (bG (f2 (gv 0) (cst (.int 1)) bo))
 (nz 1 (([] ++ []) ++ ([2] ++ [])) [] (ao ar (aa (f2 (gv 1) (gv 3) bo) (aa (gv 2) ag))) (gv 3)))
 (qD 1)))
def gy (ar:List D->FR):SF:=(aG (gM 2 [] (bD ag))
 (aG (dr (.two 3 4) [0] (ET (gv 0))
 (jF ((([1] ++ ([3] ++ [])) ++ []) ++ (([] ++ []) ++ [])) (yd (cI (f2 (ao ar (aa (gv 1) (aa (gv 3) ag))) (gv 1) (cp true))) (cI (f2 (f2 (gv 1) (gv 4) DB) (gv 4) (cp false))))
 (jA 2 [3] (gv 3))
 kZ))
 (qD 2)))
def i3 (aZ ar:List D->FR):SF:=(aG (gM 2 [] (bD ag))
 (aG (bg 3 [] (cst (.int 0)))
 (aG (gX ([] ++ []) (cI (f2 (f1 (gv 2) cc) (f1 (gv 0) cc) zX))
 (aG (bg 4 ([0] ++ ([3] ++ [])) (ao aZ (aa (gv 0) (aa (gv 3) ag))))
 (aG (bg 5 ([] ++ []) (aN 1 [1] (.nm 0) (bG (gv 4)) (cI (f2 (gv 0) (gv 1) (nZ true))) (gv 0)))
 (aG (jA 2 (([] ++ []) ++ []) (f2 (f2 (gv 5) (gv 4) iZ) (cst (.int 0)) bo))
 (bg 3 ([3] ++ (([] ++ []) ++ [])) (ao ar (aa (gv 3) (aa (f2 (gv 2) (f1 (cst (.int 1)) mF) bo) ag))))))) 1000)
 (bM (f1 (gv 2) lq)))))
end RM
namespace L2
open PySem PyProof.Rows
section
variable {X:Cx}{K:Frag}{E:XK}
variable {Γ:Fx}{e a b c:Expr}{f fa fb fc:VF D}{L La Lb:List Nat}{md ma mb mc:Md}{pos:Pos}
def SI.vb {tg:Expr}{fi:VF (List D)}(h:SI X Γ E tg e fi L .v):SI X Γ E tg e fi L .b:=PI.post h λσ H Q ⟨env,G,B,β,I,o⟩=>⟨env,G,B,β,I,o.imp λds β' k J G' H' a b c w=>k J G' H' a b c w.any⟩
end
end L2
namespace L2
open PySem PySem.Spec PyProof.Rows
section
variable {X:Cx}{tg:Expr}
def K4 (lo:Int)(n:Nat):It:=⟨λi _=>i < n,λi H x H'=>H'=H/\x=.int (lo - i),λi _=>n<=i⟩
def wd {P:Program}{w:World}{K:Frag}{tg:Expr}(it:Addr)(lo:Int)(n:Nat):Turn P w K tg (K4 lo n) [it] it (λi h=>IsRangeIter h it (lo + (i:Nat) * (-1)) ((n:Int) - (i:Nat)) (-1)) where
 mem:=by simp
 obj:=λi h st b hb=>by
  have e:b=it:=by simpa using hb
  subst e
  exact⟨_,st,λv z=>by
   have z':Data.fields _=Data.cell v:=z
   cases z'⟩
 keep:=λi h h' st k=>k it (by simp) _ st
 item:=by
  intro X hP hw hK hc i pins s σ H E I hf st hg
  subst hP hw hK
  obtain⟨f0,f1,f2,f3,f4,f5⟩:=hf it (by simp)
  have W:=Walks.range (prog:=X.prog) (w:=X.w) (I.ok.hd hc) it lo (-1) n
  refine W.item i s _ _ hg st λv h' tk hv st' kk=>?_
  obtain⟨t,rfl⟩:=hv
  have I1:Inv X pins σ H {s with heap:=h',toks:=tk}:=I.turned (λb o hb e=>kk b o (by simpa using hb) e) f0 f1 f3 f4 f5
  refine⟨_,rfl,zY (s:={s with heap:=h',toks:=tk}) (n:="range_iterator") st' rfl rfl (by decide) ⟨.int (lo - i),H,I1,⟨t,?_⟩,⟨rfl,rfl⟩,st',λb hb=>(hf b hb).1⟩⟩
  rw[show lo + (i:Int) * (-1)=lo - i by omega]
 done:=by
  intro X hP hw hK hc i pins s σ H E I hf st hg
  subst hP hw hK
  obtain⟨f0,f1,f2,f3,f4,f5⟩:=hf it (by simp)
  exact wpAny_pyNext_range_end (I.ok.hd hc) st (by have:n<=i:=hg;omega) λh' eb=>⟨rfl,I.turned (t':=s.toks) (λb o hb e=>eb b o hb e) f0 f1 f3 f4 f5⟩
 self:=λ_ _ _ _ _ st h=>wpAny_pyIter_rangeiter st h
def Bz {pins:List (Addr×Obj)}{σ:St}{H:Hp}{s:Shared}{R:It->Hp->Prop}{E:Value->Shared->Prop}{lo hi:Int}{t u v:Tok}{tk:Nat}(I:Inv X pins σ H s)(h1: -(2 ^ 62)<=lo)(h2:lo < 2 ^ 62)(h3: -(2 ^ 62)<=hi)(h4:hi < 2 ^ 62)
  (q:R (K4 lo (lo - hi).toNat) H):wpAny (model X.prog X.w) X.A (pyIter (.ref s.heap.objs.size)) (Me X pins σ tg R) E {s with heap:=s.heap.push {cls:=.type "range",data:=.fields #[.int lo t,.int hi u,.int (-1) v]},toks:=tk}:=by
 refine wpAny_pyIter_range (IsRange.new ..) (PySem.W.small_down h1 h2 h3 h4) ?_
 have I1:Inv X pins σ H {s with heap:=s.heap.push {cls:=.type "range",data:=.fields #[.int lo t,.int hi u,.int (-1) v]},toks:=tk}:=I.kept λb o e=>NM _ e
 refine⟨(s.heap.push {cls:=.type "range",data:=.fields #[.int lo t,.int hi u,.int (-1) v]}).objs.size,[(s.heap.push {cls:=.type "range",data:=.fields #[.int lo t,.int hi u,.int (-1) v]}).objs.size],_,_,H,rfl,
  I1.kept (t':=tk) λb o e=>NM _ e,wd _ lo (lo - hi).toNat,?_,λb hb=>?_,q⟩
 ·have e1:lo + ((0:Nat):Int) * (-1)=lo:=by simp
  have e2:(((lo - hi).toNat:Nat):Int) - ((0:Nat):Int)=Builtin.Range.rangeSize lo hi (-1):=by rw[PySem.W.rangeSize_downNat];omega
  show IsRangeIter _ _ (lo + ((0:Nat):Int) * (-1)) ((((lo - hi).toNat:Nat):Int) - ((0:Nat):Int)) (-1)
  rw[e1,e2]
  exact N3 _ rfl
 ·have e:b=(s.heap.push {cls:=.type "range",data:=.fields #[.int lo t,.int hi u,.int (-1) v]}).objs.size:=by simpa using hb
  subst e
  exact I1.fpOk (NQ _) (I1.hok.fresh (NQ _))
def Lo (ta:TA):TI:=λσ H R=>ta σ H λvs H1=>∃i j:Int,vs= [.int i,.int j,.int (-1)]/\(-(2 ^ 62)<=i/\i < 2 ^ 62/\ -(2 ^ 62)<=j/\j < 2 ^ 62)/\R (K4 i (i - j).toNat) H1
theorem Bx {a b c:Expr}{ta:TA}{p pos:Pos}(hg:Gl X "range")(hm:X.mg "range"=none)(ha:PA X [a,b,c] ta)(hs:starEach [a,b,c] X.env= [(false,eval a X.env),(false,eval b X.env),(false,eval c X.env)]:=by rfl)(hs2:starEach [b,c] X.env= [(false,eval b X.env),(false,eval c X.env)]:=by rfl) :
  PI X tg (.Call (.Name "range" p) [a,b,c] [] pos) (Lo ta):=by
 intro pins s σ H R I h
 refine Call_ (lj I hg hm boot_range (O6 (cM (ha pos pins s σ H _ I h) λus s1 ⟨vs,H1,I1,r1,q1⟩=>?_) (by rw[hs,hs2]) (by rw[hs2];rfl)))
 obtain⟨i,j,e,⟨q1,q2,q3,q4⟩,q⟩:=q1
 subst e
 cases r1 with
 |cons r rr=>
  cases rr with
  |cons r' rr=>
   cases rr with
   |cons r'' rr=>
    cases rr
    obtain⟨t,rfl⟩:=r
    obtain⟨t',rfl⟩:=r'
    obtain⟨t'',rfl⟩:=r''
    exact call_range_3 (by decide) (Bz I1 q1 q2 q3 q4 q) (.inl (PyProof.noPylong_small (by omega)))
end
def nK (lo:Int)(n:Nat):List D:=(List.range n).map λ(k:Nat)=>int (lo - k)
def oH (lo:Int)(n:Nat):(nK lo n).length=n:=by unfold nK;simp
def Aq {K:Frag}{B:Option Addr}{G H1:Hp}(lo:Int)(n:Nat):Walk K B G H1 (nK lo n) (K4 lo n):=λGc H i s1 s2 m=>by
 rw[oH]
 refine⟨λhi=>⟨hi,λx H' y=>?_⟩,λhi=>hi⟩
 obtain⟨rfl,rfl⟩:=y
 refine⟨Gc,.int (lo - i),Ext.refl s2,?_,.int _⟩
 unfold nK
 rw[NW,Pc hi];rfl
def GS (fa fb fc:VF D):VF (List D):=λvs β=>(fa vs β).bnd λx β1=>(fb vs β1).bnd λy β2=>(fc vs β2).bnd λz β3=>match x,y,z with
 | .int i,.int j,.int k=>if (vh i && vh j && k == -1)=true then .ok (nK i (i - j).toNat) β3 else .bad
 |_,_,_=>.bad
section
variable {X:Cx}{Γ:Fx}{tg:Expr}{a b c:Expr}{fa fb fc:VF D}{La Lb Lc:List Nat}{md ma mb mc:Md}{pos:Pos}{E:XK}
def KP {p:Pos}(hg:Gl X "range")(hm:X.mg "range"=none)(ha:SE X Γ E a fa La ma)(hb:SE X Γ E b fb Lb mb)(hc:SE X Γ E c fc Lc mc)(hs:starEach [a,b,c] X.env= [(false,eval a X.env),(false,eval b X.env),(false,eval c X.env)]:=by rfl)(hs2:starEach [b,c] X.env= [(false,eval b X.env),(false,eval c X.env)]:=by rfl)(hs':starEach [a,b,c] X.env=(false,eval a X.env) :: starEach [b,c] X.env:=by rfl)(hs3:starEach [b,c] X.env=(false,eval b X.env) :: starEach [c] X.env:=by rfl)(hs4:starEach [c] X.env=(false,eval c X.env) :: starEach [] X.env:=by rfl):SI X Γ E tg (.Call (.Name "range" p) [a,b,c] [] pos) (GS fa fb fc) (La ++ Lb ++ Lc) md:=by
 refine PI.post (Bx hg hm (aS ha (aS hb (aS hc bJ hs4) hs3) hs') hs hs2) λσ H Q ⟨env,G,B,β,I,o⟩=>?_
 refine two (W:=λx y H2=>pT Γ E fc Lc mc σ H2 λz H3=>∃i j:Int,[x,y,z]= [.int i,.int j,.int (-1)]/\(-(2 ^ 62)<=i/\i < 2 ^ 62/\ -(2 ^ 62)<=j/\j < 2 ^ 62)/\Q (K4 i (i - j).toNat) H3) I (o.bnd.imp λd1 β1 h=>h.bnd.imp λd2 β2 h x y G2 H2 I2 s2 m2 bx by'=>?_)
 refine⟨_,G2,B,β2,I2,?_⟩
 rw[dQ]
 refine h.bnd.imp λd3 β3 h z G3 H3 I3 s3 m3 bz=>?_
 have bz:=bz.brw I2.boxThere
 obtain⟨i,j,k,rfl,rfl,rfl⟩:∃i j k,d1=.int i/\d2=.int j/\d3=.int k:=by
  cases d1 <;> cases d2 <;> cases d3 <;> first |exact h.elim |exact⟨_,_,_,rfl,rfl,rfl⟩
 obtain rfl:=bx.int
 obtain rfl:=by'.int
 obtain rfl:=bz.int
 dsimp only at h
 by_cases hj:(vh i && vh j && k == -1)=true
 ·rw[NN hj] at h
  rw[N4,N4,beq_iff_eq] at hj
  obtain⟨⟨hi,hj⟩,rfl⟩:=hj
  exact⟨i,j,rfl,⟨(jw hi).1,(jw hi).2,(jw hj).1,(jw hj).2⟩,h _ G3 H3 (by rw[b9];exact I3) (s2.trans s3) (m2.trans m3) (Aq i _)⟩
 ·rw[NV hj] at h;exact h.elim
end
end L2
namespace L2
open PySem PyProof.Rows
section
variable {X:Cx}{K:Frag}{pins:List V}{σ:St}{H:Hp}{s:Shared}{E:XK}
def J9 (K:Frag):List V->Hp->VK->Prop:=λxs H Q=>∃(a:Addr) (ns:List Int),xs= [.ref a]/\gY K H a (ns.map V.int)/\Q (.int ns.sum) H
def D1 (hc:X.calm=true):dm X (.builtin "sum") (J9 X.K):=by
 intro pins s σ H xs us Q I r h
 obtain⟨a,ns,rfl,hq,q⟩:=h
 obtain⟨u,rfl,rx⟩:=vals1 r
 cases rx
 have hh:=I.ok.hd hc
 obtain⟨its,rv,pl,_⟩:=I.list hq
 obtain⟨xs,e,hx,hs⟩:=CZ (intsAre_of rv)
 refine sum_intListG (xs:=xs) hh (e▸pl.isList) λh' tk t' k=>⟨.int ns.sum,H,I.kept k,⟨t',?_⟩,q⟩
 have:preSum (numAt xs) xs.size=ns.sum:=by
  rw[show numAt xs=λi=>ns.getD i 0 from funext hx,preSum_getD,hs,O9 (NQ _)]
 rw[this]
def BI (d:D):Option D:=match d with
 | .list ds=>(iP ds).map λns=>.int ns.sum
 |_=>none
def J2:BS K (λx=>J9 K [x]) BI .v:=by
 intro B G H x dx d Q s hB bx e k
 unfold BI at e
 split at e
 ·rename_i ds
  cases q2:iP ds with
  |none=>rw[q2] at e;cases e
  |some ns=>
   rw[q2] at e
   cases e
   obtain⟨p,xs,rfl,hq,r⟩:=bx.list s
   rw[nR q2] at r
   have r:=r.intsB
   subst r
   exact⟨p,ns,rfl,.inl hq,k _ G H (Ext.refl s) (.int _)⟩
 ·cases e
end
end L2
namespace RM
open PySem L2
def lR (aZ ar:List D->FR):SF:=(aG (bg 1 (([] ++ []) ++ []) (f2 (f2 (cst (.int 1)) (f1 (gv 0) cc) yh) (cst (.int 1)) mq))
 (aG (gM 2 ((([] ++ []) ++ []) ++ ([] ++ [])) (f2 (f2 (bD (aa (cst (.int 0)) ag)) (gv 1) pA) (bD (aa (cst (.int 1)) ag)) iZ))
 (aG (dr (.nm 3) ((([] ++ []) ++ []) ++ []) (GS (f2 (gv 1) (cst (.int 1)) mq) (f1 (cst (.int 1)) mF) (f1 (cst (.int 1)) mF))
 (nz 2 (([0] ++ ([3] ++ [])) ++ [3]) [] (f1 (aN 1 [2,3] (.nm 0) (bG (ao aZ (aa (gv 0) (aa (gv 3) ag)))) kU (f2 (gv 1) (ao ar (aa (gv 2) (aa (gv 0) ag))) bo)) BI) (gv 3)))
 (qD 2))))
def ja (aF cK a7:List D->FR):SF:=(aG (mC ([0] ++ []) (ao aF (aa (gv 0) ag)))
 (bM (f2 (ao cK (aa (ao a7 (aa (gv 0) ag)) ag)) (cst (.int 0)) bo)))
def m8 (aZ ar:List D->FR):SF:=(aG (bg 4 ([0] ++ ([2] ++ [])) (ao aZ (aa (gv 0) (aa (gv 2) ag))))
 (aG (bg 5 [] (cst (.int 0)))
 (aG (gX ([] ++ ([] ++ ([2] ++ (([] ++ []) ++ [])))) (cI (f2 (gv 3) (f2 (gv 1) (ao ar (aa (gv 2) (aa (f2 (gv 4) (gv 5) bo) ag))) bo) Mu))
 (aG (bg 3 ([] ++ ([] ++ ([2] ++ (([] ++ []) ++ [])))) (f2 (gv 3) (f2 (gv 1) (ao ar (aa (gv 2) (aa (f2 (gv 4) (gv 5) bo) ag))) bo) mq))
 (bg 5 ([] ++ []) (f2 (gv 5) (cst (.int 1)) dh))) 1000)
 (bM (cC (aa (f2 (gv 4) (gv 5) bo) (aa (gv 3) ag)))))))
def lQ (aF a7 cK bw jG ar:List D->FR):SF:=(aG (mC ([0] ++ []) (ao aF (aa (gv 0) ag)))
 (aG (bg 2 ([0] ++ []) (ao a7 (aa (gv 0) ag)))
 (aG (bg 3 ([2] ++ []) (ao cK (aa (gv 2) ag)))
 (aG (jF ([1] ++ (([] ++ []) ++ [])) (rJ (j3 (ao bw (aa (gv 1) (aa (f2 (gv 3) (cst (.int 0)) bo) ag)))))
 (λenv β=>toS ((aa (cst (.str "this is no number of a row of the order")) ag) (vl env) β) λds _=>if ds.length<=sizeLine then .exc "NoNumber" else .bad)
 kZ)
 (aG (gM 4 [] (bD ag))
 (aG (bg 5 [] (cst (.int 0)))
 (aG (bg 6 [1] (gv 1))
 (aG (dr (.nm 7) ([] ++ []) (cY (f2 (gv 0) (cst (.int 0)) bo))
 (aG (bg 8 ([2] ++ ([3] ++ ([5] ++ ([6] ++ [])))) (ao jG (aa (gv 2) (aa (gv 3) (aa (gv 5) (aa (gv 6) ag))))))
 (aG (jA 4 ([] ++ []) (f2 (gv 8) (cst (.int 0)) bo))
 (aG (bg 5 ([5] ++ (([] ++ []) ++ [])) (ao ar (aa (gv 5) (aa (f2 (gv 8) (cst (.int 0)) bo) ag))))
 (bg 6 ([] ++ []) (f2 (gv 8) (cst (.int 1)) bo))))))
 (bM (f1 (gv 4) lq))))))))))
def gz:SF:=(aG (gM 2 [] (bD ag))
 (aG (dr (.nm 3) [] (cY (gv 0))
 (dr (.nm 4) [] (cY (gv 0))
 (aG (bg 5 ([] ++ []) (aN 1 [3,4] (.nm 0) (bG (gv 1)) (cI (f2 (mP (gv 0) (gv 1)) (mP (gv 0) (gv 2)) JS)) (cst (.int 1))))
 (jF (([] ++ []) ++ ([] ++ [])) (yd (cI (f2 (gv 3) (gv 4) (cp true))) (cI (f2 (gv 5) (bD ag) (cp false))))
 (jA 2 ([3] ++ ([4] ++ [])) (cC (aa (gv 3) (aa (gv 4) ag))))
 kZ))))
 (bM (f1 (gv 2) lq))))
def l9 (cx bW:List D->FR):SF:=(bM (eN (ao cx (aa (gv 0) (aa (f2 (gv 1) (cst (.int 0)) bo) ag))) (ao bW (aa (gv 1) (aa (f2 (gv 0) (cst (.int 0)) bo) (aa (f2 (gv 0) (cst (.int 1)) bo) ag))))))
def jr (ig:List D->FR):SF:=(bM (eN (f1 (gv 0) (jz "list")) (f1 (aN 1 [1] (.nm 0) (bG (gv 0)) kU (ao ig (aa (gv 0) (aa (gv 1) ag)))) (de λbs=>bs.all id))))
def kc:SF:=(bM (JI (f2 (f2 (gv 1) (cst (.int 0)) bo) (f2 (gv 2) (cst (.int 1)) bo) (cp false)) (f2 (cC (aa (f2 (gv 1) (cst (.int 0)) bo) (aa (f2 (gv 2) (cst (.int 1)) bo) ag))) (f2 (gv 0) (cst (.int 1)) bo) (nZ false))))
def hU (bZ b7:List D->FR):SF:=(aG (jF (([0] ++ ([1] ++ [])) ++ ([] ++ [])) (mi (rJ (j3 (ao bZ (aa (gv 0) (aa (gv 1) ag))))) (cI (f2 (f1 (gv 0) cc) (cst (.int 0)) (cp false))))
 (bM (cst (.bool false)))
 kZ)
 (bM (f1 (aN 1 [1,0] (.nm 0) (cY (f1 (gv 0) cc)) kU (ao b7 (aa (gv 1) (aa (f2 (gv 2) (f2 (gv 0) (cst (.int 1)) mq) bo) (aa (f2 (gv 2) (gv 0) bo) ag))))) (de λbs=>bs.all id))))
def lX (aF dM:List D->FR):SF:=(aG (mC ([1] ++ []) (ao aF (aa (gv 1) ag)))
 (bM (ao dM (aa (gv 0) (aa (gv 1) ag)))))
def kH (ar:List D->FR):SF:=(bM (f2 (ao ar (aa (f2 (gv 0) (gv 2) bo) (aa (gv 1) ag))) (f2 (gv 0) (gv 2) bo) (cp false)))
def jt (cf:List D->FR):SF:=(bM (ao cf (aa (gv 0) (aa (f2 (gv 1) (cst (.int 0)) bo) (aa (f2 (gv 1) (cst (.int 1)) bo) ag)))))
def kL (cf ar:List D->FR):SF:=(aG (bg 2 ([] ++ [0]) (aN 1 [1,0] (.nm 0) (cY (f1 (gv 0) cc)) (mi (cI (f2 (gv 0) (f2 (gv 1) (cst (.int 0)) bo) (cp false))) (j3 (ao cf (aa (gv 2) (aa (f2 (gv 1) (cst (.int 0)) bo) (aa (gv 0) ag)))))) (gv 0)))
 (aG (bg 3 (([] ++ ([] ++ [])) ++ (([] ++ []) ++ [])) (ao ar (aa (f2 (gv 0) (f2 (gv 1) (cst (.int 1)) bo) bo) (aa (f2 (gv 1) (cst (.int 1)) bo) ag))))
 (qi (aN 2 [2,3] (.two 0 1) (ET (gv 0)) kU (LH (cI (f2 (gv 0) (gv 2) (nZ false))) (f2 (gv 1) (gv 3) LK) (gv 1))))))
def js (b7:List D->FR):SF:=(aG (gM 3 (([2] ++ []) ++ []) (bD (aa (bD (aa (gv 2) ag)) ag)))
 (aG (bg 4 [1] (gv 1))
 (aG (bg 5 [] (cst (.int 0)))
 (aG (gX ([0] ++ ((([] ++ []) ++ []) ++ ([2] ++ []))) (rJ (j3 (ao b7 (aa (gv 0) (aa (f2 (f2 (gv 3) (gv 5) bo) (f1 (cst (.int 1)) mF) bo) (aa (gv 2) ag))))))
 (aG (bg 6 ([] ++ [0]) (aN 1 [0,3,5] (.nm 0) (bG (gv 4)) (j3 (ao b7 (aa (gv 1) (aa (f2 (f2 (gv 2) (gv 3) bo) (f1 (cst (.int 1)) mF) bo) (aa (gv 0) ag))))) (gv 0)))
 (aG (bg 4 ([] ++ []) (aN 1 [6] (.nm 0) (bG (gv 4)) (cI (f2 (gv 0) (gv 1) (nZ true))) (gv 0)))
 (aG (A5 3 ([] ++ []) (aN 1 [3,5] (.nm 0) (bG (gv 6)) kU (f2 (f2 (gv 1) (gv 2) bo) (bD (aa (gv 0) ag)) iZ)))
 (bg 5 ([] ++ []) (f2 (gv 5) (cst (.int 1)) dh))))) 1000)
 (bM (f2 (gv 3) (gv 5) bo))))))
def kG (aF bZ a7 fg eZ fU fj:List D->FR):SF:=(aG (mC ([0] ++ []) (ao aF (aa (gv 0) ag)))
 (aG (jF ([1] ++ ([0] ++ [])) (rJ (j3 (ao bZ (aa (gv 1) (aa (gv 0) ag)))))
 (λenv β=>toS ((aa (cst (.str "this is no list of turns of the order")) ag) (vl env) β) λds _=>if ds.length<=sizeLine then .exc "NoTurns" else .bad)
 kZ)
 (aG (bg 2 ([0] ++ []) (ao a7 (aa (gv 0) ag)))
 (aG (gM 3 [] (bD ag))
 (aG (dr (.nm 4) [1] (bG (gv 1))
 (aG (jF ([2] ++ ([4] ++ [])) (j3 (ao fg (aa (gv 2) (aa (gv 4) ag))))
 (bM (cC (aa (cst (.str "ring")) (aa (ao eZ (aa (gv 0) (aa (gv 3) (aa (gv 4) ag)))) ag))))
 kZ)
 (aG (bg 2 ([2] ++ ([4] ++ [])) (ao fU (aa (gv 2) (aa (gv 4) ag))))
 (jA 3 [4] (gv 4)))))
 (bM (cC (aa (cst (.str "row")) (aa (ao fj (aa (gv 2) (aa (bD ag) ag))) ag)))))))))
def nU:SF:=(bM (JI (f2 (f2 (gv 1) (cst (.int 0)) bo) (f2 (gv 2) (cst (.int 1)) bo) (cp false)) (f2 (cC (aa (f2 (gv 1) (cst (.int 0)) bo) (aa (f2 (gv 2) (cst (.int 1)) bo) ag))) (f2 (gv 0) (cst (.int 1)) bo) (nZ false))))
def fP:SF:=(bM (f2 (aN 2 [0] (.two 0 1) (bG (gv 1)) (cI (f2 (mP (gv 2) (gv 0)) (mP (gv 2) (gv 1)) zX)) (cst (.int 1))) (bD ag) (cp false)))
def yZ (fT fk lU eV iw dA bQ jT iu cS:List D->FR)(dF aU bt:List D->Int->FB):SF:=(aG (dr (.nm 1) ([] ++ ([] ++ [])) (cY (f2 (cst (.int 1)) (f2 (f1 (gv 0) cc) (cst (.int 2)) (vf λi j=>.int (if j < i then j else i))) (vf λi j=>.int (if j > i then j else i))))
 (aG (zu 2 ([0] ++ ([1] ++ [])) (vD fT (aa (gv 0) (aa (gv 1) ag))))
 (aG (bg 3 ([] ++ []) (mj 2 dF (aa (cst (.int 5)) ag)))
 (aG (jF (([] ++ []) ++ []) (cI (f2 (mj 2 aU (aa (cst (.int 3)) ag)) (cst (.int 2)) (cp false)))
 (aG (bg 4 ([] ++ []) (aN 1 [2] (.nm 0) (cY (cst (.int 2))) kU (f1 (mj 1 bt (aa (f1 (cst (.int 5)) fI) ag)) lq)))
 (bg 3 ([] ++ (([] ++ ([4] ++ [])) ++ [])) (cC (aa (cst (.int 5)) (aa (ao fk (aa (cst (.int 5)) (aa (gv 4) ag))) ag)))))
 kZ)
 (aG (bg 5 ([3] ++ []) (ao lU (aa (gv 3) ag)))
 (aG (bg 6 (([3] ++ []) ++ [3]) (aN 1 [3] (.nm 0) (cY (ao eV (aa (gv 3) ag))) kU (ao iw (aa (gv 1) (aa (gv 0) ag)))))
 (aG (gM 7 [] (bD ag))
 (aG (dr (.nm 8) (([] ++ []) ++ ([] ++ [])) (cY (f2 (mj 2 aU (aa (cst (.int 9)) ag)) (f1 (f2 (gv 5) (bD ag) (cp true)) Ga) dS))
 (jA 7 ([] ++ ([] ++ [])) (f2 (gv 5) (mj 2 aU (aa (f1 (gv 5) cc) ag)) bo)))
 (aG (zD (.two 9 10) ([3] ++ ([7] ++ [])) (ao dA (aa (gv 3) (aa (gv 7) ag))))
 (aG (bg 11 ([] ++ [7]) (aN 1 [7] (.nm 0) (bG (gv 6)) (j3 (ao bQ (aa (gv 0) (aa (gv 1) ag)))) (gv 0)))
 (aG (jF ((([] ++ []) ++ ([] ++ [])) ++ (([] ++ []) ++ (([] ++ []) ++ ([10] ++ ([3] ++ []))))) (mi (cI (f2 (f2 (gv 9) (cst (.str "row")) (cp false)) (f2 (gv 11) (bD ag) (cp true)) (cp true))) (yd (cI (f2 (gv 9) (cst (.str "row")) (cp false))) (mi (cI (f2 (gv 10) (gv 11) (nZ true))) (rJ (j3 (ao jT (aa (gv 10) (aa (gv 3) ag))))))))
 (bM (cst (.bool false)))
 kZ)
 (aG (jF ([] ++ []) (cI (f2 (gv 9) (cst (.str "ring")) (cp false)))
 (aG (jF ((([10] ++ ([3] ++ [])) ++ []) ++ (([] ++ []) ++ [])) (mi (cI (f2 (ao iu (aa (gv 10) (aa (gv 3) ag))) (cst (.bool true)) Hq)) (cI (f2 (aN 1 [7] (.nm 0) (bG (gv 10)) (cI (f2 (gv 0) (gv 1) (nZ true))) (gv 0)) (bD ag) (cp true))))
 (bM (cst (.bool false)))
 kZ)
 (jF (([] ++ [10]) ++ []) (cI (f2 (aN 1 [10] (.nm 0) (bG (gv 6)) (j3 (ao bQ (aa (gv 0) (aa (gv 1) ag)))) (gv 0)) (bD ag) (cp true)))
 (bM (cst (.bool false)))
 kZ))
 kZ)
 (aG (jF (([] ++ []) ++ ((([3] ++ ((([] ++ []) ++ []) ++ [])) ++ []) ++ [])) (yd (cI (f2 (gv 9) (cst (.str "row")) (cp false))) (cI (f2 (f2 (ao dA (aa (gv 3) (aa (FY (gv 7) (Fm (cst (.int 1))) (λ_ β=>.ok none β)) ag))) (cst (.int 0)) bo) (cst (.str "row")) (cp true))))
 (bM (cst (.bool false)))
 kZ)
 (dr (.nm 12) (([] ++ []) ++ []) (bG (FY (gv 5) (λ_ β=>.ok none β) (Fm (cst (.int 6)))))
 (aG (bg 13 ([] ++ ([] ++ [])) (f2 (gv 5) (mj 2 aU (aa (f1 (gv 5) cc) ag)) bo))
 (aG (bg 14 (([3] ++ ([12] ++ ([13] ++ []))) ++ ([3] ++ ([13] ++ ([12] ++ [])))) (eN (ao cS (aa (gv 3) (aa (gv 12) (aa (gv 13) ag)))) (ao cS (aa (gv 3) (aa (gv 13) (aa (gv 12) ag))))))
 (jF (((([3] ++ (([12] ++ ([13] ++ [])) ++ [])) ++ []) ++ []) ++ []) (cI (f2 (f2 (f2 (ao dA (aa (gv 3) (aa (bD (aa (gv 12) (aa (gv 13) ag))) ag))) (cst (.int 0)) bo) (cst (.str "ring")) (cp false)) (gv 14) (cp true)))
 (bM (cst (.bool false)))
 kZ)))))))))))))))))
 (bM (cst (.bool true))))
end RM
namespace RQ
open PySem L2 RM
def top (i:Nat):Stmt:=PySem.Challenge.pw_rowsorder_k27_whole_together_or_a_ring.main.body.getD i (.Pass ⟨0,0,0,0⟩)
section
variable {P:Program}{w:World}{K:Frag}{mg:Str->Option Value}{base:Heap}{ca:Str->Addr}
abbrev ke:Stmt:=top 2
def vX:aK ["thing"] ["thing"] (ay ke):=⟨rfl,rfl,rfl,by decide +kernel,rfl,by decide +kernel,by decide +kernel⟩
def tR {f:Addr}{fd:FuncData}(F:iA K mg "is_whole" ke ["thing"] f fd)(B:iQ mg):bR P w K mg base ca "is_whole" ["thing"] 1 (ba 1 1 (qP)):=
 ⟨⟨f,fd,F.mg,F.F.kp,F.b,aQ (N:=["thing"]) (k:=0) F.F vX λcdv A outer s H G E hr=>
  (aE (aY (iS (mW "int" (by decide) rfl rfl B.isinstance rfl B.int (by decide +kernel) (af 0)) (gW (CY (mW "bool" (by decide) rfl rfl B.isinstance rfl B.bool (by decide +kernel) (af 0)))) (λ_ _=>rfl))))⟩,λds h=>aM ds h⟩
abbrev ki:Stmt:=top 3
def xf:aK ["thing","bound"] ["thing","bound"] (ay ki):=⟨rfl,rfl,rfl,by decide +kernel,rfl,by decide +kernel,by decide +kernel⟩
def uK {f:Addr}{fd:FuncData}{cn:List D->FR}(F:iA K mg "is_below" ki ["thing","bound"] f fd)(B:iQ mg)(gf:bR P w K mg base ca "is_whole" ["thing"] 1 cn):bR P w K mg base ca "is_below" ["thing","bound"] 2 (ba 2 2 (qG cn)):=
 ⟨⟨f,fd,F.mg,F.F.kp,F.b,aQ (N:=["thing","bound"]) (k:=1) F.F xf λcdv A outer s H G E hr=>
  (aE (aY (iS (aA gf (hr.mono (by decide)) aO rfl rfl (ae (aq 0 rfl) ah)) (gW (v8 C4 vV HX Cp av (af 0) (af 1))) (λ_ _=>rfl))))⟩,λds h=>aM ds h⟩
abbrev lN:Stmt:=top 4
def yp:aK ["thing"] ["thing"] (ay lN):=⟨rfl,rfl,rfl,by decide +kernel,rfl,by decide +kernel,by decide +kernel⟩
def vm {f:Addr}{fd:FuncData}{cn:List D->FR}(F:iA K mg "is_many" lN ["thing"] f fd)(B:iQ mg)(gf:bR P w K mg base ca "is_whole" ["thing"] 1 cn){rF:Tok}(jv:mg "MOST_THINGS"=some (.int 8 rF)):bR P w K mg base ca "is_many" ["thing"] 2 (ba 1 1 (sD cn)):=
 ⟨⟨f,fd,F.mg,F.F.kp,F.b,aQ (N:=["thing"]) (k:=1) F.F yp λcdv A outer s H G E hr=>
  (aE (aY (iS (aA gf (hr.mono (by decide)) aO rfl rfl (ae (aq 0 rfl) ah)) (gW (v8 C4 C4 HX HX av (af 0) (Gw (by rfl) jv))) (λ_ _=>rfl))))⟩,λds h=>aM ds h⟩
abbrev lV:Stmt:=top 5
def yK:aK ["thing","many"] ["thing","many"] (ay lV):=⟨rfl,rfl,rfl,by decide +kernel,rfl,by decide +kernel,by decide +kernel⟩
def oR {f:Addr}{fd:FuncData}{bw:List D->FR}(F:iA K mg "is_pair" lV ["thing","many"] f fd)(B:iQ mg)(cg:bR P w K mg base ca "is_below" ["thing","bound"] 2 bw):bR P w K mg base ca "is_pair" ["thing","many"] 3 (ba 2 2 (jN bw)):=
 ⟨⟨f,fd,F.mg,F.F.kp,F.b,aQ (N:=["thing","many"]) (k:=2) F.F yK λcdv A outer s H G E hr=>
  (ak (du (rE.t (nY (fR (cV rfl (mW "tuple" (by decide) rfl rfl B.isinstance rfl B.tuple (by decide +kernel) (af 0)))) (kC (bA (eJ hr.units) dv (bq bY gP rfl B.len OG (af 0)) av (bc _))) (λ_ _=>rfl)))
  (aE (aY jo))
  cm)
  (aE (aY (iS (aA cg (hr.mono (by decide)) aO rfl rfl (ae (aR aJ bB (af 0) av (λ_ _=>rfl)) (ae (aq 1 rfl) ah))) (gW (aA cg (hr.mono (by decide)) aO rfl rfl (ae (aR aJ bB (af 0) av (λ_ _=>rfl)) (ae (aq 1 rfl) ah)))) (λ_ _=>rfl)))))⟩,λds h=>aM ds h⟩
abbrev lL:Stmt:=top 6
def yy:aK ["thing","many"] ["thing","many"] (ay lL):=⟨rfl,rfl,rfl,by decide +kernel,rfl,by decide +kernel,by decide +kernel⟩
def xh {f:Addr}{fd:FuncData}{bw:List D->FR}(F:iA K mg "is_line" lL ["thing","many"] f fd)(B:iQ mg)(cg:bR P w K mg base ca "is_below" ["thing","bound"] 2 bw):bR P w K mg base ca "is_line" ["thing","many"] 3 (ba 2 2 (l8 bw)):=
 ⟨⟨f,fd,F.mg,F.F.kp,F.b,aQ (N:=["thing","many"]) (k:=2) F.F yy λcdv A outer s H G E hr=>
  (ak (du (rE.t (nY (fR (cV rfl (mW "tuple" (by decide) rfl rfl B.isinstance rfl B.tuple (by decide +kernel) (af 0)))) (kC (bA (eJ hr.units) dv (bq bY gP rfl B.len OG (af 0)) (af 1) (bc _))) (λ_ _=>rfl)))
  (aE (aY jo))
  cm)
  (aE (aY (iS (bq (lJ rfl) me rfl B.all (by decide +kernel) (cz (NB:=["one","many"]) (own:=1) (ixs:=[1]) [1] rfl (cj (by kernel_rfl)) (λ_ _=>rfl) (lg rfl (af 0)) (λH0 G0 par br bx C ex s3 H3 pn=>(cH (i:=0) (show (["one","many"]:List Str).Nodup by decide +kernel))) (λH0 G0 par br bx C ex s3 H3 pn hB1=>eB) (λH0 G0 par br bx C ex s3 H3 pn hB1=>(aA cg (hr.mono (by decide)) kQ rfl rfl (ae (aq 0 (hB1 0 (by decide))) (ae (aq 1 (hB1 1 (by decide))) ah)))))) (gW (dB (cL hr.units) dv (A1 rfl rfl rfl B.len rfl B.set (af 0)) (af 1) (bc _))) (λ_ _=>rfl)))))⟩,λds h=>aM ds h⟩
abbrev fA:Stmt:=top 7
def rC:aK ["many"] ["many"] (ay fA):=⟨rfl,rfl,rfl,by decide +kernel,rfl,by decide +kernel,by decide +kernel⟩
def ql {f:Addr}{fd:FuncData}(F:iA K mg "every_pair" fA ["many"] f fd)(B:iQ mg):bR P w K mg base ca "every_pair" ["many"] 1 (ba 1 1 (ie)):=
 ⟨⟨f,fd,F.mg,F.F.kp,F.b,aQ (N:=["many"]) (k:=0) F.F rC λcdv A outer s H G E hr=>
  (aE (nD (cz (NB:=["number","many"]) (own:=1) (ixs:=[0]) [] rfl (cj (by kernel_rfl)) (λ_ _=>rfl) (kO rfl B.range (bI kK lA (af 0) (af 0))) (λH0 G0 par br bx C ex s3 H3 pn=>(cH (i:=0) (show (["number","many"]:List Str).Nodup by decide +kernel))) (λH0 G0 par br bx C ex s3 H3 pn hB1=>eB) (λH0 G0 par br bx C ex s3 H3 pn hB1=>(fC (ae (bI nh GB (af 0) (af 1)) (ae (bI mX tq (af 0) (af 1)) ah)))))))⟩,λds h=>aM ds h⟩
abbrev kr:Stmt:=top 16
def w9:aK ["pairs"] ["pairs"] (ay kr):=⟨rfl,rfl,rfl,by decide +kernel,rfl,by decide +kernel,by decide +kernel⟩
def uY {f:Addr}{fd:FuncData}(F:iA K mg "has_ring" kr ["pairs"] f fd)(B:iQ mg):bR P w K mg base ca "has_ring" ["pairs"] 1 (ba 1 1 (qr)):=
 ⟨⟨f,fd,F.mg,F.F.kp,F.b,aQ (N:=["pairs"]) (k:=0) F.F w9 λcdv A outer s H G E hr=>
  (aE (aY (bq (Dh rfl) me rfl B.any (by decide +kernel) (cz (NB:=["a","b"]) (own:=2) (ixs:=[]) [] rfl (cj (by kernel_rfl)) (λ_ _=>rfl) (lg rfl (af 0)) (λH0 G0 par br bx C ex s3 H3 pn=>(iV (i:=0) (j:=1) (show (["a","b"]:List Str).Nodup by decide +kernel))) (λH0 G0 par br bx C ex s3 H3 pn hB1=>eB) (λH0 G0 par br bx C ex s3 H3 pn hB1=>(dB (cL hr.units) dv (af 0) (af 1) (bc _)))))))⟩,λds h=>aM ds h⟩
abbrev j5:Stmt:=top 14
def lB:aK ["thing","many","pairs"] ["thing"] (ay j5):=⟨rfl,rfl,rfl,by decide +kernel,rfl,by decide +kernel,by decide +kernel⟩
def vc {f:Addr}{fd:FuncData}{iq cx jJ fY:List D->FR}(F:iA K mg "is_order" j5 ["thing"] f fd)(B:iQ mg)(n5:bR P w K mg base ca "is_many" ["thing"] 2 iq)(jS:bR P w K mg base ca "is_pair" ["thing","many"] 3 cx)(pW:bR P w K mg base ca "closed" ["many","pairs"] 3 jJ)(mH:bR P w K mg base ca "has_ring" ["pairs"] 1 fY):bR P w K mg base ca "is_order" ["thing"] 4 (ba 3 1 (iJ iq cx jJ fY)):=
 ⟨⟨f,fd,F.mg,F.F.kp,F.b,aQ (N:=["thing","many","pairs"]) (k:=3) F.F lB λcdv A outer s H G E hr=>
  (ak (du (rE.t (nY (fR (cV rfl (mW "tuple" (by decide) rfl rfl B.isinstance rfl B.tuple (by decide +kernel) (af 0)))) (kC (bA (eJ hr.units) dv (bq bY gP rfl B.len OG (af 0)) av (bc _))) (λ_ _=>rfl)))
  (aE (aY jo))
  cm)
  (ak (aX (i:=1) (aR aJ bB (af 0) av (λ_ _=>rfl)) lB.nd)
  (ak (aX (i:=2) (aR aJ bB (af 0) av (λ_ _=>rfl)) lB.nd)
  (ak (du (rE.t (nY (fR (cV rfl (aA n5 (hr.mono (by decide)) aO rfl rfl (ae (aq 1 rfl) ah)))) (kC (fR (cV rfl (mW "tuple" (by decide) rfl rfl B.isinstance rfl B.tuple (by decide +kernel) (af 2))))) (λ_ _=>rfl)))
  (aE (aY jo))
  cm)
  (ak (du (fR (cV rfl (bq (lJ rfl) me rfl B.all (by decide +kernel) (cz (NB:=["pair","many"]) (own:=1) (ixs:=[1]) [1] rfl (cj (by kernel_rfl)) (λ_ _=>rfl) (lg rfl (af 2)) (λH0 G0 par br bx C ex s3 H3 pn=>(cH (i:=0) (show (["pair","many"]:List Str).Nodup by decide +kernel))) (λH0 G0 par br bx C ex s3 H3 pn hB1=>eB) (λH0 G0 par br bx C ex s3 H3 pn hB1=>(aA jS (hr.mono (by decide)) kQ rfl rfl (ae (aq 0 (hB1 0 (by decide))) (ae (aq 1 (hB1 1 (by decide))) ah))))))))
  (aE (aY jo))
  cm)
  (aE (aY (iS (dB (cL hr.units) dv (af 2) (aA pW (hr.mono (by decide)) aO rfl rfl (ae (aq 1 rfl) (ae (aq 2 rfl) ah))) (bc _)) (gW (CY (aA mH (hr.mono (by decide)) aO rfl rfl (ae (aq 2 rfl) ah)))) (λ_ _=>rfl)))))))))⟩,λds h=>aM ds h⟩
abbrev hJ:Stmt:=top 17
def rW:aK ["thing"] ["thing"] (ay hJ):=⟨rfl,rfl,rfl,by decide +kernel,rfl,by decide +kernel,by decide +kernel⟩
def qe {f:Addr}{fd:FuncData}{fM:List D->FR}(F:iA K mg "need_order" hJ ["thing"] f fd)(B:iQ mg)(mT:bR P w K mg base ca "is_order" ["thing"] 4 fM)(jW:Exc K mg ca "NoOrder"):bR P w K mg base ca "need_order" ["thing"] 5 (ba 1 1 (hV fM)):=
 ⟨⟨f,fd,F.mg,F.F.kp,F.b,aQ (N:=["thing"]) (k:=4) F.F rW λcdv A outer s H G E hr=>
  (aE (du (fR (cV rfl (aA mT (hr.mono (by decide)) aO rfl rfl (ae (aq 0 rfl) ah))))
  (aE (pU jW.ex jW.ca rfl jW.mg (ae iI ah)))
  cm))⟩,λds h=>aM ds h⟩
abbrev jn:Stmt:=top 18
def uE:aK ["order","a","b"] ["order","a","b"] (ay jn):=⟨rfl,rfl,rfl,by decide +kernel,rfl,by decide +kernel,by decide +kernel⟩
def rS {f:Addr}{fd:FuncData}(F:iA K mg "are_apart" jn ["order","a","b"] f fd)(B:iQ mg):bR P w K mg base ca "are_apart" ["order","a","b"] 1 (ba 3 3 (oV)):=
 ⟨⟨f,fd,F.mg,F.F.kp,F.b,aQ (N:=["order","a","b"]) (k:=0) F.F uE λcdv A outer s H G E hr=>
  (aE (aY (iS (dB (eJ hr.units) dv (af 1) (af 2) (bc _)) (iS (dB (iB hr.u1) tM (fC (ae (aq 1 rfl) (ae (aq 2 rfl) ah))) (aR aJ bB (af 0) av (λ_ _=>rfl)) (by with_unfolding_all rfl)) (gW (dB (iB hr.u1) tM (fC (ae (aq 2 rfl) (ae (aq 1 rfl) ah))) (aR aJ bB (af 0) av (λ_ _=>rfl)) (by with_unfolding_all rfl))) (λ_ _=>rfl)) (λ_ _=>rfl))))⟩,λds h=>aM ds h⟩
abbrev nv:Stmt:=top 22
def n6:aK ["row","found","place","thing"] ["row"] (ay nv):=⟨rfl,rfl,rfl,by decide +kernel,rfl,by decide +kernel,by decide +kernel⟩
def xt {f:Addr}{fd:FuncData}(F:iA K mg "places" nv ["row"] f fd)(B:iQ mg):bR P w K mg base ca "places" ["row"] 1 (ba 4 1 (nk)):=
 ⟨⟨f,fd,F.mg,F.F.kp,F.b,aQ (N:=["row","found","place","thing"]) (k:=0) F.F n6 λcdv A outer s H G E hr=>
  (ak (dJ (i:=1) (yC (bK (ae av ah)) (bq bY gP rfl B.len OG (af 0))) n6.nd)
  (ak (eH PassesOwn.leaving rfl (CD rfl rfl B.enumerate (af 0)) (iV (i:=2) (j:=3) n6.nd)
  (aE (tX 1 (λ_=>rfl) (aq 2 rfl) (af 3))))
  (aE (nc 1))))⟩,λds h=>aM ds h⟩
abbrev gj:Stmt:=top 21
def k8:aK ["thing","order","place"] ["thing","order"] (ay gj):=⟨rfl,rfl,rfl,by decide +kernel,rfl,by decide +kernel,by decide +kernel⟩
def o8 {f:Addr}{fd:FuncData}{ij jH:List D->FR}(F:iA K mg "keeps_order" gj ["thing","order"] f fd)(B:iQ mg)(oh:bR P w K mg base ca "is_line" ["thing","many"] 3 ij)(qO:bR P w K mg base ca "places" ["row"] 1 jH):bR P w K mg base ca "keeps_order" ["thing","order"] 4 (ba 3 2 (gu ij jH)):=
 ⟨⟨f,fd,F.mg,F.F.kp,F.b,aQ (N:=["thing","order","place"]) (k:=3) F.F k8 λcdv A outer s H G E hr=>
  (ak (du (fR (cV rfl (aA oh (hr.mono (by decide)) aO rfl rfl (ae (aq 0 rfl) (ae (aR aJ bB (af 1) av (λ_ _=>rfl)) ah)))))
  (aE (aY jo))
  cm)
  (ak (aX (i:=2) (aA qO (hr.mono (by decide)) aO rfl rfl (ae (aq 0 rfl) ah)) k8.nd)
  (aE (aY (bq (lJ rfl) me rfl B.all (by decide +kernel) (cz (NB:=["a","b","place"]) (own:=2) (ixs:=[2]) [] rfl (cj (by kernel_rfl)) (λ_ _=>rfl) (lg rfl (aR aJ bB (af 1) av (λ_ _=>rfl))) (λH0 G0 par br bx C ex s3 H3 pn=>(iV (i:=0) (j:=1) (show (["a","b","place"]:List Str).Nodup by decide +kernel))) (λH0 G0 par br bx C ex s3 H3 pn hB1=>eB) (λH0 G0 par br bx C ex s3 H3 pn hB1=>(dB vV Cp (aR aJ bB (af 2) (af 0) (λ_ _=>rfl)) (aR aJ bB (af 2) (af 1) (λ_ _=>rfl)) (bc _)))))))))⟩,λds h=>aM ds h⟩
abbrev ny:Stmt:=top 20
def AW:aK ["thing","order"] ["thing","order"] (ay ny):=⟨rfl,rfl,rfl,by decide +kernel,rfl,by decide +kernel,by decide +kernel⟩
def yE {f:Addr}{fd:FuncData}{aF c8:List D->FR}(F:iA K mg "is_row" ny ["thing","order"] f fd)(B:iQ mg)(aW:bR P w K mg base ca "need_order" ["thing"] 5 aF)(jB:bR P w K mg base ca "keeps_order" ["thing","order"] 4 c8):bR P w K mg base ca "is_row" ["thing","order"] 6 (ba 2 2 (p0 aF c8)):=
 ⟨⟨f,fd,F.mg,F.F.kp,F.b,aQ (N:=["thing","order"]) (k:=5) F.F AW λcdv A outer s H G E hr=>
  (ak (l6 (aA aW (hr.mono (by decide)) aO rfl rfl (ae (aq 1 rfl) ah)))
  (aE (aY (aA jB (hr.mono (by decide)) aO rfl rfl (ae (aq 0 rfl) (ae (aq 1 rfl) ah))))))⟩,λds h=>aM ds h⟩
abbrev g8:Stmt:=top 26
def rB:aK ["placed","thing"] ["placed","thing"] (ay g8):=⟨rfl,rfl,rfl,by decide +kernel,rfl,by decide +kernel,by decide +kernel⟩
def qj {f:Addr}{fd:FuncData}(F:iA K mg "with_thing" g8 ["placed","thing"] f fd)(B:iQ mg):bR P w K mg base ca "with_thing" ["placed","thing"] 1 (ba 2 2 (hW)):=
 ⟨⟨f,fd,F.mg,F.F.kp,F.b,aQ (N:=["placed","thing"]) (k:=0) F.F rB λcdv A outer s H G E hr=>
  (aE (aY (bI Ha Kk (af 0) (bI Dg GX av (af 1)))))⟩,λds h=>aM ds h⟩
abbrev gn:Stmt:=top 28
def iF:aK ["masks","placed","free","thing","mask"] ["masks","placed"] (ay gn):=⟨rfl,rfl,rfl,by decide +kernel,rfl,by decide +kernel,by decide +kernel⟩
def pf {f:Addr}{fd:FuncData}{ar:List D->FR}(F:iA K mg "free_things" gn ["masks","placed"] f fd)(B:iQ mg)(aL:bR P w K mg base ca "with_thing" ["placed","thing"] 1 ar):bR P w K mg base ca "free_things" ["masks","placed"] 2 (ba 5 2 (gy ar)):=
 ⟨⟨f,fd,F.mg,F.F.kp,F.b,aQ (N:=["masks","placed","free","thing","mask"]) (k:=1) F.F iF λcdv A outer s H G E hr=>
  (ak (dJ (i:=2) (bK ah) iF.nd)
  (ak (eH PassesOwn.leaving rfl (vt rfl rfl B.enumerate (aq 0 rfl)) (iV (i:=3) (j:=4) iF.nd)
  (aE (du (rE.t (uz (bA (eJ hr.units) dv (aA aL (hr.mono (by decide)) aO rfl rfl (ae (aq 1 rfl) (ae (aq 3 rfl) ah))) (af 1) (bc _)) (pE (bA (cL hr.units) dv (bI Hw KU (af 1) (af 4)) (af 4) (bc _))) (λ_ _=>rfl)))
  (aE (fL 2 (λ_=>rfl) (aq 3 rfl)))
  cm)))
  (aE (nc 2))))⟩,λds h=>aM ds h⟩
abbrev lT:Stmt:=top 30
def kx:aK ["masks","full","ways","placed"] ["masks"] (ay lT):=⟨rfl,rfl,rfl,by decide +kernel,rfl,by decide +kernel,by decide +kernel⟩
def vB {f:Addr}{fd:FuncData}{aZ ar:List D->FR}(F:iA K mg "ways_on" lT ["masks"] f fd)(B:iQ mg)(bV:bR P w K mg base ca "free_things" ["masks","placed"] 2 aZ)(aL:bR P w K mg base ca "with_thing" ["placed","thing"] 1 ar):bR P w K mg base ca "ways_on" ["masks"] 3 (ba 4 1 (lR aZ ar)):=
 ⟨⟨f,fd,F.mg,F.F.kp,F.b,aQ (N:=["masks","full","ways","placed"]) (k:=2) F.F kx λcdv A outer s H G E hr=>
  (ak (aX (i:=1) (bI uJ zC (bI Dg GX av (bq bY gP rfl B.len OG (af 0))) av) kx.nd)
  (ak (dJ (i:=2) (bI nI vR (yC (bK (ae av ah)) (af 1)) (bK (ae av ah))) kx.nd)
  (ak (eH PassesOwn.leaving rfl (KP rfl B.range (bI uJ zC (af 1) av) (sx oE sv av) (sx oE sv av)) (cH (i:=3) kx.nd)
  (aE (tX 2 (λ_=>rfl) (bq (D1 rfl) J2 rfl B.sum (by decide +kernel) (cz (NB:=["thing","ways","placed"]) (own:=1) (ixs:=[2,3]) [3] rfl (cj (by kernel_rfl)) (λ_ _=>rfl) (lg rfl (aA bV (hr.mono (by decide)) aO rfl rfl (ae (aq 0 rfl) (ae (aq 3 rfl) ah)))) (λH0 G0 par br bx C ex s3 H3 pn=>(cH (i:=0) (show (["thing","ways","placed"]:List Str).Nodup by decide +kernel))) (λH0 G0 par br bx C ex s3 H3 pn hB1=>eB) (λH0 G0 par br bx C ex s3 H3 pn hB1=>(aR aJ bB (af 1) (aA aL (hr.mono (by decide)) kQ rfl rfl (ae (aq 2 (hB1 2 (by decide))) (ae (aq 0 (hB1 0 (by decide))) ah))) (λ_ _=>rfl))))) (af 3))))
  (aE (nc 2)))))⟩,λds h=>aM ds h⟩
abbrev gA:Stmt:=top 27
def iH:aK ["order","masks","a","b"] ["order"] (ay gA):=⟨rfl,rfl,rfl,by decide +kernel,rfl,by decide +kernel,by decide +kernel⟩
def pe {f:Addr}{fd:FuncData}{ar:List D->FR}(F:iA K mg "masks_ahead" gA ["order"] f fd)(B:iQ mg)(aL:bR P w K mg base ca "with_thing" ["placed","thing"] 1 ar):bR P w K mg base ca "masks_ahead" ["order"] 2 (ba 4 1 (gr ar)):=
 ⟨⟨f,fd,F.mg,F.F.kp,F.b,aQ (N:=["order","masks","a","b"]) (k:=1) F.F iH λcdv A outer s H G E hr=>
  (ak (dJ (i:=1) (yC (bK (ae av ah)) (aR aJ bB (af 0) av (λ_ _=>rfl))) iH.nd)
  (ak (eH PassesOwn.leaving rfl (EF rfl (aR aJ bB (af 0) av (λ_ _=>rfl))) (iV (i:=2) (j:=3) iH.nd)
  (aE (tX 1 (λ_=>rfl) (aA aL (hr.mono (by decide)) aO rfl rfl (ae (aR aJ bB (af 1) (af 3) (λ_ _=>rfl)) (ae (aq 2 rfl) ah))) (af 3))))
  (aE (nc 1))))⟩,λds h=>aM ds h⟩
abbrev jb:Stmt:=top 23
def uV:aK ["order"] ["order"] (ay jb):=⟨rfl,rfl,rfl,by decide +kernel,rfl,by decide +kernel,by decide +kernel⟩
def rM {f:Addr}{fd:FuncData}{aF cK a7:List D->FR}(F:iA K mg "rows_many" jb ["order"] f fd)(B:iQ mg)(aW:bR P w K mg base ca "need_order" ["thing"] 5 aF)(iz:bR P w K mg base ca "ways_on" ["masks"] 3 cK)(bS:bR P w K mg base ca "masks_ahead" ["order"] 2 a7):bR P w K mg base ca "rows_many" ["order"] 6 (ba 1 1 (ja aF cK a7)):=
 ⟨⟨f,fd,F.mg,F.F.kp,F.b,aQ (N:=["order"]) (k:=5) F.F uV λcdv A outer s H G E hr=>
  (ak (l6 (aA aW (hr.mono (by decide)) aO rfl rfl (ae (aq 0 rfl) ah)))
  (aE (aY (aR aJ bB (aA iz (hr.mono (by decide)) aO rfl rfl (ae (aA bS (hr.mono (by decide)) aO rfl rfl (ae (aq 0 rfl) ah)) ah)) av (λ_ _=>rfl)))))⟩,λds h=>aM ds h⟩
abbrev nG:Stmt:=top 25
def jQ:aK ["masks","ways","placed","left","free","at"] ["masks","ways","placed","left"] (ay nG):=⟨rfl,rfl,rfl,by decide +kernel,rfl,by decide +kernel,by decide +kernel⟩
def xy {f:Addr}{fd:FuncData}{aZ ar:List D->FR}(F:iA K mg "choose" nG ["masks","ways","placed","left"] f fd)(B:iQ mg)(bV:bR P w K mg base ca "free_things" ["masks","placed"] 2 aZ)(aL:bR P w K mg base ca "with_thing" ["placed","thing"] 1 ar):bR P w K mg base ca "choose" ["masks","ways","placed","left"] 3 (ba 6 4 (m8 aZ ar)):=
 ⟨⟨f,fd,F.mg,F.F.kp,F.b,aQ (N:=["masks","ways","placed","left","free","at"]) (k:=2) F.F jQ λcdv A outer s H G E hr=>
  (ak (aX (i:=4) (aA bV (hr.mono (by decide)) aO rfl rfl (ae (aq 0 rfl) (ae (aq 2 rfl) ah))) jQ.nd)
  (ak (aX (i:=5) av jQ.nd)
  (ak (k7 1000 PassesOwn.leaving (bA KW Mm (af 3) (aR aJ bB (af 1) (aA aL (hr.mono (by decide)) aO rfl rfl (ae (aq 2 rfl) (ae (aR aJ bB (af 4) (af 5) (λ_ _=>rfl)) ah))) (λ_ _=>rfl)) (bc _))
  (ak (aX (i:=3) (bI uJ zC (af 3) (aR aJ bB (af 1) (aA aL (hr.mono (by decide)) aO rfl rfl (ae (aq 2 rfl) (ae (aR aJ bB (af 4) (af 5) (λ_ _=>rfl)) ah))) (λ_ _=>rfl))) jQ.nd)
  (aE (aX (i:=5) (bI j4 kl (af 5) av) jQ.nd))))
  (aE (aY (fC (ae (aR aJ bB (af 4) (af 5) (λ_ _=>rfl)) (ae (aq 3 rfl) ah))))))))⟩,λds h=>aM ds h⟩
abbrev lY:Stmt:=top 24
def cB:aK ["order","number","masks","ways","row","placed","left","step","choice"] ["order","number"] (ay lY):=⟨rfl,rfl,rfl,by decide +kernel,rfl,by decide +kernel,by decide +kernel⟩
def wV {f:Addr}{fd:FuncData}{aF a7 cK bw jG ar:List D->FR}(F:iA K mg "nth_row" lY ["order","number"] f fd)(B:iQ mg)(aW:bR P w K mg base ca "need_order" ["thing"] 5 aF)(bS:bR P w K mg base ca "masks_ahead" ["order"] 2 a7)(iz:bR P w K mg base ca "ways_on" ["masks"] 3 cK)(cg:bR P w K mg base ca "is_below" ["thing","bound"] 2 bw)(pV:bR P w K mg base ca "choose" ["masks","ways","placed","left"] 3 jG)(aL:bR P w K mg base ca "with_thing" ["placed","thing"] 1 ar)(iG:Exc K mg ca "NoNumber"):bR P w K mg base ca "nth_row" ["order","number"] 6 (ba 9 2 (lQ aF a7 cK bw jG ar)):=
 ⟨⟨f,fd,F.mg,F.F.kp,F.b,aQ (N:=["order","number","masks","ways","row","placed","left","step","choice"]) (k:=5) F.F cB λcdv A outer s H G E hr=>
  (ak (l6 (aA aW (hr.mono (by decide)) aO rfl rfl (ae (aq 0 rfl) ah)))
  (ak (aX (i:=2) (aA bS (hr.mono (by decide)) aO rfl rfl (ae (aq 0 rfl) ah)) cB.nd)
  (ak (aX (i:=3) (aA iz (hr.mono (by decide)) aO rfl rfl (ae (aq 2 rfl) ah)) cB.nd)
  (ak (du (fR (cV rfl (aA cg (hr.mono (by decide)) aO rfl rfl (ae (aq 1 rfl) (ae (aR aJ bB (af 3) av (λ_ _=>rfl)) ah)))))
  (aE (pU iG.ex iG.ca rfl iG.mg (ae iI ah)))
  cm)
  (ak (dJ (i:=4) (bK ah) cB.nd)
  (ak (aX (i:=5) av cB.nd)
  (ak (aX (i:=6) (aq 1 rfl) cB.nd)
  (ak (eH PassesOwn.leaving rfl (kO rfl B.range (aR aJ bB (af 0) av (λ_ _=>rfl))) (cH (i:=7) cB.nd)
  (ak (aX (i:=8) (aA pV (hr.mono (by decide)) aO rfl rfl (ae (aq 2 rfl) (ae (aq 3 rfl) (ae (aq 5 rfl) (ae (aq 6 rfl) ah))))) cB.nd)
  (ak (fL 4 (λ_=>rfl) (aR aJ bB (af 8) av (λ_ _=>rfl)))
  (ak (aX (i:=5) (aA aL (hr.mono (by decide)) aO rfl rfl (ae (aq 5 rfl) (ae (aR aJ bB (af 8) av (λ_ _=>rfl)) ah))) cB.nd)
  (aE (aX (i:=6) (aR aJ bB (af 8) av (λ_ _=>rfl)) cB.nd))))))
  (aE (aY (iR c9 ng rfl B.tuple (by decide +kernel) (af 4))))))))))))⟩,λds h=>aM ds h⟩
abbrev je:Stmt:=top 29
def dG:aK ["masks","late","row","placed","free","early"] ["masks","late"] (ay je):=⟨rfl,rfl,rfl,by decide +kernel,rfl,by decide +kernel,by decide +kernel⟩
def rk {f:Addr}{fd:FuncData}{aZ ar:List D->FR}(F:iA K mg "row_along" je ["masks","late"] f fd)(B:iQ mg)(bV:bR P w K mg base ca "free_things" ["masks","placed"] 2 aZ)(aL:bR P w K mg base ca "with_thing" ["placed","thing"] 1 ar):bR P w K mg base ca "row_along" ["masks","late"] 3 (ba 6 2 (i3 aZ ar)):=
 ⟨⟨f,fd,F.mg,F.F.kp,F.b,aQ (N:=["masks","late","row","placed","free","early"]) (k:=2) F.F dG λcdv A outer s H G E hr=>
  (ak (dJ (i:=2) (bK ah) dG.nd)
  (ak (aX (i:=3) av dG.nd)
  (ak (k7 1000 PassesOwn.leaving (bA vV Cp (bq bY gP rfl B.len OG (af 2)) (bq bY gP rfl B.len OG (af 0)) (bc _))
  (ak (aX (i:=4) (aA bV (hr.mono (by decide)) aO rfl rfl (ae (aq 0 rfl) (ae (aq 3 rfl) ah))) dG.nd)
  (ak (lZ (i:=5) (NB:=["thing","late"]) (own:=1) (ixs:=[1]) [] rfl (cj (by kernel_rfl)) (λ_ _=>rfl) (lg rfl (af 4)) (λH0 G0 par br bx C ex s3 H3 pn=>(cH (i:=0) (show (["thing","late"]:List Str).Nodup by decide +kernel))) (λH0 G0 par br bx C ex s3 H3 pn hB1=>(fH (bA (iB hr.u1) tM (af 0) (af 1) (by with_unfolding_all rfl)))) (λH0 G0 par br bx C ex s3 H3 pn hB1=>(aq 0 (hB1 0 (by decide)))) dG.nd)
  (ak (fL 2 (λ_=>rfl) (aR aJ bB (bI nI vR (af 5) (af 4)) av (λ_ _=>rfl)))
  (aE (aX (i:=3) (aA aL (hr.mono (by decide)) aO rfl rfl (ae (aq 3 rfl) (ae (aR aJ bB (af 2) (sx oE sv av) (λ_ _=>rfl)) ah))) dG.nd))))))
  (aE (aY (iR c9 ng rfl B.tuple (by decide +kernel) (af 2)))))))⟩,λds h=>aM ds h⟩
abbrev pG:Stmt:=top 32
def Ei:aK ["order"] ["order"] (ay pG):=⟨rfl,rfl,rfl,by decide +kernel,rfl,by decide +kernel,by decide +kernel⟩
def AO {f:Addr}{fd:FuncData}{aF cU bW:List D->FR}(F:iA K mg "turns" pG ["order"] f fd)(B:iQ mg)(aW:bR P w K mg base ca "need_order" ["thing"] 5 aF)(kg:bR P w K mg base ca "every_pair" ["many"] 1 cU)(eY:bR P w K mg base ca "are_apart" ["order","a","b"] 1 bW):bR P w K mg base ca "turns" ["order"] 6 (ba 1 1 (pP aF cU bW)):=
 ⟨⟨f,fd,F.mg,F.F.kp,F.b,aQ (N:=["order"]) (k:=5) F.F Ei λcdv A outer s H G E hr=>
  (ak (l6 (aA aW (hr.mono (by decide)) aO rfl rfl (ae (aq 0 rfl) ah)))
  (aE (nD (cz (NB:=["a","b","order"]) (own:=2) (ixs:=[0]) [0] rfl (cj (by kernel_rfl)) (λ_ _=>rfl) (lg rfl (aA kg (hr.mono (by decide)) aO rfl rfl (ae (aR aJ bB (af 0) av (λ_ _=>rfl)) ah))) (λH0 G0 par br bx C ex s3 H3 pn=>(iV (i:=0) (j:=1) (show (["a","b","order"]:List Str).Nodup by decide +kernel))) (λH0 G0 par br bx C ex s3 H3 pn hB1=>(fH (cV rfl (aA eY (hr.mono (by decide)) kQ rfl rfl (ae (aq 2 (hB1 2 (by decide))) (ae (aq 0 (hB1 0 (by decide))) (ae (aq 1 (hB1 1 (by decide))) ah))))))) (λH0 G0 par br bx C ex s3 H3 pn hB1=>(fC (ae (aq 0 (hB1 0 (by decide))) (ae (aq 1 (hB1 1 (by decide))) ah))))))))⟩,λds h=>aM ds h⟩
abbrev lO:Stmt:=top 33
def yD:aK ["thing","order"] ["thing","order"] (ay lO):=⟨rfl,rfl,rfl,by decide +kernel,rfl,by decide +kernel,by decide +kernel⟩
def vM {f:Addr}{fd:FuncData}{cx bW:List D->FR}(F:iA K mg "is_turn" lO ["thing","order"] f fd)(B:iQ mg)(jS:bR P w K mg base ca "is_pair" ["thing","many"] 3 cx)(eY:bR P w K mg base ca "are_apart" ["order","a","b"] 1 bW):bR P w K mg base ca "is_turn" ["thing","order"] 4 (ba 2 2 (l9 cx bW)):=
 ⟨⟨f,fd,F.mg,F.F.kp,F.b,aQ (N:=["thing","order"]) (k:=3) F.F yD λcdv A outer s H G E hr=>
  (aE (aY (iS (aA jS (hr.mono (by decide)) aO rfl rfl (ae (aq 0 rfl) (ae (aR aJ bB (af 1) av (λ_ _=>rfl)) ah))) (gW (aA eY (hr.mono (by decide)) aO rfl rfl (ae (aq 1 rfl) (ae (aR aJ bB (af 0) av (λ_ _=>rfl)) (ae (aR aJ bB (af 0) av (λ_ _=>rfl)) ah))))) (λ_ _=>rfl))))⟩,λds h=>aM ds h⟩
abbrev jc:Stmt:=top 34
def uh:aK ["thing","order"] ["thing","order"] (ay jc):=⟨rfl,rfl,rfl,by decide +kernel,rfl,by decide +kernel,by decide +kernel⟩
def rZ {f:Addr}{fd:FuncData}{ig:List D->FR}(F:iA K mg "are_turns" jc ["thing","order"] f fd)(B:iQ mg)(oG:bR P w K mg base ca "is_turn" ["thing","order"] 4 ig):bR P w K mg base ca "are_turns" ["thing","order"] 5 (ba 2 2 (jr ig)):=
 ⟨⟨f,fd,F.mg,F.F.kp,F.b,aQ (N:=["thing","order"]) (k:=4) F.F uh λcdv A outer s H G E hr=>
  (aE (aY (iS (mW "list" (by decide) rfl rfl B.isinstance rfl B.list (by decide +kernel) (af 0)) (gW (bq (lJ rfl) me rfl B.all (by decide +kernel) (cz (NB:=["turn","order"]) (own:=1) (ixs:=[1]) [1] rfl (cj (by kernel_rfl)) (λ_ _=>rfl) (lg rfl (af 0)) (λH0 G0 par br bx C ex s3 H3 pn=>(cH (i:=0) (show (["turn","order"]:List Str).Nodup by decide +kernel))) (λH0 G0 par br bx C ex s3 H3 pn hB1=>eB) (λH0 G0 par br bx C ex s3 H3 pn hB1=>(aA oG (hr.mono (by decide)) kQ rfl rfl (ae (aq 0 (hB1 0 (by decide))) (ae (aq 1 (hB1 1 (by decide))) ah))))))) (λ_ _=>rfl))))⟩,λds h=>aM ds h⟩
abbrev kN:Stmt:=top 35
def vS:aK ["order","turn","other"] ["order","turn","other"] (ay kN):=⟨rfl,rfl,rfl,by decide +kernel,rfl,by decide +kernel,by decide +kernel⟩
def uZ {f:Addr}{fd:FuncData}(F:iA K mg "leads_on" kN ["order","turn","other"] f fd)(B:iQ mg):bR P w K mg base ca "leads_on" ["order","turn","other"] 1 (ba 3 3 (kc)):=
 ⟨⟨f,fd,F.mg,F.F.kp,F.b,aQ (N:=["order","turn","other"]) (k:=0) F.F vS λcdv A outer s H G E hr=>
  (aE (aY (GZ (dB (cL hr.units) dv (aR aJ bB (af 1) av (λ_ _=>rfl)) (aR aJ bB (af 2) av (λ_ _=>rfl)) (bc _)) (gW (dB (x9 hr.u1) tM (fC (ae (aR aJ bB (af 1) av (λ_ _=>rfl)) (ae (aR aJ bB (af 2) av (λ_ _=>rfl)) ah))) (aR aJ bB (af 0) av (λ_ _=>rfl)) (by with_unfolding_all rfl))) (λ_ _=>rfl))))⟩,λds h=>aM ds h⟩
abbrev hX:Stmt:=top 37
def se:aK ["thing","order"] ["thing","order"] (ay hX):=⟨rfl,rfl,rfl,by decide +kernel,rfl,by decide +kernel,by decide +kernel⟩
def qW {f:Addr}{fd:FuncData}{bZ b7:List D->FR}(F:iA K mg "goes_round" hX ["thing","order"] f fd)(B:iQ mg)(eS:bR P w K mg base ca "are_turns" ["thing","order"] 5 bZ)(eG:bR P w K mg base ca "leads_on" ["order","turn","other"] 1 b7):bR P w K mg base ca "goes_round" ["thing","order"] 6 (ba 2 2 (hU bZ b7)):=
 ⟨⟨f,fd,F.mg,F.F.kp,F.b,aQ (N:=["thing","order"]) (k:=5) F.F se λcdv A outer s H G E hr=>
  (ak (du (rE.t (nY (fR (cV rfl (aA eS (hr.mono (by decide)) aO rfl rfl (ae (aq 0 rfl) (ae (aq 1 rfl) ah))))) (kC (bA (cL hr.units) dv (bq bY gP rfl B.len OG (af 0)) av (bc _))) (λ_ _=>rfl)))
  (aE (aY jo))
  cm)
  (aE (aY (bq (lJ rfl) me rfl B.all (by decide +kernel) (cz (NB:=["at","order","thing"]) (own:=1) (ixs:=[1,0]) [1] rfl (cj (by kernel_rfl)) (λ_ _=>rfl) (kO rfl B.range (bq bY gP rfl B.len OG (af 0))) (λH0 G0 par br bx C ex s3 H3 pn=>(cH (i:=0) (show (["at","order","thing"]:List Str).Nodup by decide +kernel))) (λH0 G0 par br bx C ex s3 H3 pn hB1=>eB) (λH0 G0 par br bx C ex s3 H3 pn hB1=>(aA eG (hr.mono (by decide)) kQ rfl rfl (ae (aq 1 (hB1 1 (by decide))) (ae (aR aJ bB (af 2) (bI uJ zC (af 0) av) (λ_ _=>rfl)) (ae (aR aJ bB (af 2) (af 0) (λ_ _=>rfl)) ah))))))))))⟩,λds h=>aM ds h⟩
abbrev lM:Stmt:=top 36
def ya:aK ["thing","order"] ["thing","order"] (ay lM):=⟨rfl,rfl,rfl,by decide +kernel,rfl,by decide +kernel,by decide +kernel⟩
def vJ {f:Addr}{fd:FuncData}{aF dM:List D->FR}(F:iA K mg "is_ring" lM ["thing","order"] f fd)(B:iQ mg)(aW:bR P w K mg base ca "need_order" ["thing"] 5 aF)(kf:bR P w K mg base ca "goes_round" ["thing","order"] 6 dM):bR P w K mg base ca "is_ring" ["thing","order"] 7 (ba 2 2 (lX aF dM)):=
 ⟨⟨f,fd,F.mg,F.F.kp,F.b,aQ (N:=["thing","order"]) (k:=6) F.F ya λcdv A outer s H G E hr=>
  (ak (l6 (aA aW (hr.mono (by decide)) aO rfl rfl (ae (aq 1 rfl) ah)))
  (aE (aY (aA kf (hr.mono (by decide)) aO rfl rfl (ae (aq 0 rfl) (ae (aq 1 rfl) ah))))))⟩,λds h=>aM ds h⟩
abbrev kh:Stmt:=top 39
def we:aK ["masks","a","b"] ["masks","a","b"] (ay kh):=⟨rfl,rfl,rfl,by decide +kernel,rfl,by decide +kernel,by decide +kernel⟩
def uP {f:Addr}{fd:FuncData}{ar:List D->FR}(F:iA K mg "is_ahead" kh ["masks","a","b"] f fd)(B:iQ mg)(aL:bR P w K mg base ca "with_thing" ["placed","thing"] 1 ar):bR P w K mg base ca "is_ahead" ["masks","a","b"] 2 (ba 3 3 (kH ar)):=
 ⟨⟨f,fd,F.mg,F.F.kp,F.b,aQ (N:=["masks","a","b"]) (k:=1) F.F we λcdv A outer s H G E hr=>
  (aE (aY (dB (cL hr.units) dv (aA aL (hr.mono (by decide)) aO rfl rfl (ae (aR aJ bB (af 0) (af 2) (λ_ _=>rfl)) (ae (aq 1 rfl) ah))) (aR aJ bB (af 0) (af 2) (λ_ _=>rfl)) (bc _))))⟩,λds h=>aM ds h⟩
abbrev i4:Stmt:=top 40
def uH:aK ["masks","turn"] ["masks","turn"] (ay i4):=⟨rfl,rfl,rfl,by decide +kernel,rfl,by decide +kernel,by decide +kernel⟩
def rO {f:Addr}{fd:FuncData}{cf:List D->FR}(F:iA K mg "is_barred" i4 ["masks","turn"] f fd)(B:iQ mg)(fO:bR P w K mg base ca "is_ahead" ["masks","a","b"] 2 cf):bR P w K mg base ca "is_barred" ["masks","turn"] 3 (ba 2 2 (jt cf)):=
 ⟨⟨f,fd,F.mg,F.F.kp,F.b,aQ (N:=["masks","turn"]) (k:=2) F.F uH λcdv A outer s H G E hr=>
  (aE (aY (aA fO (hr.mono (by decide)) aO rfl rfl (ae (aq 0 rfl) (ae (aR aJ bB (af 1) av (λ_ _=>rfl)) (ae (aR aJ bB (af 1) av (λ_ _=>rfl)) ah))))))⟩,λds h=>aM ds h⟩
abbrev j8:Stmt:=top 41
def lE:aK ["masks","turn","late","more"] ["masks","turn"] (ay j8):=⟨rfl,rfl,rfl,by decide +kernel,rfl,by decide +kernel,by decide +kernel⟩
def uR {f:Addr}{fd:FuncData}{cf ar:List D->FR}(F:iA K mg "put_turn" j8 ["masks","turn"] f fd)(B:iQ mg)(fO:bR P w K mg base ca "is_ahead" ["masks","a","b"] 2 cf)(aL:bR P w K mg base ca "with_thing" ["placed","thing"] 1 ar):bR P w K mg base ca "put_turn" ["masks","turn"] 3 (ba 4 2 (kL cf ar)):=
 ⟨⟨f,fd,F.mg,F.F.kp,F.b,aQ (N:=["masks","turn","late","more"]) (k:=2) F.F lE λcdv A outer s H G E hr=>
  (ak (aX (i:=2) (SE.wv (cz (NB:=["thing","turn","masks"]) (own:=1) (ixs:=[1,0]) [0] rfl (cj (by kernel_rfl)) (λ_ _=>rfl) (kO rfl B.range (bq bY gP rfl B.len OG (af 0))) (λH0 G0 par br bx C ex s3 H3 pn=>(cH (i:=0) (show (["thing","turn","masks"]:List Str).Nodup by decide +kernel))) (λH0 G0 par br bx C ex s3 H3 pn hB1=>(fH (rE.t (nY (bA (cL hr.units) dv (af 0) (aR aJ bB (af 1) av (λ_ _=>rfl)) (bc _)) (kC (cV rfl (aA fO (hr.mono (by decide)) kQ rfl rfl (ae (aq 2 (hB1 2 (by decide))) (ae (aR aJ bB (af 1) av (λ_ _=>rfl)) (ae (aq 0 (hB1 0 (by decide))) ah)))))) (λi hi=>hB1 i (by revert i hi;decide)))))) (λH0 G0 par br bx C ex s3 H3 pn hB1=>(aq 0 (hB1 0 (by decide)))))) lE.nd)
  (ak (aX (i:=3) (aA aL (hr.mono (by decide)) aO rfl rfl (ae (aR aJ bB (af 0) (aR aJ bB (af 1) av (λ_ _=>rfl)) (λ_ _=>rfl)) (ae (aR aJ bB (af 1) av (λ_ _=>rfl)) ah))) lE.nd)
  (aE (nD (cz (NB:=["thing","mask","late","more"]) (own:=2) (ixs:=[2,3]) [] rfl (cj (by kernel_rfl)) (λ_ _=>rfl) (SI.vb (vt rfl rfl B.enumerate (aq 0 rfl))) (λH0 G0 par br bx C ex s3 H3 pn=>(iV (i:=0) (j:=1) (show (["thing","mask","late","more"]:List Str).Nodup by decide +kernel))) (λH0 G0 par br bx C ex s3 H3 pn hB2=>eB) (λH0 G0 par br bx C ex s3 H3 pn hB2=>(Lm (bA (x9 hr.u1) tM (af 0) (af 2) (by with_unfolding_all rfl)) (bI Ha Kk (af 1) (af 3)) (aq 1 (hB2 1 (by decide))) (λi hi=>hB2 i (by revert i hi;decide)))))))))⟩,λds h=>aM ds h⟩
abbrev ji:Stmt:=top 42
def cQ:aK ["order","put","turn","paths","left","at","fresh"] ["order","put","turn"] (ay ji):=⟨rfl,rfl,rfl,by decide +kernel,rfl,by decide +kernel,by decide +kernel⟩
def rT {f:Addr}{fd:FuncData}{b7:List D->FR}(F:iA K mg "ring_with" ji ["order","put","turn"] f fd)(B:iQ mg)(eG:bR P w K mg base ca "leads_on" ["order","turn","other"] 1 b7):bR P w K mg base ca "ring_with" ["order","put","turn"] 2 (ba 7 3 (js b7)):=
 ⟨⟨f,fd,F.mg,F.F.kp,F.b,aQ (N:=["order","put","turn","paths","left","at","fresh"]) (k:=1) F.F cQ λcdv A outer s H G E hr=>
  (ak (dJ (i:=3) (bK (ae (SE.wv (bK (ae (aq 2 rfl) ah))) ah)) cQ.nd)
  (ak (aX (i:=4) (aq 1 rfl) cQ.nd)
  (ak (aX (i:=5) av cQ.nd)
  (ak (k7 1000 PassesOwn.leaving (fR (cV rfl (aA eG (hr.mono (by decide)) aO rfl rfl (ae (aq 0 rfl) (ae (aR aJ bB (aR aJ bB (af 3) (af 5) (λ_ _=>rfl)) (sx oE sv av) (λ_ _=>rfl)) (ae (aq 2 rfl) ah))))))
  (ak (aX (i:=6) (SE.wv (cz (NB:=["other","order","paths","at"]) (own:=1) (ixs:=[0,3,5]) [0] rfl (cj (by kernel_rfl)) (λ_ _=>rfl) (lg rfl (af 4)) (λH0 G0 par br bx C ex s3 H3 pn=>(cH (i:=0) (show (["other","order","paths","at"]:List Str).Nodup by decide +kernel))) (λH0 G0 par br bx C ex s3 H3 pn hB1=>(fH (cV rfl (aA eG (hr.mono (by decide)) kQ rfl rfl (ae (aq 1 (hB1 1 (by decide))) (ae (aR aJ bB (aR aJ bB (af 2) (af 3) (λ_ _=>rfl)) (sx oE sv av) (λ_ _=>rfl)) (ae (aq 0 (hB1 0 (by decide))) ah))))))) (λH0 G0 par br bx C ex s3 H3 pn hB1=>(aq 0 (hB1 0 (by decide)))))) cQ.nd)
  (ak (lZ (i:=4) (NB:=["other","fresh"]) (own:=1) (ixs:=[6]) [] rfl (cj (by kernel_rfl)) (λ_ _=>rfl) (lg rfl (af 4)) (λH0 G0 par br bx C ex s3 H3 pn=>(cH (i:=0) (show (["other","fresh"]:List Str).Nodup by decide +kernel))) (λH0 G0 par br bx C ex s3 H3 pn hB2=>(fH (bA (iB hr.u1) tM (af 0) (af 1) (by with_unfolding_all rfl)))) (λH0 G0 par br bx C ex s3 H3 pn hB2=>(aq 0 (hB2 0 (by decide)))) cQ.nd)
  (ak (AU 3 (λ_=>rfl) (cz (NB:=["other","paths","at"]) (own:=1) (ixs:=[3,5]) [] rfl (cj (by kernel_rfl)) (λ_ _=>rfl) (lg rfl (af 6)) (λH0 G0 par br bx C ex s3 H3 pn=>(cH (i:=0) (show (["other","paths","at"]:List Str).Nodup by decide +kernel))) (λH0 G0 par br bx C ex s3 H3 pn hB3=>eB) (λH0 G0 par br bx C ex s3 H3 pn hB3=>(SE.wv (bI nI vR (aR aJ bB (af 1) (af 2) (λ_ _=>rfl)) (bK (ae (aq 0 (hB3 0 (by decide))) ah)))))))
  (aE (aX (i:=5) (bI j4 kl (af 5) av) cQ.nd))))))
  (aE (aY (aR aJ bB (af 3) (af 5) (λ_ _=>rfl))))))))⟩,λds h=>aM ds h⟩
abbrev kj:Stmt:=top 38
def gK:aK ["order","some","masks","put","turn"] ["order","some"] (ay kj):=⟨rfl,rfl,rfl,by decide +kernel,rfl,by decide +kernel,by decide +kernel⟩
def tZ {f:Addr}{fd:FuncData}{aF bZ a7 fg eZ fU fj:List D->FR}(F:iA K mg "together" kj ["order","some"] f fd)(B:iQ mg)(aW:bR P w K mg base ca "need_order" ["thing"] 5 aF)(eS:bR P w K mg base ca "are_turns" ["thing","order"] 5 bZ)(bS:bR P w K mg base ca "masks_ahead" ["order"] 2 a7)(lC:bR P w K mg base ca "is_barred" ["masks","turn"] 3 fg)(ly:bR P w K mg base ca "ring_with" ["order","put","turn"] 2 eZ)(mL:bR P w K mg base ca "put_turn" ["masks","turn"] 3 fU)(lr:bR P w K mg base ca "row_along" ["masks","late"] 3 fj)(jM:Exc K mg ca "NoTurns"):bR P w K mg base ca "together" ["order","some"] 6 (ba 5 2 (kG aF bZ a7 fg eZ fU fj)):=
 ⟨⟨f,fd,F.mg,F.F.kp,F.b,aQ (N:=["order","some","masks","put","turn"]) (k:=5) F.F gK λcdv A outer s H G E hr=>
  (ak (l6 (aA aW (hr.mono (by decide)) aO rfl rfl (ae (aq 0 rfl) ah)))
  (ak (du (fR (cV rfl (aA eS (hr.mono (by decide)) aO rfl rfl (ae (aq 1 rfl) (ae (aq 0 rfl) ah)))))
  (aE (pU jM.ex jM.ca rfl jM.mg (ae iI ah)))
  cm)
  (ak (aX (i:=2) (aA bS (hr.mono (by decide)) aO rfl rfl (ae (aq 0 rfl) ah)) gK.nd)
  (ak (dJ (i:=3) (bK ah) gK.nd)
  (ak (eH PassesOwn.leaving rfl (EF rfl (aq 1 rfl)) (cH (i:=4) gK.nd)
  (ak (du (cV rfl (aA lC (hr.mono (by decide)) aO rfl rfl (ae (aq 2 rfl) (ae (aq 4 rfl) ah))))
  (aE (aY (fC (ae iI (ae (aA ly (hr.mono (by decide)) aO rfl rfl (ae (aq 0 rfl) (ae (aq 3 rfl) (ae (aq 4 rfl) ah)))) ah)))))
  cm)
  (ak (aX (i:=2) (aA mL (hr.mono (by decide)) aO rfl rfl (ae (aq 2 rfl) (ae (aq 4 rfl) ah))) gK.nd)
  (aE (fL 3 (λ_=>rfl) (aq 4 rfl))))))
  (aE (aY (fC (ae iI (ae (aA lr (hr.mono (by decide)) aO rfl rfl (ae (aq 2 rfl) (ae (SE.wv (bK ah)) ah))) ah))))))))))⟩,λds h=>aM ds h⟩
abbrev jm:Stmt:=top 44
def vd:aK ["script","k"] ["script","k"] (ay jm):=⟨rfl,rfl,rfl,by decide +kernel,rfl,by decide +kernel,by decide +kernel⟩
def rq {f:Addr}{fd:FuncData}(F:iA K mg "_law_cell" jm ["script","k"] f fd)(B:iQ mg):bR P w K mg base ca "_law_cell" ["script","k"] 1 (ba 2 2 (gJ)):=
 ⟨⟨f,fd,F.mg,F.F.kp,F.b,aQ (N:=["script","k"]) (k:=0) F.F vd λcdv A outer s H G E hr=>
  (ak (du (bA vV Cp (af 1) (bq bY gP rfl B.len OG (af 0)) (bc _))
  (aE (aY (aR aJ bB (af 0) (af 1) (λ_ _=>rfl))))
  cm)
  (aE (aY av)))⟩,λds h=>aM ds h⟩
abbrev fW:Stmt:=top 45
def jf:aK ["cell","k","some","stir"] ["cell","k"] (ay fW):=⟨rfl,rfl,rfl,by decide +kernel,rfl,by decide +kernel,by decide +kernel⟩
def uL:∃(es:List Expr) (p1 p2 p3:Pos),df fW=.Assign [.Name "some" p1] (.List es p2) p3 :: (df fW).drop 1/\constsOf es=some [48271,69621,16807,39373,30269,40014,40692,50021,61687,71993,83869,95561,30307]:=⟨_,_,_,_,rfl,by kernel_rfl⟩
def uB {f:Addr}{fd:FuncData}(F:iA K mg "_law_mix" fW ["cell","k"] f fd)(B:iQ mg):bR P w K mg base ca "_law_mix" ["cell","k"] 1 (ba 4 2 (kB)):=by
 obtain⟨es,p1,p2,p3,hb,hes⟩:=uL
 refine⟨⟨f,fd,F.mg,F.F.kp,F.b,aQ (N:=["cell","k","some","stir"]) (k:=0) F.F jf λcdv A outer s H G E hr=>?_⟩,λds h=>aM ds h⟩
 rw[hb]
 exact (ak (aX (i:=2) (SE.wv (bK (sH hes))) jf.nd) (ak (aX (i:=3) (bI j4 kl (bI j4 kl (bI kK lA (bI j4 kl (bI mX tq (af 0) av) av) (aR aJ bB (af 2) (bI mX tq (af 1) av) (λ_ _=>rfl))) (bI kK lA av (af 1))) (bI kK lA av (bI nh GB (af 1) av))) jf.nd)
  (ak (aX (i:=3) (bI mX tq (af 3) av) jf.nd)
  (aE (aY (bI nh GB (bI mX tq (bI j4 kl (bI kK lA (af 3) (af 3)) (bI kK lA av (af 1))) av) av))))))
abbrev j6:Stmt:=top 46
def gH:aK ["script","k","cell","number","j"] ["script","k"] (ay j6):=⟨rfl,rfl,rfl,by decide +kernel,rfl,by decide +kernel,by decide +kernel⟩
def uf {f:Addr}{fd:FuncData}{fm gi:List D->FR}(F:iA K mg "_law_box" j6 ["script","k"] f fd)(B:iQ mg)(lK:bR P w K mg base ca "_law_cell" ["script","k"] 1 fm)(mM:bR P w K mg base ca "_law_mix" ["cell","k"] 1 gi):bR P w K mg base ca "_law_box" ["script","k"] 2 (ba 5 2 (kJ fm gi)):=
 ⟨⟨f,fd,F.mg,F.F.kp,F.b,aQ (N:=["script","k","cell","number","j"]) (k:=1) F.F gH λcdv A outer s H G E hr=>
  (ak (aX (i:=2) (aA lK (hr.mono (by decide)) aO rfl rfl (ae (aq 0 rfl) (ae (aq 1 rfl) ah))) gH.nd)
  (ak (du (bA (cL hr.units) dv (bI mX tq (af 2) av) av (bc _))
  (aE (nD (bK (ae (bI nh GB (bq Ej Ko rfl B.abs (by decide +kernel) (af 2)) av) ah))))
  cm)
  (ak (aX (i:=3) av gH.nd)
  (ak (eH PassesOwn.leaving rfl (kO rfl B.range av) (cH (i:=4) gH.nd)
  (aE (aX (i:=3) (bI j4 kl (bI kK lA (af 3) av) (aA mM (hr.mono (by decide)) aO rfl rfl (ae (aq 2 rfl) (ae (aq 4 rfl) ah)))) gH.nd)))
  (aE (nD (bK (ae (aq 3 rfl) ah))))))))⟩,λds h=>aM ds h⟩
abbrev jh:Stmt:=top 47
def nQ:aK ["box","many","left","digit"] ["box","many"] (ay jh):=⟨rfl,rfl,rfl,by decide +kernel,rfl,by decide +kernel,by decide +kernel⟩
def rG {f:Addr}{fd:FuncData}(F:iA K mg "_law_take" jh ["box","many"] f fd)(B:iQ mg):sg P w K mg base "_law_take" ["box","many"] 1 dq:=by
 refine⟨⟨f,fd,F.mg,F.F.kp,F.b,?_⟩,λds β h=>?_⟩
 ·refine F.F.vh nQ (λvs H Q E h=>?_) (λcdv A outer s H vs Q E hr h=>?_)
  ·obtain⟨b,rest,G,ds,β,rfl,hb,gb,sG,hl,r,_⟩:=h
   rw[N5,r.len,hl];rfl
  ·obtain⟨b,rest,G,ds,β,rfl,hb,gb,sG,hl,r,h⟩:=h
   obtain⟨m,rfl,h0,h1⟩:=zJ (λz=>by rw[z] at h;exact h)
   rw[u5 h0 h1] at h
   have kk:∀v G' H',iY (some b) H H'->H' b=some (.lst [.int (β / m)])->aC G G'->aC G' H'->(∀c,Mx H c->G c=none->G' c=none)->FV K H G' H' false (.int (β % m)) v->Q v H':=h
   cases r with
   |cons r1 r2=>
    cases r1
    cases r2
    refine⟨_,iE (n9 (jI vp rfl B.divmod (by decide +kernel) (aS (mr hZ (pv 0) x6 (λ_ _=>rfl)) (aS (pv 1) bJ))) (FJ (i:=2) (j:=3) nQ.nd rfl rfl rfl rfl rfl))
     (iE (n9 (pv 2) (u7 (pv 0) x6 set_list)) (jg (oC (pv 3)))),?_⟩
    refine⟨_,rfl,b,_,0,.int β,rfl,rfl,.inl (.inl hb),rfl,_,rfl,β,m,rfl,⟨h0,h1⟩,λp hp=>⟨p,_,rfl,.inl (.inl aI),rfl,_,_,rfl,_,_,rfl,rfl,?_⟩⟩
    have hbp:b≠p:=aP hb hp
    exact⟨_,rfl,_,rfl,b,[.int β],0,0,rfl,rfl,by rw[aH hbp];exact hb,rfl,_,rfl,DN hb sG hp kk gb⟩
 ·obtain⟨m,rfl,_⟩:=zJ h
  rfl
abbrev dY:Stmt:=top 48
def fN:aK ["box","some","left","found"] ["box","some"] (ay dY):=⟨rfl,rfl,rfl,by decide +kernel,rfl,by decide +kernel,by decide +kernel⟩
def m9 {f:Addr}{fd:FuncData}{aU:List D->Int->FB}(F:iA K mg "_law_mixed_up" dY ["box","some"] f fd)(B:iQ mg)(bC:sg P w K mg base "_law_take" ["box","many"] 1 aU):sg P w K mg base "_law_mixed_up" ["box","some"] 2 (wZ 4 1 (dZ aU)):=
 ⟨⟨f,fd,F.mg,F.F.kp,F.b,wj (ca:=λ_=>0) (N:=["box","some","left","found"]) (k:=1) F.F fN (by decide) λcdv A outer s H G b E hr=>
  (ak (dJ (i:=2) (iR ux IU rfl B.list (by decide +kernel) (af 1)) fN.nd)
  (ak (dJ (i:=3) (bK ah) fN.nd)
  (ak (k7 1000 PassesOwn.leaving (bA (eJ hr.units) dv (af 2) (bK ah) (bc _))
  (aE (Bg 3 2 (λ_=>rfl) (la 0 bC (hr.mono (by decide)) aO rfl rfl (ae (bq bY gP rfl B.len OG (af 2)) ah)))))
  (aE (nc 3)))))⟩,λds β h=>vP ds β h⟩
abbrev gk:Stmt:=top 49
def bX:aK ["pairs","found","size","more","a","b"] ["pairs"] (ay gk):=⟨rfl,rfl,rfl,by decide +kernel,rfl,by decide +kernel,by decide +kernel⟩
def o9 {f:Addr}{fd:FuncData}(F:iA K mg "_law_closed" gk ["pairs"] f fd)(B:iQ mg):bR P w K mg base ca "_law_closed" ["pairs"] 1 (ba 6 1 (gq)):=
 ⟨⟨f,fd,F.mg,F.F.kp,F.b,aQ (N:=["pairs","found","size","more","a","b"]) (k:=0) F.F bX λcdv A outer s H G E hr=>
  (ak (aX (i:=1) (SE.wv (qN rfl hr.units rfl rfl B.sorted rfl B.set (af 0))) bX.nd)
  (ak (aX (i:=2) (sx oE sv av) bX.nd)
  (ak (k7 1000 PassesOwn.leaving (bA (eJ hr.units) dv (af 2) (bq bY gP rfl B.len OG (af 1)) (bc _))
  (ak (aX (i:=2) (bq bY gP rfl B.len OG (af 1)) bX.nd)
  (ak (aX (i:=3) (SE.wv (bK ah)) bX.nd)
  (ak (eH PassesOwn.leaving rfl (EF rfl (aq 1 rfl)) (iV (i:=4) (j:=5) bX.nd)
  (aE (aX (i:=3) (SE.wv (bI nI vR (af 3) (cz (NB:=["c","d","b","a"]) (own:=2) (ixs:=[5,4]) [4] rfl (cj (by kernel_rfl)) (λ_ _=>rfl) (lg rfl (af 1)) (λH0 G0 par br bx C ex s3 H3 pn=>(iV (i:=0) (j:=1) (show (["c","d","b","a"]:List Str).Nodup by decide +kernel))) (λH0 G0 par br bx C ex s3 H3 pn hB1=>(fH (bA (cL hr.units) dv (af 0) (af 2) (bc _)))) (λH0 G0 par br bx C ex s3 H3 pn hB1=>(fC (ae (aq 3 (hB1 3 (by decide))) (ae (aq 1 (hB1 1 (by decide))) ah))))))) bX.nd)))
  (aE (aX (i:=1) (SE.wv (qN rfl hr.units rfl rfl B.sorted rfl B.set (bI nI vR (af 1) (af 3)))) bX.nd))))))
  (aE (aY (iR c9 ng rfl B.tuple (by decide +kernel) (af 1)))))))⟩,λds h=>aM ds h⟩
abbrev g9:Stmt:=top 50
def cG:aK ["box","most","many","names","thin","pairs","i","j"] ["box","most"] (ay g9):=⟨rfl,rfl,rfl,by decide +kernel,rfl,by decide +kernel,by decide +kernel⟩
def qt {f:Addr}{fd:FuncData}{c7:List D->FR}{aU bt:List D->Int->FB}(F:iA K mg "_law_order" g9 ["box","most"] f fd)(B:iQ mg)(ju:bR P w K mg base ca "_law_closed" ["pairs"] 1 c7)(bC:sg P w K mg base "_law_take" ["box","many"] 1 aU)(cv:sg P w K mg base "_law_mixed_up" ["box","some"] 2 bt):sg P w K mg base "_law_order" ["box","most"] 3 (wZ 8 1 (g7 c7 aU bt)):=
 ⟨⟨f,fd,F.mg,F.F.kp,F.b,wj (ca:=ca) (N:=["box","most","many","names","thin","pairs","i","j"]) (k:=2) F.F cG (by decide) λcdv A outer s H G b E hr=>
  (ak (aX (i:=2) (bI j4 kl av (la 0 bC (hr.mono (by decide)) aO rfl rfl (ae (aq 1 rfl) ah))) cG.nd)
  (ak (aX (i:=3) (la 0 cv (hr.mono (by decide)) aO rfl rfl (ae (SE.wv (qZ rfl rfl B.list rfl B.range (af 2))) ah)) cG.nd)
  (ak (aX (i:=4) (aR aJ bB (bK (ae av (ae av (ae av (ae av ah))))) (la 0 bC (hr.mono (by decide)) aO rfl rfl (ae av ah)) (λ_ _=>rfl)) cG.nd)
  (ak (dJ (i:=5) (bK ah) cG.nd)
  (ak (eH PassesOwn.leaving rfl (kO rfl B.range (af 2)) (cH (i:=6) cG.nd)
  (aE (eH PassesOwn.leaving rfl (KO rfl B.range (bI j4 kl (af 6) av) (af 2)) (cH (i:=7) cG.nd)
  (aE (du (bA (cL hr.units) dv (la 0 bC (hr.mono (by decide)) aO rfl rfl (ae (aq 4 rfl) ah)) av (bc _))
  (aE (fL 5 (λ_=>rfl) (fC (ae (aR aJ bB (af 3) (af 6) (λ_ _=>rfl)) (ae (aR aJ bB (af 3) (af 7) (λ_ _=>rfl)) ah)))))
  cm)))))
  (aE (aY (fC (ae (aq 2 rfl) (ae (aA ju (hr.mono (by decide)) aO rfl rfl (ae (aq 5 rfl) ah)) ah))))))))))⟩,λds β h=>vP ds β h⟩
abbrev i9:Stmt:=top 51
def fy:aK ["many","rows","found","a","b","left"] ["many","rows"] (ay i9):=⟨rfl,rfl,rfl,by decide +kernel,rfl,by decide +kernel,by decide +kernel⟩
def sd {f:Addr}{fd:FuncData}(F:iA K mg "_law_told" i9 ["many","rows"] f fd)(B:iQ mg):bR P w K mg base ca "_law_told" ["many","rows"] 1 (ba 6 2 (gz)):=
 ⟨⟨f,fd,F.mg,F.F.kp,F.b,aQ (N:=["many","rows","found","a","b","left"]) (k:=0) F.F fy λcdv A outer s H G E hr=>
  (ak (dJ (i:=2) (bK ah) fy.nd)
  (ak (eH PassesOwn.leaving rfl (kO rfl B.range (af 0)) (cH (i:=3) fy.nd)
  (aE (eH PassesOwn.leaving rfl (kO rfl B.range (af 0)) (cH (i:=4) fy.nd)
  (ak (lZ (i:=5) (NB:=["one","a","b"]) (own:=1) (ixs:=[3,4]) [] rfl (cj (by kernel_rfl)) (λ_ _=>rfl) (lg rfl (af 1)) (λH0 G0 par br bx C ex s3 H3 pn=>(cH (i:=0) (show (["one","a","b"]:List Str).Nodup by decide +kernel))) (λH0 G0 par br bx C ex s3 H3 pn hB1=>(fH (bA Lk L1 (nt rfl (af 0) (af 1)) (nt rfl (af 0) (af 2)) (bc _)))) (λH0 G0 par br bx C ex s3 H3 pn hB1=>av) fy.nd)
  (aE (du (rE.t (uz (bA (eJ hr.units) dv (af 3) (af 4) (bc _)) (pE (bA (cL hr.units) dv (af 5) (bK ah) (bc _))) (λ_ _=>rfl)))
  (aE (fL 2 (λ_=>rfl) (fC (ae (aq 3 rfl) (ae (aq 4 rfl) ah)))))
  cm))))))
  (aE (aY (iR c9 ng rfl B.tuple (by decide +kernel) (af 2))))))⟩,λds h=>aM ds h⟩
abbrev ic:Stmt:=top 52
def rn:aK ["order","one","other"] ["order","one","other"] (ay ic):=⟨rfl,rfl,rfl,by decide +kernel,rfl,by decide +kernel,by decide +kernel⟩
def qg {f:Addr}{fd:FuncData}(F:iA K mg "_law_leads" ic ["order","one","other"] f fd)(B:iQ mg):bR P w K mg base ca "_law_leads" ["order","one","other"] 1 (ba 3 3 (nU)):=
 ⟨⟨f,fd,F.mg,F.F.kp,F.b,aQ (N:=["order","one","other"]) (k:=0) F.F rn λcdv A outer s H G E hr=>
  (aE (aY (GZ (dB (cL hr.units) dv (aR aJ bB (af 1) av (λ_ _=>rfl)) (aR aJ bB (af 2) av (λ_ _=>rfl)) (bc _)) (gW (dB (x9 hr.u1) tM (fC (ae (aR aJ bB (af 1) av (λ_ _=>rfl)) (ae (aR aJ bB (af 2) av (λ_ _=>rfl)) ah))) (aR aJ bB (af 0) av (λ_ _=>rfl)) (by with_unfolding_all rfl))) (λ_ _=>rfl))))⟩,λds h=>aM ds h⟩
abbrev dC:Stmt:=top 53
def nV:aK ["row","some"] ["row","some"] (ay dC):=⟨rfl,rfl,rfl,by decide +kernel,rfl,by decide +kernel,by decide +kernel⟩
def mO {f:Addr}{fd:FuncData}(F:iA K mg "_law_turns_all" dC ["row","some"] f fd)(B:iQ mg):bR P w K mg base ca "_law_turns_all" ["row","some"] 1 (ba 2 2 (fP)):=
 ⟨⟨f,fd,F.mg,F.F.kp,F.b,aQ (N:=["row","some"]) (k:=0) F.F nV λcdv A outer s H G E hr=>
  (aE (aY (dB (cL hr.units) dv (cz (NB:=["a","b","row"]) (own:=2) (ixs:=[0]) [] rfl (cj (by kernel_rfl)) (λ_ _=>rfl) (lg rfl (af 1)) (λH0 G0 par br bx C ex s3 H3 pn=>(iV (i:=0) (j:=1) (show (["a","b","row"]:List Str).Nodup by decide +kernel))) (λH0 G0 par br bx C ex s3 H3 pn hB1=>(fH (bA vV Cp (nt rfl (af 2) (af 0)) (nt rfl (af 2) (af 1)) (bc _)))) (λH0 G0 par br bx C ex s3 H3 pn hB1=>av)) (bK ah) (bc _))))⟩,λds h=>aM ds h⟩
abbrev my:Stmt:=top 54
def eM:aK ["script","k","box","order","rows","every","all_rows","some","turn","word","found","good","one","other","cross"] ["script"] (ay my):=⟨rfl,rfl,rfl,by decide +kernel,rfl,by decide +kernel,by decide +kernel⟩
def Gj {f:Addr}{fd:FuncData}{fT fk lU eV iw dA bQ jT iu cS:List D->FR}{dF aU bt:List D->Int->FB}(F:iA K mg "law" my ["script"] f fd)(B:iQ mg)(mQ:bR P w K mg base ca "_law_box" ["script","k"] 2 fT)(lG:bR P w K mg base ca "_law_told" ["many","rows"] 1 fk)(uW:bR P w K mg base ca "turns" ["order"] 6 lU)(lu:bR P w K mg base ca "rows_many" ["order"] 6 eV)(oD:bR P w K mg base ca "nth_row" ["order","number"] 6 iw)(iD:bR P w K mg base ca "together" ["order","some"] 6 dA)(dN:bR P w K mg base ca "_law_turns_all" ["row","some"] 1 bQ)(rb:bR P w K mg base ca "is_row" ["thing","order"] 6 jT)(om:bR P w K mg base ca "is_ring" ["thing","order"] 7 iu)(h9:bR P w K mg base ca "_law_leads" ["order","one","other"] 1 cS)(kz:sg P w K mg base "_law_order" ["box","most"] 3 dF)(bC:sg P w K mg base "_law_take" ["box","many"] 1 aU)(cv:sg P w K mg base "_law_mixed_up" ["box","some"] 2 bt):gN P w K mg base (pw P w) 8 f fd ["script"] (Es K ca 1 (ba 15 1 (yZ fT fk lU eV iw dA bQ jT iu cS dF aU bt))):=
 aQ (N:=["script","k","box","order","rows","every","all_rows","some","turn","word","found","good","one","other","cross"]) (k:=7) F.F eM λcdv A outer s H G E hr=>
  (ak (eH PassesOwn.leaving rfl (kO rfl B.range (xj (A3 rfl) JC rfl B.max (by decide +kernel) av (xj (AX rfl) HF rfl B.min (by decide +kernel) (bq bY gP rfl B.len OG (af 0)) av))) (cH (i:=1) eM.nd)
  (ak (FG (i:=2) rfl (Di mQ (hr.mono (by decide)) aO rfl rfl (ae (aq 0 rfl) (ae (aq 1 rfl) ah))) eM.nd)
  (ak (aX (i:=3) (la 2 kz (hr.mono (by decide)) aO rfl rfl (ae av ah)) eM.nd)
  (ak (du (bA (cL hr.units) dv (la 2 bC (hr.mono (by decide)) aO rfl rfl (ae av ah)) av (bc _))
  (ak (lZ (i:=4) (NB:=["side","box"]) (own:=1) (ixs:=[2]) [] rfl (cj (by kernel_rfl)) (λ_ _=>rfl) (kO rfl B.range av) (λH0 G0 par br bx C ex s3 H3 pn=>(cH (i:=0) (show (["side","box"]:List Str).Nodup by decide +kernel))) (λH0 G0 par br bx C ex s3 H3 pn hB1=>eB) (λH0 G0 par br bx C ex s3 H3 pn hB1=>(iR c9 ng rfl B.tuple (by decide +kernel) (la 1 cv (hr.mono (by decide)) kQ rfl rfl (ae (SE.wv (qZ rfl rfl B.list rfl B.range av)) ah)))) eM.nd)
  (aE (aX (i:=3) (fC (ae av (ae (aA lG (hr.mono (by decide)) aO rfl rfl (ae av (ae (aq 4 rfl) ah))) ah))) eM.nd)))
  cm)
  (ak (aX (i:=5) (aA uW (hr.mono (by decide)) aO rfl rfl (ae (aq 3 rfl) ah)) eM.nd)
  (ak (lZ (i:=6) (NB:=["number","order"]) (own:=1) (ixs:=[3]) [3] rfl (cj (by kernel_rfl)) (λ_ _=>rfl) (kO rfl B.range (aA lu (hr.mono (by decide)) aO rfl rfl (ae (aq 3 rfl) ah))) (λH0 G0 par br bx C ex s3 H3 pn=>(cH (i:=0) (show (["number","order"]:List Str).Nodup by decide +kernel))) (λH0 G0 par br bx C ex s3 H3 pn hB2=>eB) (λH0 G0 par br bx C ex s3 H3 pn hB2=>(aA oD (hr.mono (by decide)) kQ rfl rfl (ae (aq 1 (hB2 1 (by decide))) (ae (aq 0 (hB2 0 (by decide))) ah)))) eM.nd)
  (ak (dJ (i:=7) (bK ah) eM.nd)
  (ak (eH PassesOwn.leaving rfl (kO rfl B.range (bI kK lA (la 2 bC (hr.mono (by decide)) aO rfl rfl (ae av ah)) (iR Af IJ rfl B.int (by decide +kernel) (dB (eJ hr.units) dv (af 5) (bK ah) (bc _))))) (cH (i:=8) eM.nd)
  (aE (fL 7 (λ_=>rfl) (aR aJ bB (af 5) (la 2 bC (hr.mono (by decide)) aO rfl rfl (ae (bq bY gP rfl B.len OG (af 5)) ah)) (λ_ _=>rfl)))))
  (ak (Jw (aA iD (hr.mono (by decide)) aO rfl rfl (ae (aq 3 rfl) (ae (aq 7 rfl) ah))) (iV (i:=9) (j:=10) eM.nd))
  (ak (lZ (i:=11) (NB:=["row","some"]) (own:=1) (ixs:=[7]) [7] rfl (cj (by kernel_rfl)) (λ_ _=>rfl) (lg rfl (af 6)) (λH0 G0 par br bx C ex s3 H3 pn=>(cH (i:=0) (show (["row","some"]:List Str).Nodup by decide +kernel))) (λH0 G0 par br bx C ex s3 H3 pn hB3=>(fH (cV rfl (aA dN (hr.mono (by decide)) kQ rfl rfl (ae (aq 0 (hB3 0 (by decide))) (ae (aq 1 (hB3 1 (by decide))) ah)))))) (λH0 G0 par br bx C ex s3 H3 pn hB3=>(aq 0 (hB3 0 (by decide)))) eM.nd)
  (ak (du (rE.t (nY (bA (eJ hr.units) dv (dB (cL hr.units) dv (af 9) iI (bc _)) (dB (eJ hr.units) dv (af 11) (bK ah) (bc _)) (bc _)) (kC (rE.t (uz (bA (cL hr.units) dv (af 9) iI (bc _)) (pE (rE.t (nY (bA (iB hr.u1) tM (af 10) (af 11) (by with_unfolding_all rfl)) (kC (fR (cV rfl (aA rb (hr.mono (by decide)) aO rfl rfl (ae (aq 10 rfl) (ae (aq 3 rfl) ah)))))) (λ_ _=>rfl)))) (λ_ _=>rfl)))) (λ_ _=>rfl)))
  (aE (aY jo))
  cm)
  (ak (du (bA (cL hr.units) dv (af 9) iI (bc _))
  (ak (du (rE.t (nY (bA AV Cv (aA om (hr.mono (by decide)) aO rfl rfl (ae (aq 10 rfl) (ae (aq 3 rfl) ah))) jo (bc _)) (kC (bA (eJ hr.units) dv (cz (NB:=["turn","some"]) (own:=1) (ixs:=[7]) [] rfl (cj (by kernel_rfl)) (λ_ _=>rfl) (lg rfl (af 10)) (λH0 G0 par br bx C ex s3 H3 pn=>(cH (i:=0) (show (["turn","some"]:List Str).Nodup by decide +kernel))) (λH0 G0 par br bx C ex s3 H3 pn hB4=>(fH (bA (iB hr.u1) tM (af 0) (af 1) (by with_unfolding_all rfl)))) (λH0 G0 par br bx C ex s3 H3 pn hB4=>(aq 0 (hB4 0 (by decide))))) (bK ah) (bc _))) (λ_ _=>rfl)))
  (aE (aY jo))
  cm)
  (aE (du (bA (eJ hr.units) dv (cz (NB:=["row","found"]) (own:=1) (ixs:=[10]) [10] rfl (cj (by kernel_rfl)) (λ_ _=>rfl) (lg rfl (af 6)) (λH0 G0 par br bx C ex s3 H3 pn=>(cH (i:=0) (show (["row","found"]:List Str).Nodup by decide +kernel))) (λH0 G0 par br bx C ex s3 H3 pn hB5=>(fH (cV rfl (aA dN (hr.mono (by decide)) kQ rfl rfl (ae (aq 0 (hB5 0 (by decide))) (ae (aq 1 (hB5 1 (by decide))) ah)))))) (λH0 G0 par br bx C ex s3 H3 pn hB5=>(aq 0 (hB5 0 (by decide))))) (bK ah) (bc _))
  (aE (aY jo))
  cm)))
  cm)
  (ak (du (rE.t (uz (bA (cL hr.units) dv (af 9) iI (bc _)) (pE (bA (eJ hr.units) dv (aR aJ bB (aA iD (hr.mono (by decide)) aO rfl rfl (ae (aq 3 rfl) (ae (SE.wv (xl rfl (af 7) (zw av) zH)) ah))) av (λ_ _=>rfl)) iI (bc _))) (λ_ _=>rfl)))
  (aE (aY jo))
  cm)
  (aE (eH PassesOwn.leaving rfl (EF rfl (SE.wv (xl rfl (af 5) zH (zw av)))) (cH (i:=12) eM.nd)
  (ak (aX (i:=13) (aR aJ bB (af 5) (la 2 bC (hr.mono (by decide)) aO rfl rfl (ae (bq bY gP rfl B.len OG (af 5)) ah)) (λ_ _=>rfl)) eM.nd)
  (ak (aX (i:=14) (iS (aA h9 (hr.mono (by decide)) aO rfl rfl (ae (aq 3 rfl) (ae (aq 12 rfl) (ae (aq 13 rfl) ah)))) (gW (aA h9 (hr.mono (by decide)) aO rfl rfl (ae (aq 3 rfl) (ae (aq 13 rfl) (ae (aq 12 rfl) ah))))) (λ_ _=>rfl)) eM.nd)
  (aE (du (bA (eJ hr.units) dv (dB (cL hr.units) dv (aR aJ bB (aA iD (hr.mono (by decide)) aO rfl rfl (ae (aq 3 rfl) (ae (SE.wv (bK (ae (aq 12 rfl) (ae (aq 13 rfl) ah)))) ah))) av (λ_ _=>rfl)) iI (bc _)) (af 14) (bc _))
  (aE (aY jo))
  cm)))))))))))))))))))
  (aE (aY jo)))
end
end RQ
namespace RM
open PySem L2
theorem Ci {t u:VF Bool}{vs:List Nv}{β:Int}{a b:Bool}(h:t vs β=.ok a β)(h':u vs β=.ok b β):yd t u vs β=.ok (a && b) β:=by
 rw[yu,h];dsimp only[R.bnd]
 cases a with
 |true=>rw[NN rfl,h'];rfl
 |false=>rfl
theorem Gs {t u:VF Bool}{vs:List Nv}{β:Int}{a b:Bool}(h:t vs β=.ok a β)(h':u vs β=.ok b β):mi t u vs β=.ok (a || b) β:=by
 rw[pM,h];dsimp only[R.bnd]
 cases a with
 |true=>rfl
 |false=>rw[NV Og,h'];rfl
def fE {t:VF Bool}{vs:List Nv}{β:Int}{a:Bool}(h:t vs β=.ok a β):rJ t vs β=.ok (!a) β:=by rw[ua,h];rfl
def Hx {fa:VF D}{vs:List Nv}{β:Int}{l:List Pr}{f:Pr->Bool}(h:fa vs β=.ok (.list (l.map λq=>PyData.bool (f q))) β):f1 fa (de λbs=>bs.all id) vs β=.ok (.bool (l.all f)) β:=by
 refine dU h ?_
 simp only[de]
 rw[il]
 simp[all_map]
def upTo (n:Nat)(f:Pr->Bool)(i k:Nat):List Pr:=(OM.cN n).filter λp=>(decide (p.1 < i) || (decide (p.1=i) && decide (p.2 < k))) && f p
def Eg {n:Nat}(f:Pr->Bool)(i k:Nat)(h8:n<=8):(upTo n f i k).length<=64:=by
 have h1:(upTo n f i k).length<=(OM.cN n).length:=O4 _ _
 rw[gG] at h1
 have:n * n<=64:=O5 h8 h8
 omega
def Ax (n:Nat)(f:Pr->Bool):upTo n f 0 0= []:=by
 unfold upTo
 rw[Pw]
 intro p hp
 have:=OM.bH.mp hp
 rw[NZ (by omega),NZ (p:=p.2 < ((0:Nat):Int)) (by omega)];simp
def B9 (n:Nat)(f:Pr->Bool):upTo n f n 0=(OM.cN n).filter f:=by
 unfold upTo
 refine Qo λp hp=>?_
 have:=(OM.bH.mp hp).1.2
 rw[NS this];simp
def DI (n:Nat)(f:Pr->Bool)(i:Nat):upTo n f i n=upTo n f (i + 1) 0:=by
 unfold upTo
 refine Qo λp hp=>?_
 have h:=OM.bH.mp hp
 congr 1
 rw[Ox]
 simp only[OY,N4,N2]
 omega
def sF {n i k:Nat}(f:Pr->Bool)(hi:i < n)(hk:k < n):upTo n f i (k + 1)=upTo n f i k ++ if f ((i:Int),(k:Int))=true then [((i:Int),(k:Int))] else []:=by
 refine OM.i8 (OM.iO _ (OM.jO n)) ?_ λx=>?_
 ·show List.Pairwise OM.GD _
  rw[List.pairwise_append]
  refine⟨OM.iO _ (OM.jO n),?_,λp hp q hq=>?_⟩
  ·split <;> simp
  ·unfold upTo at hp
   have h1:=(NX.mp hp).2
   simp only[OY,N4,N2] at h1
   split at hq
   ·have:q=((i:Int),(k:Int)):=by simpa using hq
    subst this
    show p.1 < (i:Int)\/(p.1=(i:Int)/\p.2 < (k:Int))
    exact h1.1
   ·cases hq
 ·rw[Ob]
  unfold upTo
  rw[NX,NX,OM.bH]
  simp only[OY,N4,N2]
  constructor
  ·rintro⟨h1,h2,h3⟩
   by_cases z:x.1=i/\x.2=k
   ·obtain⟨xa,xb⟩:=x
    simp only at z h3
    obtain⟨rfl,rfl⟩:=z
    rw[NN h3]
    exact .inr (Oe.mpr rfl)
   ·exact .inl ⟨h1,by omega,h3⟩
  ·rintro (⟨h1,h2,h3⟩ |h)
   ·exact⟨h1,by omega,h3⟩
   ·split at h
    ·rename_i hf
     have:x=((i:Int),(k:Int)):=by simpa using h
     subst this
     exact⟨⟨⟨by show (0:Int)<=(i:Int);omega,by show (i:Int) < n;omega⟩,by show (0:Int)<=(k:Int);omega,by show (k:Int) < n;omega⟩,.inr ⟨rfl,by show (k:Int) < ((k + 1:Nat):Int);omega⟩,hf⟩
    ·cases h
def tupI (r:List Int):D:=.tuple (r.map int)
def pH {fa fb:VF D}{vs:List Nv}{β:Int}{r:List Int}{k:Int}(h:fa vs β=.ok (tupI r) β)(h':fb vs β=.ok (.int k) β)(hk:k∈r):mP fa fb vs β=.ok (.int (r.idxOf k:Nat)) β:=by
 unfold mP
 rw[h]
 dsimp only[R.bnd]
 rw[NN (by rfl),h']
 dsimp only[R.bnd,EC,tupI]
 rw[iC]
 dsimp only
 rw[NN hk];rfl
def E3 {r:List Int}{a b:Int}(ha:a∈r)(hb:b∈r)(h:r.idxOf a=r.idxOf b):a=b:=by
 have h1:=PR (OI.mpr ha)
 have h2:=PR (OI.mpr hb)
 rw[<-h1,<-h2]
 congr 1
theorem qM {α:Type}{t:Tg}{fe:VF D}{vs:List Nv}(e:α->D)(P:α->Prop):∀{ds:List D} {β:Int},(∀d,d∈ds->∃vs1,mw t d vs=some vs1/\∀β,∃a β',fe vs1 β=.ok (e a) β'/\P a)->
  ∃(as:List α) (β':Int),gO t kU fe vs ds β=.ok (as.map e) β'/\as.length=ds.length/\∀a,a∈as->P a
 | [],β,_=>⟨[],β,rfl,rfl,λa h=>(by cases h)⟩
 |d :: ds,β,h=>by
  obtain⟨vs1,hb,hf⟩:=h d (NR ..)
  obtain⟨a,β1,ef,pa⟩:=hf β
  obtain⟨as,β2,ec,hl,hP⟩:=qM e P (ds:=ds) (β:=β1) λd' hd=>h d' (NP _ hd)
  refine⟨a :: as,β2,?_,by rw[N5,N5,hl],λx hx=>?_⟩
  ·unfold gO
   rw[hb]
   dsimp only[kU,R.okb]
   rw[NN rfl,ef]
   dsimp only
   rw[ec];rfl
  ·rcases NO.mp hx with z |z
   ·rw[z];exact pa
   ·exact hP x z
def Ek:D->Bool
 | .tuple _=>true
 |_=>false
theorem zQ {d:D}(h:Ek d=true):∃ds,d=.tuple ds:=by
 cases d with
 |tuple ds=>exact⟨ds,rfl⟩
 |_=>cases h
def BY {d:D}(h:dP d=false):jz "tuple" d=some (.bool (Ek d)):=by
 unfold jz;rw[h];cases d <;> rfl
section
variable {fa fb:VF D}{vs:List Nv}{β:Int}
def Hb {d:D}(ha:fa vs β=.ok d β)(h:dP d=false):j3 (f1 fa (jz "tuple")) vs β=.ok (Ek d) β:=kP (dU ha (BY h))
def zd {l:List D}{f:D->Bool}(h:fa vs β=.ok (.list (l.map λq=>PyData.bool (f q))) β):f1 fa (de λbs=>bs.all id) vs β=.ok (.bool (l.all f)) β:=by
 refine dU h ?_
 simp only[de]
 rw[il]
 simp[all_map]
def DM {ds:List D}(ha:fa vs β=.ok (.tuple ds) β):f1 fa cc vs β=.ok (.int ds.length) β:=dU ha rfl
def Jm {ds:List D}{k:Int}(ha:fa vs β=.ok (.tuple ds) β):cI (f2 (f1 fa cc) (cst (.int k)) (cp true)) vs β=.ok (!decide ((ds.length:Int)=k)) β:=gp (neg:=true) (DM ha) rfl
def GL {t u:VF Bool}(h:t vs β=.ok true β):mi t u vs β=.ok true β:=by rw[pM,h];rfl
def mz {t u:VF Bool}{c:Bool}(h:t vs β=.ok false β)(h':u vs β=.ok c β):mi t u vs β=.ok c β:=by rw[pM,h];exact h'
def Cs (h:fa vs β=.ok (.bool false) β):eN fa fb vs β=.ok (.bool false) β:=by unfold eN;rw[h];rfl
def Ck {d:D}(h:fa vs β=.ok (.bool true) β)(h':fb vs β=.ok d β):eN fa fb vs β=.ok d β:=by unfold eN;rw[h];exact h'
def MF (h:fa vs β=.ok (.bool true) β):JI fa fb vs β=.ok (.bool true) β:=by unfold JI;rw[h];rfl
def Mv {d:D}(h:fa vs β=.ok (.bool false) β)(h':fb vs β=.ok d β):JI fa fb vs β=.ok d β:=by unfold JI;rw[h];exact h'
end
def Sq (c k:Nat)(d:D):Prop:=d.showable=true/\d.depth<=k/\d.shown.length<=c
def Sq.mono {c k c' k':Nat}{d:D}(h:Sq c k d)(h1:c<=c')(h2:k<=k'):Sq c' k' d:=⟨h.1,OU h.2.1 h2,OU h.2.2 h1⟩
theorem C3 {c k:Nat}:∀{ds:List D},(∀d,d∈ds->Sq c k d)->PyData.showableAll ds=true/\PyData.depthAll ds<=k/\(∀t,t∈PyData.shownAll ds->t.length<=c)/\(PyData.shownAll ds).length=ds.length
 | [],_=>⟨by simp[PyData.showableAll],by simp[PyData.depthAll],λt h=>by simp[PyData.shownAll] at h,by simp[PyData.shownAll]⟩
 |d :: ds,h=>by
  obtain⟨h1,h2,h3,h4⟩:=C3 λx hx=>h x (NP _ hx)
  obtain⟨q1,q2,q3⟩:=h d (NR ..)
  refine⟨?_,?_,λt ht=>?_,?_⟩
  ·rw[PyData.showableAll,q1,h1];rfl
  ·rw[PyData.depthAll];omega
  ·rw[PyData.shownAll] at ht
   rcases NO.mp ht with rfl |ht
   ·exact q3
   ·exact h3 t ht
  ·rw[PyData.shownAll,N5,N5,h4]
theorem vL {c:Nat}:∀{ts:List Str},(∀t,t∈ts->t.length<=c)->(Str.join ", " ts).length<=(c + 2) * ts.length
 | [],_=>by show (Str.join ", " []).length<=_;exact Ov _
 | [x],h=>by
  have:=h x (NR ..)
  show x.length<=(c + 2) * 1
  omega
 |x :: y :: r,h=>by
  have ih:=vL (ts:=y :: r) λt ht=>h t (NP _ ht)
  have:=h x (NR ..)
  show (x ++ ", " ++ Str.join ", " (y :: r)).length<=_
  rw[strLen_append,strLen_append]
  have e2:((", ":String):Str).length=2:=rfl
  rw[e2]
  have e:(c + 2) * (x :: y :: r).length=(c + 2) * (y :: r).length + (c + 2):=by rw[N5,Nat.mul_succ]
  omega
def CT {c k:Nat}{ds:List D}(h:∀d,d∈ds->Sq c k d):Sq (3 + (c + 2) * ds.length) (k + 1) (.tuple ds):=by
 obtain⟨h1,h2,h3,h4⟩:=C3 h
 refine⟨by rw[PyData.showable];exact h1,by rw[PyData.depth];omega,?_⟩
 rw[PyData.shown]
 unfold tupleText
 rw[strLen_append,strLen_append]
 have j:=vL h3
 rw[h4] at j
 have e1:((("(":String):Str)).length=1:=rfl
 have e3:((if (PyData.shownAll ds).length == 1 then ",)" else ")":String):Str).length<=2:=by split <;> exact by decide
 rw[e1]
 omega
def Bf (d:D):Prop:=JT d=true
theorem C7:∀{ds:List D},(∀d,d∈ds->Bf d)->Dm ds=true
 | [],_=>rfl
 |d :: ds,h=>by
  have h1:=C7 λx hx=>h x (NP _ hx)
  have q1:JT d=true:=h d (NR ..)
  rw[Dm,q1,h1];rfl
def CL {ds:List D}(h:∀d,d∈ds->Bf d):Bf (.tuple ds):=by show JT (.tuple ds)=true;rw[JT];exact C7 h
def Mh:List Int:=[-1,0,1,2,3,4,5,6,7,8,9]
def Ca:∀i∈Mh,(int i).showable=true/\(int i).shown.length<=20:=by decide +kernel
def zR {i:Int}(h: -1<=i/\i<=9):i∈Mh:=by
 simp only[Mh,NO,OF,PF]
 omega
def Et (d:D):Prop:=d=.none\/(∃b,d=.bool b)\/∃i:Int,d=.int i/\ -1<=i/\i<=9
def Et.sq {d:D}(h:Et d):Sq 20 0 d:=by
 rcases h with rfl | ⟨b,rfl⟩ | ⟨i,rfl,h⟩
 ·exact⟨by simp[PyData.showable],by simp[PyData.depth],by rw[PyData.shown];decide⟩
 ·exact⟨by simp[PyData.showable],by simp[PyData.depth],by rw[PyData.shown];cases b <;> decide⟩
 ·exact⟨(Ca i (zR h)).1,by simp[PyData.depth],(Ca i (zR h)).2⟩
def Et.bf {d:D}(h:Et d):Bf d:=by
 rcases h with rfl | ⟨b,rfl⟩ | ⟨i,rfl,h⟩ <;> exact by simp[Bf,JT]
def Et.scr {d:D}(h:Et d):dP d=false:=by
 rcases h with rfl | ⟨b,rfl⟩ | ⟨i,rfl,h⟩ <;> rfl
section
variable {vs:List Nv}{β β1 β2:Int}{fa:VF D}{fr:VF (List D)}{d:D}{ds:List D}
def ac {fa:VF D}{fr:VF (List D)}(h:fa vs β=.ok d β)(h':fr vs β=.ok ds β):aa fa fr vs β=.ok (d :: ds) β:=by rw[dw,h];dsimp only[R.bnd];rw[h']
def an:ag vs β=.ok [] β:=rfl
def tp (h:fr vs β=.ok ds β)(hz:ds.length<=1000:=by simp):cC fr vs β=.ok (.tuple ds) β:=jd h hz
def lp (h:fr vs β=.ok ds β)(hz:ds.length<=1000:=by simp):bD fr vs β=.ok (.list ds) β:=gm h hz
def ck (d:D):cst d vs β=.ok d β:=rfl
end
def ER {P:D->Prop}{x y:D}(hx:P x)(hy:P y):∀d,d∈ [x,y]->P d:=λd hd=>by
 rcases NO.mp hd with rfl |hd
 ·exact hx
 ·rw[Oe] at hd;subst hd;exact hy
def zc {i:Int}(h: -1<=i/\i<=9):Et (.int i):=.inr (.inr ⟨i,rfl,h⟩)
def Dz {d:D}(h:dP d=false):jz "list" d=some (.bool (match d with | .list _=>true |_=>false)):=by
 unfold jz;rw[h];cases d <;> rfl
def JK:D->Bool
 | .list _=>true
 |_=>false
theorem FO {d:D}(h:JK d=true):∃ds,d=.list ds:=by
 cases d with
 |list ds=>exact⟨ds,rfl⟩
 |_=>cases h
def Kx {fa:VF D}{vs:List Nv}{β:Int}{d:D}(ha:fa vs β=.ok d β)(h:dP d=false):f1 fa (jz "list") vs β=.ok (.bool (JK d)) β:=dU ha (by rw[Dz h];cases d <;> rfl)
def mG {fa:VF D}{vs:List Nv}{β:Int}{ds:List D}(ha:fa vs β=.ok (.list ds) β):f1 fa cc vs β=.ok (.int ds.length) β:=dU ha rfl
def Ge (e:D):Prop:=dP e=false/\∀es,e=.tuple es->es.length<=100/\∀x,x∈es->dP x=false
def Jj (n:Int):D->Bool
 | .tuple [x,y]=>fF x n && fF y n
 |_=>false
def Ke {n:Int}{d:D}(h:Jj n d=true):∃p:Pr,d=aw p/\(0<=p.1/\p.1 < n)/\(0<=p.2/\p.2 < n):=by
 unfold Jj at h
 split at h
 ·rename_i x y
  rw[N4] at h
  cases x with
  |int a=>
   cases y with
   |int b=>exact⟨(a,b),rfl,OT h.1,OT h.2⟩
   |_=>cases h.2
  |_=>cases h.1
 ·cases h
def LB:List D->FR:=ba 2 2 (jN cP)
theorem xX {es:List D}:(decide ((es.length:Int)=2)=false/\∀n,Jj n (.tuple es)=false)\/∃x y,es= [x,y]:=by
 match es with
 | []=>exact .inl ⟨rfl,λ_=>rfl⟩
 | [_]=>exact .inl ⟨rfl,λ_=>rfl⟩
 | [x,y]=>exact .inr ⟨x,y,rfl⟩
 |_ :: _ :: _ :: _=>exact .inl ⟨NZ (by simp;omega),λ_=>rfl⟩
theorem M9 {d:D}{n:Int}(h:Ge d):LB [d,.int n]=.ok (.bool (Jj n d)) false:=by
 show fin (jN cP [.fz d,.fz (.int n)] 0)=_
 unfold jN
 have g0:gv 0 (vl [.fz d,.fz (.int n)]) 0=.ok d 0:=rfl
 have t1:=Hb g0 h.1
 cases hy:Ek d with
 |false=>
  rw[hy] at t1
  rw[gx (d:=.bool false) (b:=false) (β':=0) ?a]
  ·cases d <;> first |rfl |cases hy
  case a=>rw[jq (GL (fE t1))];rfl
 |true=>
  obtain⟨es,rfl⟩:=zQ hy
  rw[hy] at t1
  have t2:=Jm (k:=2) g0
  rcases xX (es:=es) with⟨q,z⟩ | ⟨x,y,rfl⟩
  ·rw[q] at t2
   rw[z n,gx (d:=.bool false) (b:=false) (β':=0) (by rw[jq (mz (fE t1) t2)];rfl)];rfl
  ·rw[au (env':=[.fz (.tuple [x,y]),.fz (.int n)]) (β':=0) (by rw[fK (mz (fE t1) t2)];rfl)]
   have hx:=(h.2 _ rfl).2 x (NR ..)
   have hy':=(h.2 _ rfl).2 y (NP _ (NR ..))
   have e1:ao cP (aa (f2 (gv 0) (cst (.int 0)) bo) (aa (gv 1) ag)) (vl [.fz (.tuple [x,y]),.fz (.int n)]) 0=.ok (.bool (fF x n)) 0:=ax (ds:=[x,.int n]) rfl (nr hx)
   have e2:ao cP (aa (f2 (gv 0) (cst (.int 1)) bo) (aa (gv 1) ag)) (vl [.fz (.tuple [x,y]),.fz (.int n)]) 0=.ok (.bool (fF y n)) 0:=ax (ds:=[y,.int n]) rfl (nr hy')
   rw[cq,pI e1 e2];rfl
def Sp (p:Pr):Prop:=(0<=p.1/\p.1<=8)/\(0<=p.2/\p.2<=8)
def Em {es:List D}(hl:es.length<=100)(h:∀x,x∈es->dP x=false):Ge (.tuple es):=⟨rfl,λes' e=>by cases e;exact⟨hl,h⟩⟩
def EO {fa fb:VF D}{vs:List Nv}{β:Int}{ds:List D}{i:Nat}(ha:fa vs β=.ok (.list ds) β)(hb:fb vs β=.ok (.int ((i:Nat):Int)) β):FY fa (Fm fb) (λ_ β=>.ok none β) vs β=.ok (.list (ds.drop i)) β:=by
 unfold FY Fm
 rw[ha];dsimp only[R.bnd]
 rw[hb];dsimp only[R.bnd]
 congr 2
 unfold cutD
 rw[HT.vn,HT.zM]
 by_cases h:i<=ds.length
 ·rw[Nat.min_eq_left h];exact O9 (by rw[List.length_drop];omega)
 ·rw[Nat.min_eq_right (by omega),List.drop_length,List.drop_of_length_le (by omega)];simp
def Cj {fa fb:VF D}{vs:List Nv}{β:Int}{ds:List D}{i:Nat}(ha:fa vs β=.ok (.list ds) β)(hb:fb vs β=.ok (.int ((i:Nat):Int)) β):FY fa (λ_ β=>.ok none β) (Fm fb) vs β=.ok (.list (ds.take i)) β:=by
 unfold FY Fm
 rw[ha];dsimp only[R.bnd]
 rw[hb];dsimp only[R.bnd]
 congr 2
 unfold cutD
 rw[HT.vn,HT.zM]
 by_cases h:i<=ds.length
 ·rw[Nat.min_eq_left h];rfl
 ·rw[Nat.min_eq_right (by omega),O9 (show ds.length<=i by omega)];simp
end RM
namespace RM
open PySem PySem.Spec L2 PyProof.Rows
theorem ra:∀(ns acc:List Int),acc.Nodup->(ns.foldl step_dedup acc).length<=acc.length + ns.length/\((ns.foldl step_dedup acc).length=acc.length + ns.length↔(ns.Nodup/\∀x,x∈ns->x∉acc))
 | [],acc,_=>by simp
 |n :: ns,acc,hn=>by
  rw[Qx]
  by_cases h:n∈acc
  ·have e:step_dedup acc n=acc:=by unfold step_dedup;rw[NN (by simpa using h)]
   rw[e]
   obtain⟨h1,h2⟩:=ra ns acc hn
   refine⟨by rw[N5];omega,⟨λz=>?_,λz=>absurd h (z.2 n (NR ..))⟩⟩
   rw[N5] at z;omega
  ·have e:step_dedup acc n=acc ++ [n]:=by unfold step_dedup;rw[NV (by simpa using h)]
   have hn':(acc ++ [n]).Nodup:=by
    rw[Qp]
    refine⟨hn,Om.mpr ⟨by simp,P9⟩,λa ha b hb=>?_⟩
    rw[Oe] at hb
    subst hb
    exact λq=>h (q▸ha)
   rw[e]
   obtain⟨h1,h2⟩:=ra ns (acc ++ [n]) hn'
   rw[Of,O3] at h1 h2
   refine⟨by rw[N5];omega,?_⟩
   rw[N5,show acc.length + (ns.length + 1)=acc.length + 1 + ns.length by omega,h2,Om]
   constructor
   ·rintro⟨z1,z2⟩
    refine⟨⟨λq=>z2 n q (by simp),z1⟩,λx hx=>?_⟩
    rcases NO.mp hx with rfl |hx
    ·exact h
    ·exact λq=>z2 x hx (OV _ q)
   ·rintro⟨⟨z1,z2⟩,z3⟩
    refine⟨z2,λx hx q=>?_⟩
    rcases Ob.mp q with q |q
    ·exact z3 x (NP _ hx) q
    ·rw[Oe] at q;subst q;exact z1 hx
def wF (ns:List Int):rP ns=ns.length↔ns.Nodup:=by
 have e:firstMet (λi=>ns.getD i 0) ns.length=ns.foldl step_dedup []:=by
  unfold firstMet
  congr 1
  refine Qe (by simp) λi h1 h2=>?_
  simp[N7,h2]
 unfold rP
 rw[e]
 have:=(ra ns [] P9).2
 simpa using this
theorem oS:∀{l m:List Int},l.Nodup->(∀x,x∈l->x∈m)->m.length<=l.length->l.Perm m
 | [],m,_,_,h=>by
  have:m= []:=Qf.mp (by simpa using h)
  rw[this]
 |x :: l,m,nd,hs,h=>by
  obtain⟨h1,h2⟩:=Om.mp nd
  have hx:x∈m:=hs x (NR ..)
  have pm:m.Perm (x :: m.erase x):=List.perm_cons_erase hx
  refine (List.Perm.cons x (oS (m:=m.erase x) h2 (λy hy=>?_) ?_)).trans pm.symm
  ·have hy':=pm.mem_iff.mp (hs y (NP _ hy))
   rcases NO.mp hy' with rfl |q
   ·exact absurd hy h1
   ·exact q
  ·have:=pm.length_eq
   rw[N5] at this h
   omega
def qA {n:Nat}{r:List Int}(hl:r.length=n)(hb:∀x,x∈r->0<=x/\x < n)(nd:r.Nodup):r.Perm (dW n):=oS nd (λx hx=>aV.mpr (hb x hx)) (by rw[b5];omega)
noncomputable def pZ (n:Nat)(d:D):Bool:=@decide (∃r:List Int,d=tupI r/\r.Perm (dW n)) (Classical.propDecidable _)
def Ht {n:Nat}{d:D}(h:pZ n d=true):∃r:List Int,d=tupI r/\r.Perm (dW n):=@OT _ (Classical.propDecidable _) h
def xg {n:Nat}{r:List Int}(h:r.Perm (dW n)):pZ n (tupI r)=true:=@NS _ (Classical.propDecidable _) ⟨r,rfl,h⟩
def uw {n:Nat}{d:D}(h:∀r:List Int,d=tupI r->¬r.Perm (dW n)):pZ n d=false:=@NZ _ (Classical.propDecidable _) λ⟨r,e,p⟩=>h r e p
def wM {r q:List Int}(h:tupI r=tupI q):r=q:=by
 unfold tupI at h
 have h:=PyData.tuple.inj h
 exact List.map_inj_right (λa b e=>int.inj e) |>.mp h
theorem AH {d:D}{n:Int}(h:fF d n=true):∃i:Int,d=.int i/\0<=i/\i < n:=by
 cases d with
 |int i=>exact⟨i,rfl,OT h⟩
 |_=>cases h
theorem tj {n:Int}:∀{ds:List D},(ds.all λe=>fF e n)=true->∃r:List Int,ds=r.map int/\∀x,x∈r->0<=x/\x < n
 | [],_=>⟨[],rfl,λx hx=>by cases hx⟩
 |d :: ds,h=>by
  rw[all_cons,N4] at h
  obtain⟨i,rfl,hi⟩:=AH h.1
  obtain⟨r,rfl,hr⟩:=tj h.2
  refine⟨i :: r,rfl,λx hx=>?_⟩
  rcases NO.mp hx with rfl |hx
  ·exact hi
  ·exact hr x hx
def AD {n:Nat}{r:List Int}(h:∀x,x∈r->0<=x/\x < (n:Int)):((r.map int).all λe=>fF e n)=true:=by
 rw[all_map,Oq]
 intro x hx
 exact NS (h x hx)
theorem iC:∀r:List Int,iP (r.map int)=some r
 | []=>rfl
 |x :: r=>by
  have:=iC r
  simp only[OE,iP,this]
  try rfl
def zt:List D->FR:=ba 2 2 (l8 cP)
theorem Hu {n:Nat}{d:D}(h8:n<=100)(h:Ge d):zt [d,.int n]=.ok (.bool (pZ n d)) false:=by
 show fin (l8 cP [.fz d,.fz (.int n)] 0)=_
 unfold l8
 have g0:gv 0 (vl [.fz d,.fz (.int n)]) 0=.ok d 0:=rfl
 have t1:=Hb g0 h.1
 cases hy:Ek d with
 |false=>
  rw[hy] at t1
  rw[gx (d:=.bool false) (b:=false) (β':=0) (by rw[jq (GL (fE t1))];rfl),uw]
  ·rfl
  ·intro r e;subst e;cases hy
 |true=>
  obtain⟨es,rfl⟩:=zQ hy
  rw[hy] at t1
  have t2:cI (f2 (f1 (gv 0) cc) (gv 1) (cp true)) (vl [.fz (.tuple es),.fz (.int n)]) 0=.ok (!decide ((es.length:Int)=n)) 0:=gp (neg:=true) (DM g0) rfl
  by_cases hl:es.length=n
  ·rw[NS (show (es.length:Int)=n by omega)] at t2
   rw[au (env':=[.fz (.tuple es),.fz (.int n)]) (β':=0) (by rw[fK (mz (fE t1) t2)];rfl)]
   have hs:=(h.2 _ rfl).2
   have ec:aN 1 [1] (.nm 0) (bG (gv 0)) kU (ao cP (aa (gv 0) (aa (gv 1) ag))) (vl [.fz (.tuple es),.fz (.int n)]) 0=.ok (.list (es.map λe=>PyData.bool (fF e n))) 0:=
    td (λe=>PyData.bool (fF e n)) rfl (by omega) λe he=>⟨_,rfl,ax (ds:=[e,.int n]) rfl (nr (hs e he))⟩
   have ea:=zd ec
   rw[cq]
   cases hb:(es.all λe=>fF e n) with
   |false=>
    rw[hb] at ea
    rw[Cs ea,uw]
    ·rfl
    ·intro r e pm
     have e:=PyData.tuple.inj e
     subst e
     rw[AD λx hx=>aV.mp (pm.mem_iff.mp hx)] at hb
     cases hb
   |true=>
    rw[hb] at ea
    obtain⟨r,rfl,hr⟩:=tj hb
    have hrl:r.length=n:=by rw[NT] at hl;exact hl
    have es:f1 (gv 0) pF (vl [.fz (.tuple (r.map int)),.fz (.int n)]) 0=.ok (.int (rP r)) 0:=by
     refine dU g0 ?_
     show (match iP (r.map int) with |some ns=>if ns.length<=1000 then some (int (rP ns)) else none |none=>none)=_
     rw[iC]
     exact NN (by omega)
    rw[Ck ea (az es rfl (lP false (rP r) n))]
    show FR.ok (.bool (decide ((rP r:Int)=(n:Int)))) false=_
    by_cases nd:r.Nodup
    ·have:=(wF r).mpr nd
     rw[NS (by omega),show pZ n (.tuple (r.map int))=true from xg (qA hrl hr nd)]
    ·have:rP r≠r.length:=λq=>nd ((wF r).mp q)
     rw[NZ (by omega),uw]
     intro q e pm
     have e:=wM (r:=r) e
     subst e
     exact nd (pm.nodup_iff.mpr (dE n))
  ·rw[NZ (show ¬(es.length:Int)=n by omega)] at t2
   rw[gx (d:=.bool false) (b:=false) (β':=0) (by rw[jq (mz (fE t1) t2)];rfl),uw]
   ·rfl
   ·intro r e pm
    have e:=PyData.tuple.inj e
    subst e
    have:=pm.length_eq
    rw[b5] at this
    rw[NT] at hl
    exact hl this
end RM
namespace RM
open PySem L2
def BQ (r:List Int):List Int:=(List.range r.length).map λ(a:Nat)=>((r.idxOf (a:Int):Nat):Int)
def gC (r:List Int)(k:Nat):List Int:=(List.range r.length).map λ(a:Nat)=>if r.idxOf (a:Int) < k then ((r.idxOf (a:Int):Nat):Int) else 0
def Av {n:Nat}{r:List Int}(h:r.Perm (dW n)):gC r r.length=BQ r:=by
 unfold gC BQ
 refine OR λa ha=>?_
 have hl:=h.length_eq
 rw[b5] at hl
 have:=N9.mp ha
 rw[NN (OI.mpr (h.mem_iff.mpr (aV.mpr ⟨by omega,by omega⟩)))]
def yJ (r:List Int):gC r 0=List.replicate r.length 0:=by
 unfold gC
 refine Qe (by simp) λi h1 h2=>by simp
def xq {n:Nat}{r:List Int}(h:r.Perm (dW n)){k:Nat}{x:Int}(hk:r[k]? =some x):(gC r k).set x.toNat (k:Int)=gC r (k + 1):=by
 have hl:=h.length_eq
 rw[b5] at hl
 have hx:=aV.mp (h.mem_iff.mp (N6 hk))
 have nd:r.Nodup:=h.nodup_iff.mpr (dE n)
 obtain⟨hkl,hke⟩:=N0.mp hk
 have hix:r.idxOf x=k:=by rw[<-hke];exact nd.idxOf_getElem k hkl
 unfold gC
 refine Qe (by simp) λi h1 h2=>?_
 have hi:i < r.length:=by simpa using h2
 rw[List.getElem_set]
 simp only[List.getElem_map,QA]
 by_cases e:x.toNat=i
 ·rw[NN e]
  have ex:(i:Int)=x:=by omega
  rw[ex,hix,NN (by omega)]
 ·rw[NV e]
  have:r.idxOf (i:Int)≠k:=λq=>by
   have hm:(i:Int)∈r:=h.mem_iff.mpr (aV.mpr ⟨by omega,by omega⟩)
   have h3:=PR (OI.mpr hm)
   simp only[q] at h3
   rw[hke] at h3
   omega
  by_cases z:r.idxOf (i:Int) < k
  ·rw[NN z,NN (by omega)]
  ·rw[NV z,NV (by omega)]
def CC {n:Nat}{r:List Int}(h:r.Perm (dW n)){a:Int}(ha:0<=a/\a < n):ik (BQ r) a=some ((r.idxOf a:Nat):Int):=by
 have hl:=h.length_eq
 rw[b5] at hl
 have e:(a.toNat:Int)=a:=by omega
 have:=ko (xs:=BQ r) (j:=a.toNat) (v:=((r.idxOf a:Nat):Int)) (by
  unfold BQ
  rw[NW,Pc (by omega)]
  simp only[Option.map_some,e])
 rw[e] at this
 exact this
def MT:List D->FR:=ba 4 1 nk
def MA {n:Nat}{r:List Int}(h100:n<=100)(h:r.Perm (dW n)):MT [tupI r]=.ok (.list ((BQ r).map int)) true:=by
 have hl:=h.length_eq
 rw[b5] at hl
 show fin (nk [.fz (tupI r),.no,.no,.no] 0)=_
 unfold nk
 rw[au (env':=[.fz (tupI r),.ow (.list ((gC r 0).map int)),.no,.no]) (β':=0) ?a]
 case a=>
  have e:f2 (bD (aa (cst (.int 0)) ag)) (f1 (gv 0) cc) pA (vl [.fz (tupI r),.no,.no,.no]) 0=.ok (.list ((gC r 0).map int)) 0:=by
   refine az (lp (ac (ck _) an)) (DM (ds:=r.map int) rfl) ?_
   rw[NT,yJ,List.map_replicate]
   simp only[pA]
   rw[NN ?q]
   ·congr 2
    rw[Oj]
    induction r.length with
    |zero=>rfl
    |succ m ih=>first |rw[OH,OH,Pl,ih];rfl | (simp[OH] at ih ⊢;try exact ih)
   case q=>first | (constructor <;> first |omega | (show _<=_;simp;try omega)) | (rw[Ot];simp;omega)
  rw[fG,e];rfl
 have ee:Dd (gv 0) (vl [.fz (tupI r),.ow (.list ((gC r 0).map int)),.no,.no]) 0=.ok (dz (r.map int)) 0:=rfl
 obtain⟨env',β',ef,s,t,rfl,rfl⟩:=c6 (t:=.two 2 3) (m:=nz 1 [2] [] (gv 2) (gv 3)) (ds:=dz (r.map int)) (k:=0)
  (λk env β=>∃s t:Sl,env= [.fz (tupI r),.ow (.list ((gC r k).map int)),s,t]/\β=0)
  (env:=[.fz (tupI r),.ow (.list ((gC r 0).map int)),.no,.no]) (β:=0) ⟨.no,.no,rfl,rfl⟩ (by
   rintro k d env β hk ⟨s,t,rfl,rfl⟩
   unfold dz at hk
   rw[Qs,NW] at hk
   cases hx:r[k]? with
   |none=>rw[hx] at hk;cases hk
   |some x=>
    rw[hx] at hk
    cases hk
    have hxm:=aV.mp (h.mem_iff.mp (N6 hx))
    refine⟨[.fz (tupI r),.ow (.list ((gC r (0 + k)).map int)),.fz (.int k),.fz (.int x)],rfl,?_⟩
    rw[OD]
    refine⟨[.fz (tupI r),.ow (.list ((gC r (k + 1)).map int)),.fz (.int k),.fz (.int x)],0,?_,_,_,rfl,rfl⟩
    rw[qy (ds:=(gC r k).map int) (d:=.int k) (k:=x) (n:=x.toNat) (β1:=0) (β2:=0) rfl (by rfl) rfl (by rfl) ?b]
    ·rw[<-xq h hx,List.map_set];rfl
    case b=>
     unfold pQ
     rw[NN hxm.1,NN (by rw[NT];unfold gC;simp;omega)])
 have hle:(dz (r.map int)).length=r.length:=by unfold dz;simp
 rw[OD,hle,Av h] at ef
 rw[au (env':=[.fz (tupI r),.ow (.list ((BQ r).map int)),s,t]) (β':=0) (by
  rw[c5 (env:=[.fz (tupI r),.ow (.list ((gC r 0).map int)),.no,.no]) ee]
  exact ef)]
 rfl
def yn (l:List Pr)(r:List Int):Bool:=l.all λp=>decide (r.idxOf p.1 < r.idxOf p.2)
def Row (n:Nat)(l:List Pr)(r:List Int):Prop:=r.Perm (dW n)/\yn l r=true
noncomputable def Bh (n:Nat)(l:List Pr)(d:D):Bool:=@decide (∃r:List Int,d=tupI r/\Row n l r) (Classical.propDecidable _)
def J5 {n:Nat}{l:List Pr}{d:D}(h:Bh n l d=true):∃r:List Int,d=tupI r/\Row n l r:=@OT _ (Classical.propDecidable _) h
def zk {n:Nat}{l:List Pr}{r:List Int}(h:Row n l r):Bh n l (tupI r)=true:=@NS _ (Classical.propDecidable _) ⟨r,rfl,h⟩
def GU {n:Nat}{l:List Pr}{d:D}(h:∀r:List Int,d=tupI r->¬Row n l r):Bh n l d=false:=@NZ _ (Classical.propDecidable _) λ⟨r,e,p⟩=>h r e p
noncomputable def MP:List D->FR:=ba 3 2 (gu zt MT)
def JE {n:Nat}{r:List Int}(h:r.Perm (dW n)){a b:Int}(ha:0<=a/\a < n)(hb:0<=b/\b < n){fp fa fb:VF D}{vs:List Nv}{β:Int}(hp:fp vs β=.ok (.list ((BQ r).map int)) β)(h1:fa vs β=.ok (.int a) β)(h2:fb vs β=.ok (.int b) β) :
  f2 (f2 fp fa bo) (f2 fp fb bo) zX vs β=.ok (.bool (decide (r.idxOf a < r.idxOf b))) β:=by
 refine az (az hp h1 (show ik ((BQ r).map int) a=_ by rw[cT,CC h ha];rfl)) (az hp h2 (show ik ((BQ r).map int) b=_ by rw[cT,CC h hb];rfl)) ?_
 show some (PyData.bool (decide (((r.idxOf a:Nat):Int) < ((r.idxOf b:Nat):Int))))=_
 congr 2
 rw[Ox,N2,N2]
 omega
theorem M5 {n:Nat}{l:List Pr}{d:D}(O:OM.Ord n l)(h:Ge d):MP [d,aB n l]=.ok (.bool (Bh n l d)) false:=by
 have h8:=O.hi
 show fin (gu zt MT [.fz d,.fz (aB n l),.no] 0)=_
 unfold gu
 have t:j3 (ao zt (aa (gv 0) (aa (f2 (gv 1) (cst (.int 0)) bo) ag))) (vl [.fz d,.fz (aB n l),.no]) 0=.ok (pZ n d) 0:=kP (ax (ds:=[d,.int n]) (ac rfl (ac (Mc (n:=n) (l:=l) rfl) an)) (Hu (by omega) h))
 cases q:pZ n d with
 |false=>
  rw[q] at t
  rw[gx (d:=.bool false) (b:=false) (β':=0) (by rw[jq (fE t)];rfl),GU]
  ·rfl
  ·rintro r rfl hr
   rw[xg hr.1] at q;cases q
 |true=>
  rw[q] at t
  obtain⟨r,rfl,pm⟩:=Ht q
  rw[au (env':=[.fz (tupI r),.fz (aB n l),.no]) (β':=0) (by rw[fK (fE t)];rfl)]
  rw[au (env':=[.fz (tupI r),.fz (aB n l),.fz (.list ((BQ r).map int))]) (β':=0) (by rw[b4,ax (ds:=[tupI r]) (β1:=0) rfl (MA (by omega) pm)];rfl)]
  have ec:aN 2 [2] (.two 0 1) (bG (f2 (gv 1) (cst (.int 1)) bo)) kU (f2 (f2 (gv 2) (gv 0) bo) (f2 (gv 2) (gv 1) bo) zX) (vl [.fz (tupI r),.fz (aB n l),.fz (.list ((BQ r).map int))]) 0=.ok (.list (l.map λp=>PyData.bool (decide (r.idxOf p.1 < r.idxOf p.2)))) 0:=by
   refine cR (l:=l) (e:=aw) (λp=>PyData.bool (decide (r.idxOf p.1 < r.idxOf p.2))) rfl (by have:=tP O;omega) λp hp=>⟨_,rfl,?_⟩
   have hw:=O.wn p hp
   exact JE pm hw.1 hw.2 rfl rfl rfl
  rw[cq,Hx (f:=λp=>decide (r.idxOf p.1 < r.idxOf p.2)) ec]
  show FR.ok (.bool (yn l r)) false=_
  cases qf:yn l r with
  |true=>rw[zk ⟨pm,qf⟩]
  |false=>
   rw[GU]
   rintro r' e hr
   have e:=wM e
   subst e
   rw[hr.2] at qf;cases qf
def Gt (d:D):Prop:=dP d=false/\∀ds,d=.list ds->ds.length<=100/\∀e,e∈ds->Ge e
theorem all_rows {n:Nat}{l:List Pr}:∀{ds:List D},ds.all (Bh n l)=true->∃rs:List (List Int),ds=rs.map tupI/\∀r,r∈rs->Row n l r
 | [],_=>⟨[],rfl,λr hr=>by cases hr⟩
 |d :: ds,h=>by
  rw[all_cons,N4] at h
  obtain⟨r,rfl,hr⟩:=J5 h.1
  obtain⟨rs,rfl,hrs⟩:=all_rows h.2
  refine⟨r :: rs,rfl,λx hx=>?_⟩
  rcases NO.mp hx with rfl |hx
  ·exact hr
  ·exact hrs x hx
theorem any_ints (a:Int):∀s:List Int,((s.map int).any λe=>PyData.eqv e (.int a))=decide (a∈s)
 | []=>rfl
 |b :: s=>by
  rw[OE,P0,any_ints a s]
  show ((b == a) || _)=_
  rw[Ox]
  simp only[OY,beq_iff_eq,N2,NO]
  exact⟨λh=>h.imp Eq.symm id,λh=>h.imp Eq.symm id⟩
def Bw (s:List Int):(s.map int).all SeqAt.shaped=true:=by
 rw[Oq]
 intro d hd
 obtain⟨p,_,rfl⟩:=NY.mp hd
 rfl
def AG (l:List Pr)(r:List Int)(x:Int):List Int:=(l.filter λp=>decide (p.2=x) && !decide (p.1∈r)).map (·.1)
def jl {l:List Pr}{r:List Int}{x a:Int}:a∈AG l r x↔(a,x)∈l/\a∉r:=by
 unfold AG
 rw[NY]
 constructor
 ·rintro⟨p,hp,rfl⟩
  have:=NX.mp hp
  simp only[N4,N2,Pn,O7] at this
  obtain⟨pa,pb⟩:=p
  obtain⟨h1,h2,h3⟩:=this
  simp only at h2 h3
  subst h2
  exact⟨h1,h3⟩
 ·rintro⟨h1,h2⟩
  exact⟨(a,x),NX.mpr ⟨h1,by simp[h2]⟩,rfl⟩
def Bv {n:Nat}{l:List Pr}(O:OM.Ord n l)(r:List Int)(x:Int):(AG l r x).Nodup:=by
 unfold AG
 rw[P4,O2]
 refine Pf (λ{a b} ha hb h e=>h ?_) (P4.mp ((OM.jX O.ris).filter _))
 have h1:=(NX.mp ha).2
 have h2:=(NX.mp hb).2
 simp only[N4,N2] at h1 h2
 exact Prod.ext e (h1.1.trans h2.1.symm)
theorem least {n:Nat}{l:List Pr}(O:OM.Ord n l)(r:List Int):∀(k:Nat) (x:Int),(0<=x/\x < n)->x∉r->(AG l r x).length<=k->∃y:Int,(0<=y/\y < n)/\y∉r/\AG l r y= []
 | 0,x,hx,hr,hk=>⟨x,hx,hr,Qf.mp (by omega)⟩
 |k + 1,x,hx,hr,hk=>by
  by_cases he:AG l r x= []
  ·exact⟨x,hx,hr,he⟩
  ·obtain⟨a,ha⟩:=List.exists_mem_of_ne_nil _ he
   obtain⟨h1,h2⟩:=jl.mp ha
   refine least O r k a (O.wn _ h1).1 h2 ?_
   have nd:(a :: AG l r a).Nodup:=Om.mpr ⟨λq=>O.irr a (jl.mp q).1,Bv O r a⟩
   have:=L2.ST.bL nd (m:=AG l r x) λy hy=>by
    rcases NO.mp hy with rfl |hy
    ·exact ha
    ·obtain⟨q1,q2⟩:=jl.mp hy
     exact jl.mpr ⟨O.tr _ _ _ q1 h1,q2⟩
   rw[N5] at this
   omega
structure rj (n:Nat)(l:List Pr)(r:List Int):Prop where
 nd:r.Nodup
 inn:∀x,x∈r->0<=x/\x < (n:Int)
 fit:∀p,p∈l->p.2∈r->p.1∈r/\r.idxOf p.1 < r.idxOf p.2
def rj.len {n:Nat}{l:List Pr}{r:List Int}(B:rj n l r):r.length<=n:=by
 have:=L2.ST.bL B.nd (m:=dW n) λx hx=>aV.mpr (B.inn x hx)
 rwa [b5] at this
def rj.row {n:Nat}{l:List Pr}{r:List Int}(O:OM.Ord n l)(B:rj n l r)(h:n<=r.length):Row n l r:=by
 have pm:=qA (Nat.le_antisymm B.len h) B.inn B.nd
 refine⟨pm,Oq.mpr λp hp=>NS ?_⟩
 exact (B.fit p hp (pm.mem_iff.mpr (aV.mpr (O.wn p hp).2))).2
def dO (l:List Pr)(r:List Int)(x:Int):Bool:= !decide (x∈r) && decide (AG l r x= [])
def rj.more {n:Nat}{l:List Pr}{r:List Int}{x:Int}(B:rj n l r)(hx:0<=x/\x < (n:Int))(hf:dO l r x=true):rj n l (r ++ [x]):=by
 unfold dO at hf
 rw[N4,Pn,O7,N2] at hf
 obtain⟨h1,h2⟩:=hf
 refine⟨?_,λy hy=>?_,λp hp hm=>?_⟩
 ·rw[Qp]
  refine⟨B.nd,Om.mpr ⟨by simp,P9⟩,λa ha b hb=>?_⟩
  rw[Oe] at hb
  subst hb
  exact λq=>h1 (q▸ha)
 ·rcases Ob.mp hy with hy |hy
  ·exact B.inn y hy
  ·rw[Oe] at hy;subst hy;exact hx
 ·rcases Ob.mp hm with hm |hm
  ·obtain⟨q1,q2⟩:=B.fit p hp hm
   refine⟨OV _ q1,?_⟩
   rw[Po,Po,NN q1,NN hm]
   exact q2
  ·rw[Oe] at hm
   have hp1:p.1∈r:=by
    by_cases z:p.1∈r
    ·exact z
    ·have:p.1∈AG l r x:=jl.mpr ⟨by rw[<-hm];exact hp,z⟩
     rw[h2] at this;cases this
   refine⟨OV _ hp1,?_⟩
   rw[Po,Po,NN hp1,NV (by rw[hm];exact h1)]
   have:=OI.mpr hp1
   omega
def rj.free {n:Nat}{l:List Pr}{r:List Int}(O:OM.Ord n l)(B:rj n l r)(h:r.length < n):(dW n).filter (dO l r)≠ []:=by
 have:∃x,x∈dW n/\x∉r:=by
  apply Classical.byContradiction
  intro z
  have:=L2.ST.bL (dE n) (m:=r) λx hx=>Classical.byContradiction λq=>z ⟨x,hx,q⟩
  rw[b5] at this
  omega
 obtain⟨x,hx,hr⟩:=this
 obtain⟨y,hy,hyr,hp⟩:=least O r _ x (aV.mp hx) hr (NQ _)
 intro q
 have:y∈(dW n).filter (dO l r):=NX.mpr ⟨aV.mpr hy,by unfold dO;simp[hyr,hp]⟩
 rw[q] at this
 cases this
def a9 (l:List Pr)(r:List Int)(i:Nat):List Int:=(dW i).filter (dO l r)
def DO (i:Nat):dW (i + 1)=dW i ++ [(i:Int)]:=by unfold dW;rw[List.range_succ,Ou];rfl
def sk (l:List Pr)(r:List Int)(i:Nat):a9 l r (i + 1)=a9 l r i ++ if dO l r (i:Int)=true then [(i:Int)] else []:=by
 unfold a9
 rw[DO,List.filter_append]
 congr 1
 by_cases h:dO l r (i:Int)=true
 ·rw[NN h];simp[h]
 ·rw[NV h];simp[h]
def jY (l:List Pr)(r:List Int)(i:Nat):(a9 l r i).length<=i:=by
 have:(a9 l r i).length<=(dW i).length:=O4 _ _
 rwa [b5] at this
end RM
namespace RM
open PySem L2 PyProof.Rows
def mk (f:Nat->Bool):Nat->Nat
 | 0=>0
 |n + 1=>mk f n ||| if f n=true then 2 ^ n else 0
theorem cW (f:Nat->Bool):∀(n i:Nat),(mk f n).testBit i=(decide (i < n) && f i)
 | 0,i=>by simp[mk]
 |n + 1,i=>by
  unfold mk
  rw[Nat.testBit_or,cW f n i]
  by_cases h:f n=true
  ·rw[NN h,Nat.testBit_two_pow]
   by_cases e:n=i
   ·subst e;simp[h]
   ·have e2:decide (i < n)=decide (i < n + 1):=by
     rw[O1];omega
    simp[e,e2]
  ·rw[NV h]
   by_cases e:i=n
   ·subst e;simp[h]
   ·have e2:decide (i < n)=decide (i < n + 1):=by
     rw[O1];omega
    simp[e2]
def mk_eq {f g:Nat->Bool}{n:Nat}:mk f n=mk g n↔∀i,i < n->f i=g i:=by
 constructor
 ·intro h i hi
  have:=congrArg (λx=>x.testBit i) h
  simp only[cW,NS hi,Bool.true_and] at this
  exact this
 ·intro h
  apply Pj
  intro i
  rw[cW,cW]
  by_cases hi:i < n
  ·rw[h i hi]
  ·rw[NZ hi];simp
def eO (f:Nat->Bool)(t:Nat):Nat->Bool:=λi=>f i || decide (i=t)
def GJ {f:Nat->Bool}{n t:Nat}(h:t < n):mk f n ||| 2 ^ t=mk (eO f t) n:=by
 apply Pj
 intro i
 rw[Nat.testBit_or,cW,cW,Nat.testBit_two_pow]
 unfold eO
 by_cases e:t=i
 ·subst e;simp[h]
 ·have e':¬i=t:=λq=>e q.symm
  simp[e,e']
def HB {f g:Nat->Bool}{n:Nat}:(mk f n &&& mk g n=mk g n)↔∀i,i < n->g i=true->f i=true:=by
 have e:mk f n &&& mk g n=mk (λi=>f i && g i) n:=by
  apply Pj
  intro i
  rw[Nat.testBit_and,cW,cW,cW]
  by_cases h:i < n
  ·simp[h]
  ·simp[h]
 rw[e,mk_eq]
 constructor
 ·intro h i hi hg
  have:=h i hi
  rw[hg,Bool.and_true] at this
  exact this
 ·intro h i hi
  cases hg:g i with
  |false=>simp
  |true=>rw[h i hi hg];rfl
def so (a b:Nat):Builtin.bitOr (a:Int) (b:Int)=((a ||| b:Nat):Int):=by
 have h1:¬(0<=Builtin.bitNot (a:Int)):=by show ¬(0<= -(a:Int) - 1);omega
 have h2:¬(0<=Builtin.bitNot (b:Int)):=by show ¬(0<= -(b:Int) - 1);omega
 show Builtin.bitNot (Builtin.bitAnd (Builtin.bitNot a) (Builtin.bitNot b))=_
 rw[bitAnd_nn h1 h2]
 have e1:Builtin.bitNot (Builtin.bitNot (a:Int))=a:=by show -(-(a:Int) - 1) - 1=a;omega
 have e2:Builtin.bitNot (Builtin.bitNot (b:Int))=b:=by show -(-(b:Int) - 1) - 1=b;omega
 rw[e1,e2]
 show -(-((((a:Int).toNat ||| (b:Int).toNat:Nat):Int)) - 1) - 1=_
 rw[Oj,Oj];omega
def xF (a b:Nat):Builtin.bitAnd (a:Int) (b:Int)=((a &&& b:Nat):Int):=by
 rw[bitAnd_pp (by omega) (by omega),Oj,Oj]
def mI (f:Nat->Bool)(n:Nat):D:=.int ((mk f n:Nat):Int)
def Dy:∀t:Nat,t < 8->yh (.int 1) (.int (t:Int))=some (.int ((2 ^ t:Nat):Int)):=by
 intro t ht
 have:t=0\/t=1\/t=2\/t=3\/t=4\/t=5\/t=6\/t=7:=by omega
 rcases this with rfl |rfl |rfl |rfl |rfl |rfl |rfl |rfl <;> rfl
def mh:List D->FR:=ba 2 2 hW
def vT {f:Nat->Bool}{n t:Nat}(h8:n<=8)(h:t < n):mh [mI f n,.int (t:Int)]=.ok (mI (eO f t) n) false:=by
 show fin (hW [.fz (mI f n),.fz (.int t)] 0)=_
 unfold hW
 rw[cq,az (x:=mI f n) (y:=.int ((2 ^ t:Nat):Int)) (d:=mI (eO f t) n) (β1:=0) (β2:=0) rfl (az (x:=.int 1) (y:=.int t) rfl rfl (Dy t (by omega))) ?a]
 ·rfl
 case a=>
  show some (int (Builtin.bitOr _ _))=_
  rw[so,GJ h];rfl
def bP (n:Nat)(M:Nat->Nat->Bool):D:=.list ((List.range n).map λb=>mI (M b) n)
def bu (l:List Pr)(b a:Nat):Bool:=decide ((((a:Nat):Int),((b:Nat):Int))∈l)
def Ds {n b:Nat}{M:Nat->Nat->Bool}(h:b < n):ik ((List.range n).map λb=>mI (M b) n) (b:Int)=some (mI (M b) n):=ko (by rw[NW,Pc h];rfl)
def GO:List D->FR:=ba 4 1 (gr mh)
def orM (M:Nat->Nat->Bool)(p:Pr)(b a:Nat):Bool:=M b a || (decide ((b:Int)=p.2) && decide ((a:Int)=p.1))
def Jh {n:Nat}{M:Nat->Nat->Bool}{p:Pr}(h1:0<=p.1/\p.1 < n)(h2:0<=p.2/\p.2 < n):((List.range n).map λb=>mI (M b) n).set p.2.toNat (mI (eO (M p.2.toNat) p.1.toNat) n)=(List.range n).map λb=>mI (orM M p b) n:=by
 refine Qe (by simp) λi h3 h4=>?_
 rw[List.getElem_set]
 simp only[List.getElem_map,QA]
 unfold mI
 by_cases e:p.2.toNat=i
 ·rw[NN e]
  congr 2
  rw[mk_eq]
  intro j hj
  unfold eO orM
  rw[e]
  have e1:((i:Nat):Int)=p.2:=by omega
  rw[NS e1,Bool.true_and]
  congr 1
  rw[O1];omega
 ·rw[NV e]
  congr 2
  rw[mk_eq]
  intro j hj
  unfold orM
  rw[NZ (by omega:¬((i:Nat):Int)=p.2)];simp
theorem Aa {n:Nat}{l:List Pr}(h8:n<=8):∀(ps:List Pr) (M:Nat->Nat->Bool) (s2 s3:Sl),OM.Wn n ps->∃M' s2' s3',kY (.two 2 3) (nz 1 (([] ++ []) ++ ([2] ++ [])) [] (ao mh (aa (f2 (gv 1) (gv 3) bo) (aa (gv 2) ag))) (gv 3)) (ps.map aw) [.fz (aB n l),.ow (bP n M),s2,s3] 0=.nx [.fz (aB n l),.ow (bP n M'),s2',s3'] 0/\∀b a,b < n->a < n->M' b a=(M b a || bu ps b a)
 | [],M,s2,s3,_=>⟨M,s2,s3,rfl,λb a _ _=>by unfold bu;simp⟩
 |p :: ps,M,s2,s3,wn=>by
  have hp:=wn p (NR ..)
  obtain⟨M',s2',s3',e,hM⟩:=Aa (l:=l) h8 ps (orM M p) (.fz (.int p.1)) (.fz (.int p.2)) λq hq=>wn q (NP _ hq)
  refine⟨M',s2',s3',?_,λb a hb ha=>?_⟩
  ·rw[OE]
   unfold kY
   rw[show eT (.two 2 3) (aw p) [.fz (aB n l),.ow (bP n M),s2,s3]=some [.fz (aB n l),.ow (bP n M),.fz (.int p.1),.fz (.int p.2)] from rfl]
   dsimp only
   have e1:(p.2.toNat:Int)=p.2:=by omega
   have e2:(p.1.toNat:Int)=p.1:=by omega
   have ew:ao mh (aa (f2 (gv 1) (gv 3) bo) (aa (gv 2) ag)) (vl [.fz (aB n l),.ow (bP n M),.fz (.int p.1),.fz (.int p.2)]) 0=.ok (mI (eO (M p.2.toNat) p.1.toNat) n) 0:=by
    refine ax (b:=false) (ds:=[mI (M p.2.toNat) n,.int (p.1.toNat:Int)]) (ac (az (x:=bP n M) (y:=.int p.2) rfl rfl ?_) (ac ?_ an)) (vT h8 (by omega))
    ·have:=Ds (n:=n) (M:=M) (b:=p.2.toNat) (by omega)
     rw[e1] at this
     exact this
    ·show R.ok (int p.1) 0=_
     rw[e2]
   rw[qy (ds:=(List.range n).map λb=>mI (M b) n) (d:=mI (eO (M p.2.toNat) p.1.toNat) n) (k:=p.2) (n:=p.2.toNat) (β1:=0) (β2:=0) ew (by rfl) rfl (by rfl) (by
    unfold pQ
    rw[NN hp.2.1,NN (by simp;omega)]),Jh hp.1 hp.2]
   dsimp only
   exact e
  ·rw[hM b a hb ha]
   unfold orM bu
   obtain⟨p1,p2⟩:=p
   rw[Bool.or_assoc]
   congr 1
   rw[Ox]
   simp only[OY,N4,N2,NO,Prod.mk.injEq]
   constructor
   ·rintro (⟨h1,h2⟩ |h)
    ·exact .inl ⟨h2,h1⟩
    ·exact .inr h
   ·rintro (⟨h1,h2⟩ |h)
    ·exact .inl ⟨h2,h1⟩
    ·exact .inr h
def AS {n:Nat}{M N:Nat->Nat->Bool}(h:∀b a,b < n->a < n->M b a=N b a):bP n M=bP n N:=by
 unfold bP
 congr 1
 refine OR λb hb=>?_
 unfold mI
 congr 2
 rw[mk_eq]
 exact λa ha=>h b a (N9.mp hb) ha
def Hv {n:Nat}{l:List Pr}(O:OM.Ord n l):GO [aB n l]=.ok (bP n (bu l)) true:=by
 have h8:=O.hi
 show fin (gr mh [.fz (aB n l),.no,.no,.no] 0)=_
 unfold gr
 rw[au (env':=[.fz (aB n l),.ow (bP n λ_ _=>false),.no,.no]) (β':=0) ?a]
 case a=>
  have e:f2 (bD (aa (cst (.int 0)) ag)) (f2 (gv 0) (cst (.int 0)) bo) pA (vl [.fz (aB n l),.no,.no,.no]) 0=.ok (bP n λ_ _=>false) 0:=by
   refine az (lp (ac (ck _) an)) (Mc (n:=n) (l:=l) rfl) ?_
   simp only[pA]
   rw[NN ⟨by omega,by omega,by rw[Ot];simp;omega⟩]
   unfold bP
   congr 2
   rw[Oj]
   have hz:∀m,mk (λ_=>false) m=0:=λm=>by
    induction m with
    |zero=>rfl
    |succ m ih=>unfold mk;rw[ih];simp
   unfold mI
   simp only[hz]
   have:∀m:Nat,(List.replicate m [int 0]).flatten=List.replicate m (int 0):=λm=>by
    induction m with
    |zero=>rfl
    |succ m ih=>rw[OH,OH,Pl,ih];rfl
   rw[this]
   refine Qe (by simp) λi h1 h2=>by simp
  rw[fG,e];rfl
 obtain⟨M',s2,s3,e,hM⟩:=Aa (l:=l) h8 l (λ_ _=>false) .no .no O.wn
 have hm:bP n M'=bP n (bu l):=AS λb a hb ha=>by rw[hM b a hb ha];rfl
 rw[hm] at e
 rw[au (env':=[.fz (aB n l),.ow (bP n (bu l)),s2,s3]) (β':=0) (by
  rw[c5 (env:=[.fz (aB n l),.ow (bP n λ_ _=>false),.no,.no]) (ds:=l.map aw) (β1:=0) (by unfold bG;rw[LL (n:=n) (l:=l) rfl];rfl)]
  exact e)]
 rfl
end RM
namespace RM
open PySem L2
def bN (r:List Int)(i:Nat):Bool:=decide ((i:Int)∈r)
def BM:List D->FR:=ba 5 2 (gy mh)
def Dj {n:Nat}{l:List Pr}(O:OM.Ord n l){r:List Int}{t:Nat}(ht:t < n):(!decide (mk (eO (bN r) t) n=mk (bN r) n) && decide (mk (bN r) n &&& mk (bu l t) n=mk (bu l t) n))=dO l r t:=by
 unfold dO
 congr 1
 ·congr 1
  rw[O1,mk_eq]
  constructor
  ·intro h
   have:=h t ht
   unfold eO bN at this
   simp at this
   exact this
  ·intro h i hi
   unfold eO bN
   by_cases e:i=t
   ·subst e;simp[h]
   ·simp[e]
 ·rw[O1,HB]
  constructor
  ·intro h
   rw[List.eq_nil_iff_forall_not_mem]
   intro a ha
   obtain⟨h1,h2⟩:=jl.mp ha
   have hw:=(O.wn _ h1).1
   simp only at hw
   have e:((a.toNat:Nat):Int)=a:=by omega
   have:=h a.toNat (by omega) (by unfold bu;rw[e];exact NS h1)
   unfold bN at this
   rw[e] at this
   exact h2 (OT this)
  ·intro h i hi hg
   unfold bN
   refine NS (Classical.byContradiction λq=>?_)
   have:(i:Int)∈AG l r t:=jl.mpr ⟨OT hg,q⟩
   rw[h] at this;cases this
def EL {n:Nat}{l:List Pr}(O:OM.Ord n l)(r:List Int):∃s3 s4,kY (.two 3 4) (jF ((([1] ++ ([3] ++ [])) ++ []) ++ (([] ++ []) ++ [])) (yd (cI (f2 (ao mh (aa (gv 1) (aa (gv 3) ag))) (gv 1) (cp true))) (cI (f2 (f2 (gv 1) (gv 4) DB) (gv 4) (cp false))))
  (jA 2 [3] (gv 3)) kZ) (dz ((List.range n).map λb=>mI (bu l b) n)) [.fz (bP n (bu l)),.fz (mI (bN r) n),.ow (.list []),.no,.no] 0=.nx [.fz (bP n (bu l)),.fz (mI (bN r) n),.ow (.list ((a9 l r n).map int)),s3,s4] 0:=by
 have h8:=O.hi
 obtain⟨env',β',ef,s3,s4,rfl,rfl⟩:=c6 (t:=.two 3 4) (m:=jF ((([1] ++ ([3] ++ [])) ++ []) ++ (([] ++ []) ++ [])) (yd (cI (f2 (ao mh (aa (gv 1) (aa (gv 3) ag))) (gv 1) (cp true))) (cI (f2 (f2 (gv 1) (gv 4) DB) (gv 4) (cp false))))
  (jA 2 [3] (gv 3)) kZ) (ds:=dz ((List.range n).map λb=>mI (bu l b) n)) (k:=0)
  (λk env b=>∃s3 s4,env= [.fz (bP n (bu l)),.fz (mI (bN r) n),.ow (.list ((a9 l r k).map int)),s3,s4]/\b=0)
  (env:=[.fz (bP n (bu l)),.fz (mI (bN r) n),.ow (.list []),.no,.no]) (β:=0) ⟨.no,.no,rfl,rfl⟩ (by
   rintro k d env b hk ⟨s3,s4,rfl,rfl⟩
   unfold dz at hk
   rw[Qs,NW] at hk
   have hkn:k < n:=by
    by_cases h:k < n
    ·exact h
    ·rw[Pd (by simp;omega)] at hk;cases hk
   rw[Pc hkn] at hk
   cases hk
   refine⟨[.fz (bP n (bu l)),.fz (mI (bN r) n),.ow (.list ((a9 l r (0 + k)).map int)),.fz (.int k),.fz (mI (bu l k) n)],rfl,?_⟩
   rw[OD]
   have et:yd (cI (f2 (ao mh (aa (gv 1) (aa (gv 3) ag))) (gv 1) (cp true))) (cI (f2 (f2 (gv 1) (gv 4) DB) (gv 4) (cp false))) (vl [.fz (bP n (bu l)),.fz (mI (bN r) n),.ow (.list ((a9 l r k).map int)),.fz (.int k),.fz (mI (bu l k) n)]) 0=.ok (dO l r k) 0:=by
    rw[<-Dj O hkn]
    refine Ci (bO _ _ _ _ (az (x:=mI (eO (bN r) k) n) (y:=mI (bN r) n) (ax (ds:=[mI (bN r) n,.int k]) rfl (vT h8 hkn)) rfl ?_)) (bO _ _ _ _ (az (x:=.int ((mk (bN r) n &&& mk (bu l k) n:Nat):Int)) (y:=mI (bu l k) n) (az (x:=mI (bN r) n) (y:=mI (bu l k) n) rfl rfl ?_) rfl ?_))
    ·unfold mI;rw[lP,NN rfl];congr 3;rw[O1];omega
    ·show some (int (Builtin.bitAnd _ _))=_
     rw[xF]
    ·unfold mI;rw[lP,NV Og];congr 2;rw[O1];omega
   cases c:dO l r (k:Int) with
   |true=>
    rw[c] at et
    refine⟨[.fz (bP n (bu l)),.fz (mI (bN r) n),.ow (.list ((a9 l r (k + 1)).map int)),.fz (.int k),.fz (mI (bu l k) n)],0,?_,_,_,rfl,rfl⟩
    rw[jq et]
    have hz:=jY l r k
    rw[show bp ((([1] ++ ([3] ++ [])) ++ []) ++ (([] ++ []) ++ [])) [.fz (bP n (bu l)),.fz (mI (bN r) n),.ow (.list ((a9 l r k).map int)),.fz (.int k),.fz (mI (bu l k) n)]= [.fz (bP n (bu l)),.fz (mI (bN r) n),.ow (.list ((a9 l r k).map int)),.fz (.int k),.fz (mI (bu l k) n)] from rfl]
    rw[j9 (i:=2) (ds:=(a9 l r k).map int) (d:=.int k) (β':=0) (by rfl) rfl (by rfl) (by rw[NT];omega),sk,NN c,Ou]
    rfl
   |false=>
    rw[c] at et
    refine⟨[.fz (bP n (bu l)),.fz (mI (bN r) n),.ow (.list ((a9 l r (k + 1)).map int)),.fz (.int k),.fz (mI (bu l k) n)],0,?_,_,_,rfl,rfl⟩
    rw[fK et,sk,c,show a9 l r k ++ (if false=true then [(k:Int)] else [])=a9 l r k by simp]
    rfl)
 have hle:(dz ((List.range n).map λb=>mI (bu l b) n)).length=n:=by unfold dz;simp
 rw[OD,hle] at ef
 exact⟨s3,s4,ef⟩
def II {n:Nat}{l:List Pr}(O:OM.Ord n l)(r:List Int):BM [bP n (bu l),mI (bN r) n]=.ok (.list ((a9 l r n).map int)) true:=by
 show fin (gy mh [.fz (bP n (bu l)),.fz (mI (bN r) n),.no,.no,.no] 0)=_
 unfold gy
 rw[au (env':=[.fz (bP n (bu l)),.fz (mI (bN r) n),.ow (.list []),.no,.no]) (β':=0) (by rw[fG,lp (ds:=[]) an];rfl)]
 obtain⟨s3,s4,e⟩:=EL O r
 rw[au (env':=[.fz (bP n (bu l)),.fz (mI (bN r) n),.ow (.list ((a9 l r n).map int)),s3,s4]) (β':=0) (by
  rw[c5 (env:=[.fz (bP n (bu l)),.fz (mI (bN r) n),.ow (.list []),.no,.no]) (ds:=dz ((List.range n).map λb=>mI (bu l b) n)) (β1:=0) rfl]
  exact e)]
 rfl
noncomputable def Kq:List D->FR:=ba 6 2 (i3 BM mh)
structure Ip (n:Nat)(l:List Pr)(late r:List Int):Prop where
 beg:rj n l r
 late:∀q x,(q ++ [x]) <+:r->x∈late->∀y:Int,(0<=y/\y < n)->dO l q y=true->y∈late
def vY (neg:Bool)(a:Int)(s:List Int):nZ neg (.int a) (.list (s.map int))=some (.bool (if neg then !decide (a∈s) else decide (a∈s))):=by
 unfold nZ
 simp only[kW,Bw,any_ints]
 rfl
def Ip.more {n:Nat}{l:List Pr}{late r:List Int}{x:Int}(R:Ip n l late r)(hx:0<=x/\x < (n:Int))(hf:dO l r x=true)(hl:x∈late->∀y:Int,(0<=y/\y < n)->dO l r y=true->y∈late):Ip n l late (r ++ [x]):=by
 refine⟨R.beg.more hx hf,λq z hp hz y hy hfy=>?_⟩
 rcases List.prefix_concat_iff.mp hp with e |hp
 ·have:=List.append_inj' e rfl
  obtain⟨rfl,e2⟩:=this
  cases e2
  exact hl hz y hy hfy
 ·exact R.late q z hp hz y hy hfy
def Cm (n:Nat):mI (bN []) n=.int 0:=by
 unfold mI
 congr 1
 have:mk (bN []) n=0:=by
  induction n with
  |zero=>rfl
  |succ m ih=>unfold mk;rw[ih];simp[bN]
 rw[this];rfl
def xu {n:Nat}{r:List Int}{x:Int}(h:0<=x/\x < n):mI (eO (bN r) x.toNat) n=mI (bN (r ++ [x])) n:=by
 unfold mI
 congr 2
 rw[mk_eq]
 intro i hi
 unfold eO bN
 rw[Ox]
 simp only[OY,N2,Ob,Oe]
 constructor
 ·rintro (h |h)
  ·exact .inl h
  ·exact .inr (by omega)
 ·rintro (h |h)
  ·exact .inl h
  ·exact .inr (by omega)
def Mn {n:Nat}{l:List Pr}{late:List Int}(O:OM.Ord n l)(hz:late.length<=100):∃r,Kq [bP n (bu l),.list (late.map int)]=.ok (tupI r) false/\Row n l r/\Ip n l late r:=by
 have h8:=O.hi
 show ∃r,fin (i3 BM mh [.fz (bP n (bu l)),.fz (.list (late.map int)),.no,.no,.no,.no] 0)=.ok (tupI r) false/\Row n l r/\Ip n l late r
 unfold i3
 rw[au (env':=[.fz (bP n (bu l)),.fz (.list (late.map int)),.ow (.list (([]:List Int).map int)),.no,.no,.no]) (β':=0) (by rw[fG,lp (ds:=[]) an];rfl)]
 rw[au (env':=[.fz (bP n (bu l)),.fz (.list (late.map int)),.ow (.list (([]:List Int).map int)),.fz (mI (bN []) n),.no,.no]) (β':=0) (by rw[b4,Cm];rfl)]
 obtain⟨env',β',ew,r,s4,s5,rfl,rfl,hr,R⟩:=gc (L:=[] ++ []) (t:=cI (f2 (f1 (gv 2) cc) (f1 (gv 0) cc) zX))
  (m:=aG (bg 4 ([0] ++ ([3] ++ [])) (ao BM (aa (gv 0) (aa (gv 3) ag))))
   (aG (bg 5 ([] ++ []) (aN 1 [1] (.nm 0) (bG (gv 4)) (cI (f2 (gv 0) (gv 1) (nZ true))) (gv 0)))
   (aG (jA 2 (([] ++ []) ++ []) (f2 (f2 (gv 5) (gv 4) iZ) (cst (.int 0)) bo))
   (bg 3 ([3] ++ (([] ++ []) ++ [])) (ao mh (aa (gv 3) (aa (f2 (gv 2) (f1 (cst (.int 1)) mF) bo) ag)))))))
  (λk env b=>∃r s4 s5,env= [.fz (bP n (bu l)),.fz (.list (late.map int)),.ow (.list (r.map int)),.fz (mI (bN r) n),s4,s5]/\b=0/\Ip n l late r/\k=n - r.length)
  (λenv b=>∃r s4 s5,env= [.fz (bP n (bu l)),.fz (.list (late.map int)),.ow (.list (r.map int)),.fz (mI (bN r) n),s4,s5]/\b=0/\Row n l r/\Ip n l late r)
  (n:=1000) (k:=n) (env:=[.fz (bP n (bu l)),.fz (.list (late.map int)),.ow (.list (([]:List Int).map int)),.fz (mI (bN []) n),.no,.no]) (β:=0) (by omega)
  ⟨[],.no,.no,rfl,rfl,⟨⟨P9,(λx hx=>by cases hx),(λp _ h=>by cases h)⟩,λq x hp=>by simp at hp⟩,by simp⟩ (by
   rintro k env b ⟨r,s4,s5,rfl,rfl,R,rfl⟩
   have hrl:=R.beg.len
   have et:cI (f2 (f1 (gv 2) cc) (f1 (gv 0) cc) zX) (vl [.fz (bP n (bu l)),.fz (.list (late.map int)),.ow (.list (r.map int)),.fz (mI (bN r) n),s4,s5]) 0=.ok (decide ((r.length:Int) < n)) 0:=by
    refine bO _ _ _ _ (az (x:=.int r.length) (y:=.int n) (β1:=0) ?_ ?_ rfl)
    ·rw[mG (ds:=r.map int) rfl,NT]
    ·rw[mG (ds:=(List.range n).map λb=>mI (bu l b) n) rfl,NT,OO]
   refine⟨_,_,et,?_⟩
   by_cases hlt:r.length < n
   ·refine .inr ⟨NS (by omega),?_⟩
    show ∃env2 β2 k',aG _ _ [.fz (bP n (bu l)),.fz (.list (late.map int)),.ow (.list (r.map int)),.fz (mI (bN r) n),s4,s5] 0=.nx env2 β2/\k' < n - r.length/\_
    rw[au (env':=[.fz (bP n (bu l)),.fz (.list (late.map int)),.ow (.list (r.map int)),.fz (mI (bN r) n),.fz (.list ((a9 l r n).map int)),s5]) (β':=0) (by rw[b4,ax (ds:=[bP n (bu l),mI (bN r) n]) (β1:=0) rfl (II O r)];rfl)]
    have ec:aN 1 [1] (.nm 0) (bG (gv 4)) (cI (f2 (gv 0) (gv 1) (nZ true))) (gv 0) (vl [.fz (bP n (bu l)),.fz (.list (late.map int)),.ow (.list (r.map int)),.fz (mI (bN r) n),.fz (.list ((a9 l r n).map int)),s5]) 0=.ok (.list (((a9 l r n).filter λx=> !decide (x∈late)).map int)) 0:=by
     refine cD (l:=a9 l r n) (e:=int) (λx=> !decide (x∈late)) int rfl (by have:=jY l r n;omega) λx hx=>⟨_,rfl,?_,λ_=>rfl⟩
     exact bO _ _ _ _ (az (x:=.int x) (y:=.list (late.map int)) rfl rfl (vY true x late))
    generalize hEE:((a9 l r n).filter λx=> !decide (x∈late))=EE at ec
    rw[au (env':=[.fz (bP n (bu l)),.fz (.list (late.map int)),.ow (.list (r.map int)),.fz (mI (bN r) n),.fz (.list ((a9 l r n).map int)),.fz (.list (EE.map int))]) (β':=0) (by rw[b4,ec];rfl)]
    have hne:a9 l r n≠ []:=R.beg.free O hlt
    have hEl:EE.length<=n:=by rw[<-hEE];exact OU (O4 _ _) (jY l r n)
    have hfl:=jY l r n
    obtain⟨x,L,hx⟩:∃x L,EE ++ a9 l r n=x :: L:=List.exists_cons_of_ne_nil (by simp[hne])
    have hxm:x∈a9 l r n:=by
     have:x∈EE ++ a9 l r n:=by rw[hx];exact NR ..
     rcases Ob.mp this with h |h
     ·rw[<-hEE] at h;exact (NX.mp h).1
     ·exact h
    obtain⟨hm1,hm2⟩:=NX.mp hxm
    have hxr:=aV.mp hm1
    have hlate:x∈late->∀y:Int,(0<=y/\y < n)->dO l r y=true->y∈late:=λhxl y hy hfy=>by
     apply Classical.byContradiction
     intro hn
     have hyE:y∈EE:=by rw[<-hEE];exact NX.mpr ⟨NX.mpr ⟨aV.mpr hy,hfy⟩,by simp[hn]⟩
     cases hE:EE with
     |nil=>rw[hE] at hyE;cases hyE
     |cons z Z=>
      rw[hE,List.cons_append] at hx
      have e1:=(List.cons.inj hx).1
      have:z∈EE:=by rw[hE];exact NR ..
      rw[<-hEE] at this
      have:=(NX.mp this).2
      rw[e1] at this
      simp[hxl] at this
    have R':=R.more hxr hm2 hlate
    rw[au (env':=[.fz (bP n (bu l)),.fz (.list (late.map int)),.ow (.list ((r ++ [x]).map int)),.fz (mI (bN r) n),.fz (.list ((a9 l r n).map int)),.fz (.list (EE.map int))]) (β':=0) ?bb]
    case bb=>
     have ei:f2 (f2 (gv 5) (gv 4) iZ) (cst (.int 0)) bo (vl [.fz (bP n (bu l)),.fz (.list (late.map int)),.ow (.list (r.map int)),.fz (mI (bN r) n),.fz (.list ((a9 l r n).map int)),.fz (.list (EE.map int))]) 0=.ok (.int x) 0:=by
      refine az (x:=.list ((EE ++ a9 l r n).map int)) (y:=.int 0) (az (x:=.list (EE.map int)) (y:=.list ((a9 l r n).map int)) rfl rfl ?_) rfl ?_
      ·rw[nH (by rw[NT,NT];omega),Ou]
      ·rw[hx];exact ko (xs:=.int x :: L.map int) (j:=0) rfl
     rw[j9 (i:=2) (ds:=r.map int) (d:=.int x) (β':=0) (by rfl) ei (by rfl) (by rw[NT];omega),Ou]
     rfl
    have e1:(x.toNat:Int)=x:=by omega
    have el:f2 (gv 2) (f1 (cst (.int 1)) mF) bo (vl [.fz (bP n (bu l)),.fz (.list (late.map int)),.ow (.list ((r ++ [x]).map int)),.fz (mI (bN r) n),.fz (.list ((a9 l r n).map int)),.fz (.list (EE.map int))]) 0=.ok (.int (x.toNat:Int)) 0:=by
     refine az (x:=.list ((r ++ [x]).map int)) (y:=.int (-1)) rfl rfl ?_
     show ik ((r ++ [x]).map int) (-1)=_
     rw[e1]
     unfold ik pQ
     rw[NV (by omega),NN (by simp;omega)]
     show ((r ++ [x]).map int)[((-1:Int) + ((((r ++ [x]).map int).length:Nat):Int)).toNat]? =_
     rw[show ((-1:Int) + ((((r ++ [x]).map int).length:Nat):Int)).toNat=r.length by simp;omega,Ou,Ol (by simp)]
     simp
    refine⟨[.fz (bP n (bu l)),.fz (.list (late.map int)),.ow (.list ((r ++ [x]).map int)),.fz (mI (bN (r ++ [x])) n),.fz (.list ((a9 l r n).map int)),.fz (.list (EE.map int))],0,n - (r ++ [x]).length,?_,by rw[Of,O3];omega,_,_,_,rfl,rfl,R',rfl⟩
    rw[b4,ax (ds:=[mI (bN r) n,.int (x.toNat:Int)]) (β1:=0) (ac rfl (ac el an)) (vT h8 (by omega)),xu hxr];rfl
   ·refine .inl ⟨NZ (by omega),r,s4,s5,rfl,rfl,R.beg.row O (by omega),R⟩)
 rw[au (env':=[.fz (bP n (bu l)),.fz (.list (late.map int)),.ow (.list (r.map int)),.fz (mI (bN r) n),s4,s5]) (β':=0) ew]
 exact⟨r,rfl,hr,R⟩
theorem wb:∀rs:List (List Int),PyData.canLayAll0 (rs.map tupI)=true
 | []=>rfl
 |r :: rs=>by
  show ((tupI r).canLay0 && PyData.canLayAll0 (rs.map tupI))=true
  rw[wb rs,show (tupI r).canLay0=true by unfold tupI;simp only[PyData.canLay0];exact lay_ints r];rfl
def zZ (r:List Int):(tupI r).depth=1:=by unfold tupI;simp only[PyData.depth];rw[p4]
theorem wH:∀rs:List (List Int),PyData.depthAll (rs.map tupI)<=1
 | []=>by show (0:Nat)<=1;omega
 |r :: rs=>by
  show max (tupI r).depth (PyData.depthAll (rs.map tupI))<=1
  have h1:=zZ r
  have h2:=wH rs
  omega
def o5 (rs:List (List Int)):SeqAt.shaped (.list (rs.map tupI))=true:=by
 unfold SeqAt.shaped
 have h1:(PyData.list (rs.map tupI)).canLay0=true:=by simp only[PyData.canLay0];exact wb rs
 have h2:(PyData.list (rs.map tupI)).depth<=64:=by simp only[PyData.depth];have:=wH rs;omega
 rw[h1,NS h2];rfl
def tK (r q:List Int):PyData.eqv (tupI r) (tupI q)=decide (r=q):=by
 unfold tupI
 simp only[PyData.eqv,qV]
theorem wz:∀l m:List (List Int),PyData.eqvAll (l.map tupI) (m.map tupI)=decide (l=m)
 | [],[]=>rfl
 | [],_ :: _=>rfl
 |_ :: _,[]=>rfl
 |p :: l,q :: m=>by
  show (PyData.eqv (tupI p) (tupI q) && PyData.eqvAll (l.map tupI) (m.map tupI))=_
  rw[tK,wz l m,Ox]
  simp
def qz (neg:Bool)(l m:List (List Int)):cp neg (.list (l.map tupI)) (.list (m.map tupI))=some (.bool (if neg then !decide (l=m) else decide (l=m))):=by
 unfold cp
 rw[o5,o5]
 simp only[PL,OP,PyData.eqv,wz]
def k6 (l:List Pr)(x y:Int):Bool:=decide (x=y) || decide ((x,y)∈l)
def fu {l:List Pr}{x y:Int}:k6 l x y=true↔x=y\/(x,y)∈l:=by unfold k6;simp
def uc {n:Nat}{l:List Pr}(O:OM.Ord n l){x y z:Int}(h:k6 l x y=true)(k:k6 l y z=true):k6 l x z=true:=by
 rw[fu] at *
 rcases h with rfl |h
 ·exact k
 ·rcases k with rfl |k
  ·exact .inr h
  ·exact .inr (O.tr _ _ _ h k)
def putL (n:Nat)(l:List Pr)(t:Pr):List Pr:=(OM.cN n).filter λp=>decide (p∈l) || (k6 l p.1 t.2 && k6 l t.1 p.2)
def lx {n:Nat}{l:List Pr}{t p:Pr}(h:(0<=p.1/\p.1 < n)/\(0<=p.2/\p.2 < n)):p∈putL n l t↔p∈l\/(k6 l p.1 t.2=true/\k6 l t.1 p.2=true):=by
 unfold putL
 rw[NX,OM.bH,OY,N4,N2]
 exact⟨λh=>h.2,λk=>⟨h,k⟩⟩
def oj {n:Nat}{l:List Pr}{t p:Pr}(h:p∈putL n l t):p∈l\/(k6 l p.1 t.2=true/\k6 l t.1 p.2=true):=by
 unfold putL at h
 have:=(NX.mp h).2
 rw[OY,N4,N2] at this
 exact this
def Gg {n:Nat}{l:List Pr}{t:Pr}(O:OM.Ord n l)(h:k6 l t.1 t.2=false):OM.Ord n (putL n l t):=by
 have hn:¬k6 l t.1 t.2=true:=by rw[h];exact Og
 refine⟨O.lo,O.hi,λp hp=>OM.bH.mp (NX.mp hp).1,OM.iO _ (OM.jO n),λa ha=>?_,λa b c hab hbc=>?_⟩
 ·rcases oj ha with q | ⟨q1,q2⟩
  ·exact O.irr a q
  ·exact hn (uc O q2 q1)
 ·have g1:=OM.bH.mp (NX.mp hab).1
  have g2:=OM.bH.mp (NX.mp hbc).1
  refine (lx (p:=(a,c)) ⟨g1.1,g2.2⟩).mpr ?_
  rcases oj hab with q | ⟨q1,q2⟩
  ·rcases oj hbc with r | ⟨r1,r2⟩
   ·exact .inl (O.tr _ _ _ q r)
   ·exact .inr ⟨uc O (fu.mpr (.inr q)) r1,r2⟩
  ·rcases oj hbc with r | ⟨r1,r2⟩
   ·exact .inr ⟨q1,uc O q2 (fu.mpr (.inr r))⟩
   ·exact .inr ⟨q1,r2⟩
def Gm {n:Nat}{l:List Pr}{t p:Pr}(O:OM.Ord n l)(h:p∈l):p∈putL n l t:=(lx (O.wn p h)).mpr (.inl h)
def ym {n:Nat}{l:List Pr}{t:Pr}(h:(0<=t.1/\t.1 < n)/\(0<=t.2/\t.2 < n)):(t.2,t.1)∈putL n l t:=(lx ⟨h.2,h.1⟩).mpr (.inr ⟨fu.mpr (.inl rfl),fu.mpr (.inl rfl)⟩)
def Jd:List D->FR:=ba 3 3 (kH mh)
def K8 {n:Nat}{l:List Pr}{a b:Int}(h8:n<=8)(ha:0<=a/\a < n)(hb:0<=b/\b < n):Jd [bP n (bu l),.int a,.int b]=.ok (.bool (decide ((a,b)∈l))) false:=by
 have ea:((a.toNat:Nat):Int)=a:=by omega
 have eb:((b.toNat:Nat):Int)=b:=by omega
 show fin (kH mh [.fz (bP n (bu l)),.fz (.int a),.fz (.int b)] 0)=_
 unfold kH
 have em:f2 (gv 0) (gv 2) bo (vl [.fz (bP n (bu l)),.fz (.int a),.fz (.int b)]) 0=.ok (mI (bu l b.toNat) n) 0:=by
  refine az (x:=bP n (bu l)) (y:=.int b) rfl rfl ?_
  have:=Ds (n:=n) (M:=bu l) (b:=b.toNat) (by omega)
  rw[eb] at this
  exact this
 rw[cq,az (x:=mI (eO (bu l b.toNat) a.toNat) n) (y:=mI (bu l b.toNat) n) (d:=.bool (decide ((a,b)∈l))) (β1:=0) (β2:=0) (ax (b:=false) (ds:=[mI (bu l b.toNat) n,.int (a.toNat:Int)]) (ac em (ac (by rw[ea];rfl) an)) (vT h8 (by omega))) em ?z]
 ·rfl
 case z=>
  unfold mI
  rw[lP,NV Og]
  congr 2
  rw[O1]
  constructor
  ·intro h
   have h:mk (eO (bu l b.toNat) a.toNat) n=mk (bu l b.toNat) n:=by omega
   have:=mk_eq.mp h a.toNat (by omega)
   unfold eO bu at this
   rw[ea,eb] at this
   simpa using this
  ·intro h
   have:mk (eO (bu l b.toNat) a.toNat) n=mk (bu l b.toNat) n:=mk_eq.mpr λi hi=>by
    unfold eO bu
    by_cases e:i=a.toNat
    ·rw[e,ea,eb];simp[h]
    ·simp[e]
   rw[this]
def Kc:List D->FR:=ba 2 2 (jt Jd)
def My {n:Nat}{l:List Pr}{t:Pr}(h8:n<=8)(h:(0<=t.1/\t.1 < n)/\(0<=t.2/\t.2 < n)):Kc [bP n (bu l),aw t]=.ok (.bool (decide (t∈l))) false:=by
 show fin (jt Jd [.fz (bP n (bu l)),.fz (aw t)] 0)=_
 unfold jt
 rw[cq,ax (ds:=[bP n (bu l),.int t.1,.int t.2]) (β1:=0) rfl (K8 h8 h.1 h.2)];rfl
def Jx {f g:Nat->Bool}{n:Nat}:mk f n ||| mk g n=mk (λi=>f i || g i) n:=by
 apply Pj
 intro i
 rw[Nat.testBit_or,cW,cW,cW]
 by_cases h:i < n <;> simp[h]
noncomputable def LV:List D->FR:=ba 4 2 (kL Jd mh)
def Mw {n:Nat}{l:List Pr}{t:Pr}(h8:n<=8)(h:(0<=t.1/\t.1 < n)/\(0<=t.2/\t.2 < n)):LV [bP n (bu l),aw t]=.ok (bP n (bu (putL n l t))) true:=by
 have e2:((t.2.toNat:Nat):Int)=t.2:=by omega
 show fin (kL Jd mh [.fz (bP n (bu l)),.fz (aw t),.no,.no] 0)=_
 unfold kL
 have el:f1 (gv 0) cc (vl [.fz (bP n (bu l)),.fz (aw t),.no,.no]) 0=.ok (.int n) 0:=by
  rw[mG (ds:=(List.range n).map λb=>mI (bu l b) n) rfl,NT,OO]
 have ec:aN 1 [1,0] (.nm 0) (cY (f1 (gv 0) cc)) (mi (cI (f2 (gv 0) (f2 (gv 1) (cst (.int 0)) bo) (cp false))) (j3 (ao Jd (aa (gv 2) (aa (f2 (gv 1) (cst (.int 0)) bo) (aa (gv 0) ag)))))) (gv 0) (vl [.fz (bP n (bu l)),.fz (aw t),.no,.no]) 0=.ok (.list (((dW n).filter λx=>k6 l t.1 x).map int)) 0:=by
  refine cD (l:=dW n) (e:=int) (λx=>k6 l t.1 x) int ?_ (by rw[b5];omega) λx hx=>⟨[.da (.int x),.da (aw t),.da (bP n (bu l))],rfl,?_,λ_=>rfl⟩
  ·rw[<-sV];exact cZ (n:=n) el (by omega)
  ·have hx:=aV.mp hx
   have:=Gs (gp (neg:=false) (fa:=gv 0) (fb:=f2 (gv 1) (cst (.int 0)) bo) (vs:=[.da (.int x),.da (aw t),.da (bP n (bu l))]) (β:=0) (i:=x) (j:=t.1) rfl rfl) (kP (ax (F:=Jd) (fr:=aa (gv 2) (aa (f2 (gv 1) (cst (.int 0)) bo) (aa (gv 0) ag))) (vs:=[.da (.int x),.da (aw t),.da (bP n (bu l))]) (β:=0) (ds:=[bP n (bu l),.int t.1,.int x]) rfl (K8 h8 h.1 hx)))
   rw[this]
   congr 1
   unfold k6
   rw[NV Og]
   congr 1
   rw[O1];exact⟨Eq.symm,Eq.symm⟩
 rw[au (env':=[.fz (bP n (bu l)),.fz (aw t),.fz (.list (((dW n).filter λx=>k6 l t.1 x).map int)),.no]) (β':=0) (by rw[b4,ec];rfl)]
 have em:f2 (gv 0) (f2 (gv 1) (cst (.int 1)) bo) bo (vl [.fz (bP n (bu l)),.fz (aw t),.fz (.list (((dW n).filter λx=>k6 l t.1 x).map int)),.no]) 0=.ok (mI (bu l t.2.toNat) n) 0:=by
  refine az (x:=bP n (bu l)) (y:=.int t.2) rfl (az rfl rfl rfl) ?_
  have:=Ds (n:=n) (M:=bu l) (b:=t.2.toNat) (by omega)
  rw[e2] at this
  exact this
 rw[au (env':=[.fz (bP n (bu l)),.fz (aw t),.fz (.list (((dW n).filter λx=>k6 l t.1 x).map int)),.fz (mI (eO (bu l t.2.toNat) t.2.toNat) n)]) (β':=0) (by
  rw[b4,ax (b:=false) (ds:=[mI (bu l t.2.toNat) n,.int (t.2.toNat:Int)]) (β1:=0) (ac em (ac (by rw[e2];rfl) an)) (vT h8 (by omega))];rfl)]
 have ed:aN 2 [2,3] (.two 0 1) (ET (gv 0)) kU (LH (cI (f2 (gv 0) (gv 2) (nZ false))) (f2 (gv 1) (gv 3) LK) (gv 1)) (vl [.fz (bP n (bu l)),.fz (aw t),.fz (.list (((dW n).filter λx=>k6 l t.1 x).map int)),.fz (mI (eO (bu l t.2.toNat) t.2.toNat) n)]) 0=.ok (bP n (bu (putL n l t))) 0:=by
  unfold bP
  refine cR (l:=List.range n) (e:=λb=>.tuple [.int b,mI (bu l b) n]) (λb=>mI (bu (putL n l t) b) n) ?_ (by rw[OO];omega) λb hb=>⟨[.da (.int b),.da (mI (bu l b) n),.da (.list (((dW n).filter λx=>k6 l t.1 x).map int)),.da (mI (eO (bu l t.2.toNat) t.2.toNat) n)],rfl,?_⟩
  ·show R.ok (dz ((List.range n).map λb=>mI (bu l b) n)) 0=_
   congr 1
   unfold dz
   refine Qe (by simp) λi h1 h2=>by simp
  ·have hbn:=N9.mp hb
   have hmem:decide ((b:Int)∈(dW n).filter λx=>k6 l t.1 x)=k6 l t.1 b:=by
    rw[Ox,N2,NX]
    exact⟨λh=>h.2,λh=>⟨aV.mpr ⟨by omega,by omega⟩,h⟩⟩
   have et:cI (f2 (gv 0) (gv 2) (nZ false)) [.da (.int b),.da (mI (bu l b) n),.da (.list (((dW n).filter λx=>k6 l t.1 x).map int)),.da (mI (eO (bu l t.2.toNat) t.2.toNat) n)] 0=.ok (k6 l t.1 b) 0:=by
    rw[<-hmem]
    exact bO _ _ _ _ (az (x:=.int b) (y:=.list (((dW n).filter λx=>k6 l t.1 x).map int)) rfl rfl (vY false b _))
   rw[I0,et]
   show (if k6 l t.1 b=true then _ else _)=_
   have key:∀a,a < n->bu (putL n l t) b a=(bu l b a || (k6 l a t.2 && k6 l t.1 b)):=λa ha=>by
    unfold bu
    rw[Ox,N2,lx ⟨⟨by simp only;omega,by simp only;omega⟩,⟨by simp only;omega,by simp only;omega⟩⟩,OY,N4,N2]
   by_cases c:k6 l t.1 b=true
   ·rw[NN c]
    refine az (x:=mI (bu l b) n) (y:=mI (eO (bu l t.2.toNat) t.2.toNat) n) rfl rfl ?_
    show some (int (Builtin.bitOr _ _))=_
    rw[so,Jx]
    unfold mI
    congr 3
    rw[mk_eq]
    intro a ha
    rw[key a ha,c,Bool.and_true]
    unfold eO k6 bu
    rw[e2]
    congr 1
    rw[Bool.or_comm]
    congr 1
    rw[O1];omega
   ·rw[NV c]
    show R.ok (mI (bu l b) n) 0=_
    unfold mI
    congr 3
    rw[mk_eq]
    intro a ha
    rw[key a ha]
    have c:k6 l t.1 b=false:=by simpa using c
    rw[c,Bool.and_false,Bool.or_false]
 rw[wY,ed];rfl
def B6 {ps:List Pr}(hl:ps.length<=100):Gt (.list (ps.map aw)):=⟨rfl,λds e=>by
 cases e
 refine⟨by rw[NT];exact hl,λe he=>?_⟩
 obtain⟨p,_,rfl⟩:=NY.mp he
 exact Em (es:=[.int p.1,.int p.2]) (by simp) (ER rfl rfl)⟩
def HR (n:Int)(l:List Pr)(d:D):Bool:=Jj n d && match d with
 | .tuple [.int a,.int b]=>Cr l (a,b)
 |_=>false
def G7 {n:Int}{l:List Pr}{p:Pr}(h:(0<=p.1/\p.1 < n)/\(0<=p.2/\p.2 < n)):HR n l (aw p)=Cr l p:=by
 show ((decide (0<=p.1/\p.1 < n) && decide (0<=p.2/\p.2 < n)) && Cr l (p.1,p.2))=Cr l p
 rw[NS h.1,NS h.2];rfl
noncomputable def LS:List D->FR:=ba 2 2 (l9 LB JM)
theorem Na {n:Nat}{l:List Pr}{d:D}(h:Ge d):LS [d,aB n l]=.ok (.bool (HR n l d)) false:=by
 show fin (l9 LB JM [.fz d,.fz (aB n l)] 0)=_
 unfold l9
 have e1:ao LB (aa (gv 0) (aa (f2 (gv 1) (cst (.int 0)) bo) ag)) (vl [.fz d,.fz (aB n l)]) 0=.ok (.bool (Jj n d)) 0:=ax (ds:=[d,.int n]) rfl (M9 h)
 rw[cq]
 cases q:Jj n d with
 |false=>rw[q] at e1;rw[Cs e1];unfold HR;rw[q];rfl
 |true=>
  rw[q] at e1
  obtain⟨p,rfl,hp⟩:=Ke q
  rw[G7 hp,Ck e1 (ax (ds:=[aB n l,.int p.1,.int p.2]) rfl (Lj n l p.1 p.2))];rfl
def LO (n:Int)(l:List Pr):D->Bool
 | .list ds=>ds.all (HR n l)
 |_=>false
noncomputable def IA:List D->FR:=ba 2 2 (jr LS)
theorem Ka {n:Nat}{l:List Pr}{d:D}(h:Gt d):IA [d,aB n l]=.ok (.bool (LO n l d)) false:=by
 show fin (jr LS [.fz d,.fz (aB n l)] 0)=_
 unfold jr
 have e1:=Kx (fa:=gv 0) (vs:=vl [.fz d,.fz (aB n l)]) (β:=0) rfl h.1
 rw[cq]
 cases q:JK d with
 |false=>rw[q] at e1;rw[Cs e1];cases d <;> first |rfl |cases q
 |true=>
  rw[q] at e1
  obtain⟨ds,rfl⟩:=FO q
  have hd:=h.2 ds rfl
  have ec:aN 1 [1] (.nm 0) (bG (gv 0)) kU (ao LS (aa (gv 0) (aa (gv 1) ag))) (vl [.fz (.list ds),.fz (aB n l)]) 0=.ok (.list (ds.map λe=>PyData.bool (HR n l e))) 0:=
   td (λe=>PyData.bool (HR n l e)) rfl (by omega) λe he=>⟨_,rfl,ax (ds:=[e,aB n l]) rfl (Na (hd.2 e he))⟩
  rw[Ck e1 (zd ec)];rfl
def iW (l:List Pr)(p q:Pr):Bool:=decide (p.1=q.2) || decide ((p.1,q.2)∈l)
def BO:List D->FR:=ba 3 3 kc
theorem FH (n:Nat)(l:List Pr)(p q:Pr):BO [aB n l,aw p,aw q]=.ok (.bool (iW l p q)) false:=by
 show fin (kc [.fz (aB n l),.fz (aw p),.fz (aw q)] 0)=_
 unfold kc
 have i0:f2 (gv 1) (cst (.int 0)) bo (vl [.fz (aB n l),.fz (aw p),.fz (aw q)]) 0=.ok (.int p.1) 0:=az (x:=aw p) (y:=.int 0) rfl rfl rfl
 have i1:f2 (gv 2) (cst (.int 1)) bo (vl [.fz (aB n l),.fz (aw p),.fz (aw q)]) 0=.ok (.int q.2) 0:=az (x:=aw q) (y:=.int 1) rfl rfl rfl
 have e1:f2 (f2 (gv 1) (cst (.int 0)) bo) (f2 (gv 2) (cst (.int 1)) bo) (cp false) (vl [.fz (aB n l),.fz (aw p),.fz (aw q)]) 0=.ok (.bool (decide (p.1=q.2))) 0:=az i0 i1 (lP false p.1 q.2)
 have e2:f2 (cC (aa (f2 (gv 1) (cst (.int 0)) bo) (aa (f2 (gv 2) (cst (.int 1)) bo) ag))) (f2 (gv 0) (cst (.int 1)) bo) (nZ false) (vl [.fz (aB n l),.fz (aw p),.fz (aw q)]) 0=.ok (.bool (decide ((p.1,q.2)∈l))) 0:=az (x:=aw (p.1,q.2)) (jR i0 i1) (LL (n:=n) (l:=l) rfl) (uN false (p.1,q.2) l)
 rw[cq]
 unfold iW
 cases c:decide (p.1=q.2) with
 |true=>rw[c] at e1;rw[MF e1];rfl
 |false=>rw[c] at e1;rw[Mv e1 e2];rfl
def Ex (l:List Pr)(ps:List Pr):Bool:=(List.range ps.length).all λi=>iW l (ps.getD (if i=0 then ps.length - 1 else i - 1) (0,0)) (ps.getD i (0,0))
def Gn {ps:List Pr}{i:Nat}(hi:i < ps.length):ik (ps.map aw) ((i:Int) - 1)=some (aw (ps.getD (if i=0 then ps.length - 1 else i - 1) (0,0))):=by
 have key:∀k:Nat,k < ps.length->ik (ps.map aw) (k:Int)=some (aw (ps.getD k (0,0))):=λk hk=>by
  rw[cT,gZ hk,N7,NK hk];rfl
 by_cases h:i=0
 ·subst h
  rw[NN rfl,<-key _ (by omega)]
  have e1:pQ ps.length (((0:Nat):Int) - 1)=some (ps.length - 1):=by
   unfold pQ
   rw[NV (by omega),NN (by omega)]
   congr 1;omega
  have e2:pQ ps.length ((ps.length - 1:Nat):Int)=some (ps.length - 1):=by
   unfold pQ
   rw[NN (by omega),NN (by omega)]
   congr 1
  unfold ik
  rw[NT,e1,e2]
 ·rw[NV h,<-key _ (by omega),show ((i - 1:Nat):Int)=(i:Int) - 1 by omega]
def D6 {F:List D->FR}{n:Nat}{l:List Pr}(hF:∀p q,F [aB n l,aw p,aw q]=.ok (.bool (iW l p q)) false){ps:List Pr}(hz:ps.length<=100){vs:List Nv}(h0:vs[0]? =some (.da (.list (ps.map aw))))(h1:vs[1]? =some (.da (aB n l))) :
  f1 (aN 1 [1,0] (.nm 0) (cY (f1 (gv 0) cc)) kU (ao F (aa (gv 1) (aa (f2 (gv 2) (f2 (gv 0) (cst (.int 1)) mq) bo) (aa (f2 (gv 2) (gv 0) bo) ag))))) (de λbs=>bs.all id) vs 0=.ok (.bool (Ex l ps)) 0:=by
 have g0:gv 0 vs 0=.ok (.list (ps.map aw)) 0:=by rw[si,h0];rfl
 have hb:dg 1 [1,0] vs= [.no,.da (aB n l),.da (.list (ps.map aw))]:=by simp[dg,h0,h1]
 have ec:aN 1 [1,0] (.nm 0) (cY (f1 (gv 0) cc)) kU (ao F (aa (gv 1) (aa (f2 (gv 2) (f2 (gv 0) (cst (.int 1)) mq) bo) (aa (f2 (gv 2) (gv 0) bo) ag)))) vs 0=.ok (.list ((List.range ps.length).map λi=>PyData.bool (iW l (ps.getD (if i=0 then ps.length - 1 else i - 1) (0,0)) (ps.getD i (0,0))))) 0:=by
  refine cR (l:=List.range ps.length) (e:=λ(k:Nat)=>int (0 + (k:Int))) (λi=>PyData.bool (iW l (ps.getD (if i=0 then ps.length - 1 else i - 1) (0,0)) (ps.getD i (0,0)))) ?_ (by rw[OO];omega) λi hi=>⟨[.da (.int (0 + (i:Int))),.da (aB n l),.da (.list (ps.map aw))],by rw[hb];rfl,?_⟩
  ·have:=cZ (fa:=f1 (gv 0) cc) (vs:=vs) (β:=0) (β1:=0) (n:=ps.length) (by rw[mG (ds:=ps.map aw) g0,NT]) (by omega)
   rw[this];rfl
  ·have hi:=N9.mp hi
   rw[Pu]
   refine ax (b:=false) (ds:=[aB n l,aw (ps.getD (if i=0 then ps.length - 1 else i - 1) (0,0)),aw (ps.getD i (0,0))]) ?_ (hF _ _)
   have a1:f2 (gv 2) (f2 (gv 0) (cst (.int 1)) mq) bo [.da (.int i),.da (aB n l),.da (.list (ps.map aw))] 0=.ok (aw (ps.getD (if i=0 then ps.length - 1 else i - 1) (0,0))) 0:=az (x:=.list (ps.map aw)) (y:=.int ((i:Int) - 1)) rfl (az (x:=.int i) (y:=.int 1) rfl rfl rfl) (Gn hi)
   have a2:f2 (gv 2) (gv 0) bo [.da (.int i),.da (aB n l),.da (.list (ps.map aw))] 0=.ok (aw (ps.getD i (0,0))) 0:=by
    refine az (x:=.list (ps.map aw)) (y:=.int i) rfl rfl ?_
    show ik (ps.map aw) (i:Int)=_
    rw[cT,gZ hi,N7,NK hi];rfl
   exact ac rfl (ac a1 (ac a2 an))
 exact dU ec (by simp only[de];rw[il];simp[all_map,Ex])
def K2:List D->FR:=ba 3 3 nU
def KI (n:Nat)(l:List Pr)(p q:Pr):K2 [aB n l,aw p,aw q]=.ok (.bool (iW l p q)) false:=FH n l p q
noncomputable def LQ:List D->FR:=ba 2 2 (hU IA BO)
noncomputable def MR:List D->FR:=ba 2 2 (lX fJ LQ)
def Kd {n:Nat}{l:List Pr}{d:D}{b:Bool}(O:OM.Ord n l)(h:LQ [d,aB n l]=.ok (.bool b) false):MR [d,aB n l]=.ok (.bool b) false:=by
 show fin (lX fJ LQ [.fz d,.fz (aB n l)] 0)=_
 unfold lX
 rw[au (env':=[.fz d,.fz (aB n l)]) (β':=0) (by rw[nA,ax (ds:=[aB n l]) (β1:=0) rfl (mV O)];rfl)]
 rw[cq,ax (ds:=[d,aB n l]) (β1:=0) rfl h];rfl
theorem Kh {n:Nat}{l:List Pr}{ps:List Pr}(h:Gt (.list (ps.map aw)))(hts:LO n l (.list (ps.map aw))=true):LQ [.list (ps.map aw),aB n l]=.ok (.bool (!ps.isEmpty && Ex l ps)) false:=by
 show fin (hU IA BO [.fz (.list (ps.map aw)),.fz (aB n l)] 0)=_
 unfold hU
 have t:j3 (ao IA (aa (gv 0) (aa (gv 1) ag))) (vl [.fz (.list (ps.map aw)),.fz (aB n l)]) 0=.ok (LO n l (.list (ps.map aw))) 0:=kP (ax (ds:=[.list (ps.map aw),aB n l]) rfl (Ka h))
 rw[hts] at t
 have hz:ps.length<=100:=by have:=(h.2 _ rfl).1;rw[NT] at this;exact this
 have t2:cI (f2 (f1 (gv 0) cc) (cst (.int 0)) (cp false)) (vl [.fz (.list (ps.map aw)),.fz (aB n l)]) 0=.ok (decide (((ps.map aw).length:Int)=0)) 0:=gp (neg:=false) (mG rfl) rfl
 cases ps with
 |nil=>rw[gx (d:=.bool false) (b:=false) (β':=0) (by rw[jq (mz (fE t) t2)];rfl)];rfl
 |cons p ps=>
  rw[NZ (by simp;omega)] at t2
  rw[au (env':=[.fz (.list ((p :: ps).map aw)),.fz (aB n l)]) (β':=0) (by rw[fK (mz (fE t) t2)];rfl)]
  rw[cq,D6 (F:=BO) (n:=n) (l:=l) (FH n l) hz rfl rfl];rfl
def Fd {i:Nat}{L:List Nat}{f:VF D}{env:En}{β β':Int}{ds es:List D}(hi:env[i]? =some (.ow (.list ds)))(hf:f (vl env) β=.ok (.list es) β')(hL:(bp L env)[i]? =some (.ow (.list ds)))(hz:ds.length + es.length<=10000) :
  A5 i L f env β=.nx ((bp L env).set i (.ow (.list (ds ++ es)))) β':=by
 unfold A5
 rw[NN (by rw[hi];rfl),hf]
 exact uy hL (NN (by rw[Ot];omega))
def putAll (n:Nat)(l:List Pr)(put:List Pr):List Pr:=put.foldl (putL n) l
theorem qQ {n:Nat}{U:Int->Prop}:∀{put l:List Pr},(∀u v,(u,v)∈l->U u->U v)->(∀t,t∈put->U t.2->U t.1)->∀u v,(u,v)∈putAll n l put->U u->U v
 | [],l,h0,_=>h0
 |t :: put,l,h0,h1=>by
  have q:∀u v,k6 l u v=true->U u->U v:=λu v h hu=>by
   rcases fu.mp h with rfl |h
   ·exact hu
   ·exact h0 _ _ h hu
  refine qQ (put:=put) (l:=putL n l t) (λu v h hu=>?_) (λx hx=>h1 x (NP _ hx))
  rcases oj h with h | ⟨a,b⟩
  ·exact h0 _ _ h hu
  ·exact q _ _ b (h1 t (NR ..) (q _ _ a hu))
def Lv (l:List Pr)(p:List Pr):Prop:=∀i a b,p[i]? =some a->p[i + 1]? =some b->iW l a b=true
structure RI (l put:List Pr)(t:Pr)(ph:List (List Pr))(left:List Pr)(at':Nat):Prop where
 pth:∀p,p∈ph->∃q,p=t :: q/\(∀x,x∈q->x∈put/\¬x∈left)/\p.Nodup/\Lv l p
 lft:∀x,x∈left->x∈put
 rch:∀x,x∈put->x∈left\/∃p,p∈ph/\p.getLast? =some x
 fst:∃p,p∈ph/\p.getLast? =some t
 old:∀i p s,i < at'->ph[i]? =some p->p.getLast? =some s->iW l s t=false/\∀x,x∈left->iW l s x=false
 cnt:ph.length + left.length=put.length + 1
 le:at'<=ph.length
def RI.lt {n:Nat}{l put:List Pr}{t:Pr}{ph:List (List Pr)}{left:List Pr}{k:Nat}(R:RI l put t ph left k)(O:OM.Ord n l)(hb:t∈putAll n l put):k < ph.length:=by
 apply Classical.byContradiction
 intro hn
 have hk:k=ph.length:=by have:=R.le;omega
 have idx:∀p,p∈ph->∃i:Nat,i < k/\ph[i]? =some p:=λp hp=>by
  obtain⟨i,hi⟩:=PZ.mp hp
  exact⟨i,by rw[hk];exact (N0.mp hi).1,hi⟩
 have key:=qQ (n:=n) (U:=λx=>∃s:Pr,(∃p,p∈ph/\p.getLast? =some s)/\k6 l s.1 x=true) (put:=put) (l:=l) (by
  rintro u v h ⟨s,hs,hl⟩
  exact⟨s,hs,uc O hl (fu.mpr (.inr h))⟩) (by
  rintro x hx ⟨s,⟨p,hp,hs⟩,hl⟩
  rcases R.rch x hx with h |h
  ·obtain⟨i,hi,hpi⟩:=idx p hp
   have h2:iW l s x=false:=(R.old i p s hi hpi hs).2 x h
   have hl:iW l s x=true:=hl
   rw[h2] at hl;cases hl
  ·exact⟨x,h,fu.mpr (.inl rfl)⟩) t.1 t.2 hb ⟨t,R.fst,fu.mpr (.inl rfl)⟩
 obtain⟨s,⟨p,hp,hs⟩,hl⟩:=key
 obtain⟨i,hi,hpi⟩:=idx p hp
 have h2:iW l s t=false:=(R.old i p s hi hpi hs).1
 have hl:iW l s t=true:=hl
 rw[h2] at hl;cases hl
theorem z5 {α:Type}(f:α->Bool):∀L:List α,(L.filter f).length + (L.filter λx=> !f x).length=L.length
 | []=>rfl
 |x :: L=>by
  have:=z5 f L
  cases h:f x <;> simp[List.filter_cons,h] <;> omega
def EZ {l p:List Pr}{s x:Pr}(h:Lv l p)(hs:p.getLast? =some s)(hx:iW l s x=true):Lv l (p ++ [x]):=by
 intro i a b ha hb
 have hl:p≠ []:=λe=>by rw[e] at hs;cases hs
 have hpos:=Qw.mpr hl
 by_cases c:i + 1 < p.length
 ·rw[Oh (by omega)] at ha
  rw[Oh c] at hb
  exact h i a b ha hb
 ·by_cases d:i + 1=p.length
  ·rw[Oh (by omega)] at ha
   rw[Ol (by omega),d,Nat.sub_self] at hb
   cases hb
   rw[Qz,show p.length - 1=i by omega,ha] at hs
   cases hs
   exact hx
  ·rw[Pd (by rw[Of,O3];omega)] at hb
   cases hb
def RI.step {l put:List Pr}{t s:Pr}{ph:List (List Pr)}{left p fr:List Pr}{k:Nat}(R:RI l put t ph left k)(htp:¬t∈put)(hp:ph[k]? =some p)(hs:p.getLast? =some s)(hst:iW l s t=false)(hfr:left.filter (λx=>iW l s x)=fr):RI l put t (ph ++ fr.map λx=>p ++ [x]) (left.filter λx=> !decide (x∈fr)) (k + 1):=by
 have hpm:p∈ph:=PZ.mpr ⟨k,hp⟩
 have hk:k < ph.length:=(N0.mp hp).1
 have mfr:∀x,x∈fr↔x∈left/\iW l s x=true:=λx=>by rw[<-hfr];exact NX
 have mlf:∀x,x∈(left.filter λx=> !decide (x∈fr))↔x∈left/\¬x∈fr:=λx=>by rw[NX];simp
 refine⟨λr hr=>?_,λx hx=>R.lft x ((mlf x).mp hx).1,λx hx=>?_,?_,λi r s' hi hr hs'=>?_,?_,?_⟩
 ·rcases Ob.mp hr with hr |hr
  ·obtain⟨q,e,h1,h2,h3⟩:=R.pth r hr
   exact⟨q,e,λx hx=>⟨(h1 x hx).1,λhm=>(h1 x hx).2 ((mlf x).mp hm).1⟩,h2,h3⟩
  ·obtain⟨x,hx,rfl⟩:=NY.mp hr
   obtain⟨q,e,h1,h2,h3⟩:=R.pth p hpm
   have hxf:=(mfr x).mp hx
   refine⟨q ++ [x],by rw[e];rfl,λy hy=>?_,?_,EZ h3 hs hxf.2⟩
   ·rcases Ob.mp hy with hy |hy
    ·exact⟨(h1 y hy).1,λhm=>(h1 y hy).2 ((mlf y).mp hm).1⟩
    ·rw[Oe] at hy;subst hy
     exact⟨R.lft _ hxf.1,λhm=>((mlf _).mp hm).2 hx⟩
   ·refine Qp.mpr ⟨h2,by simp,λa ha b hb eab=>?_⟩
    rw[Oe] at hb;subst hb;subst eab
    rw[e] at ha
    rcases NO.mp ha with rfl |ha
    ·exact htp (R.lft _ hxf.1)
    ·exact (h1 _ ha).2 hxf.1
 ·rcases R.rch x hx with h | ⟨r,h1,h2⟩
  ·by_cases c:x∈fr
   ·exact .inr ⟨p ++ [x],Ob.mpr (.inr (NY.mpr ⟨x,c,rfl⟩)),by simp⟩
   ·exact .inl ((mlf x).mpr ⟨h,c⟩)
  ·exact .inr ⟨r,Ob.mpr (.inl h1),h2⟩
 ·obtain⟨r,h1,h2⟩:=R.fst
  exact⟨r,Ob.mpr (.inl h1),h2⟩
 ·rw[Oh (by omega)] at hr
  by_cases c:i=k
  ·subst c
   rw[hp] at hr;cases hr
   rw[hs] at hs';cases hs'
   refine⟨hst,λx hx=>?_⟩
   obtain⟨a,b⟩:=(mlf x).mp hx
   cases z:iW l s x with
   |false=>rfl
   |true=>exact absurd ((mfr x).mpr ⟨a,z⟩) b
  ·obtain⟨a,b⟩:=R.old i r s' (by omega) hr hs'
   exact⟨a,λx hx=>b x ((mlf x).mp hx).1⟩
 ·have h1:=z5 (λx=>iW l s x) left
  have h2:(left.filter λx=> !decide (x∈fr))=left.filter λx=> !iW l s x:=Qo λx hx=>by
   congr 1
   rw[Ox,N2,mfr x]
   exact⟨λh=>h.2,λh=>⟨hx,h⟩⟩
  rw[h2,Of,NT,<-hfr]
  have:=R.cnt
  omega
 ·rw[Of];omega
theorem uI:∀{q put:List Pr},q.Nodup->(∀x,x∈q->x∈put)->q.length<=put.length
 | [],_,_,_=>Ov _
 |x :: q,put,nd,h=>by
  have nd:=Om.mp nd
  have hx:=h x (NR ..)
  have:=uI (q:=q) (put:=put.erase x) nd.2 λy hy=>(List.mem_erase_of_ne (λe=>nd.1 (by rw[<-e];exact hy))).mpr (h y (NP _ hy))
  rw[Qb hx] at this
  have:=Qk hx
  rw[N5];omega
abbrev pD (p:List Pr):D:=.list (p.map aw)
def Cc {fs:List Pr}{s:Pr}(h:fs.getLast? =some s):ik (fs.map aw) (-1)=some (aw s):=by
 have hl:fs≠ []:=λe=>by rw[e] at h;cases h
 have hpos:=Qw.mpr hl
 unfold ik pQ
 rw[NV (by omega),NN (by simp;omega)]
 show (fs.map aw)[((-1:Int) + (((fs.map aw).length:Nat):Int)).toNat]? =_
 rw[show ((-1:Int) + (((fs.map aw).length:Nat):Int)).toNat=fs.length - 1 by simp;omega,NW,<-Qz,h];rfl
def zG {ph:List (List Pr)}{p:List Pr}{k:Nat}(h:ph[k]? =some p):ik (ph.map pD) (k:Int)=some (pD p):=by
 have hk:k < ph.length:=(N0.mp h).1
 rw[cT,gZ hk]
 have:ph[k]=p:=by rw[NK hk] at h;exact Option.some.inj h
 rw[this];rfl
noncomputable def JQ:List D->FR:=ba 7 3 (js BO)
def Jg {l p:List Pr}{s:Pr}(h:Lv l p)(hs:p.getLast? =some s){t:Pr}{q:List Pr}(e:p=t :: q)(hst:iW l s t=true):Ex l p=true:=by
 unfold Ex
 rw[Oq]
 intro i hi
 have hi:=N9.mp hi
 by_cases c:i=0
 ·subst c
  rw[NN rfl,N7,<-Qz,hs,e]
  exact hst
 ·rw[NV c]
  refine h (i - 1) _ _ ?_ ?_
  ·rw[N7,NK (by omega)];rfl
  ·rw[show i - 1 + 1=i by omega,N7,NK hi];rfl
def Mg {n:Nat}{l put:List Pr}{t:Pr}(O:OM.Ord n l)(hz:put.length<=100)(htp:¬t∈put)(hb:t∈putAll n l put):∃r,JQ [aB n l,.list (put.map aw),aw t]=.ok (.list (r.map aw)) false/\(∀x,x∈r->x=t\/x∈put)/\r.Nodup/\r≠ []/\Ex l r=true:=by
 show ∃r,fin (js BO [.fz (aB n l),.fz (.list (put.map aw)),.fz (aw t),.no,.no,.no,.no] 0)=_/\_
 unfold js
 rw[au (env':=[.fz (aB n l),.fz (.list (put.map aw)),.fz (aw t),.ow (.list ([[t]].map pD)),.no,.no,.no]) (β':=0) (by
  rw[fG,lp (ds:=[pD [t]]) (ac (lp (ds:=[aw t]) (ac rfl an)) an)];rfl)]
 rw[au (env':=[.fz (aB n l),.fz (.list (put.map aw)),.fz (aw t),.ow (.list ([[t]].map pD)),.fz (.list (put.map aw)),.no,.no]) (β':=0) (by rfl)]
 rw[au (env':=[.fz (aB n l),.fz (.list (put.map aw)),.fz (aw t),.ow (.list ([[t]].map pD)),.fz (.list (put.map aw)),.fz (.int ((0:Nat):Int)),.no]) (β':=0) (by rfl)]
 obtain⟨env',β',ew,ph,left,k,p,s,s6,rfl,rfl,R,hp,hs,hst⟩:=gc (L:=[0] ++ ((([] ++ []) ++ []) ++ ([2] ++ []))) (t:=rJ (j3 (ao BO (aa (gv 0) (aa (f2 (f2 (gv 3) (gv 5) bo) (f1 (cst (.int 1)) mF) bo) (aa (gv 2) ag))))))
  (m:=aG (bg 6 ([] ++ [0]) (aN 1 [0,3,5] (.nm 0) (bG (gv 4)) (j3 (ao BO (aa (gv 1) (aa (f2 (f2 (gv 2) (gv 3) bo) (f1 (cst (.int 1)) mF) bo) (aa (gv 0) ag))))) (gv 0)))
   (aG (bg 4 ([] ++ []) (aN 1 [6] (.nm 0) (bG (gv 4)) (cI (f2 (gv 0) (gv 1) (nZ true))) (gv 0)))
   (aG (A5 3 ([] ++ []) (aN 1 [3,5] (.nm 0) (bG (gv 6)) kU (f2 (f2 (gv 1) (gv 2) bo) (bD (aa (gv 0) ag)) iZ)))
   (bg 5 ([] ++ []) (f2 (gv 5) (cst (.int 1)) dh)))))
  (λm env b=>∃ph left k s6,env= [.fz (aB n l),.fz (.list (put.map aw)),.fz (aw t),.ow (.list (ph.map pD)),.fz (.list (left.map aw)),.fz (.int ((k:Nat):Int)),s6]/\b=0/\RI l put t ph left k/\m=put.length + 1 - k)
  (λenv b=>∃ph left k p s s6,env= [.fz (aB n l),.fz (.list (put.map aw)),.fz (aw t),.ow (.list (ph.map pD)),.fz (.list (left.map aw)),.fz (.int ((k:Nat):Int)),s6]/\b=0/\RI l put t ph left k/\ph[k]? =some p/\p.getLast? =some s/\iW l s t=true)
  (n:=1000) (k:=put.length + 1) (env:=[.fz (aB n l),.fz (.list (put.map aw)),.fz (aw t),.ow (.list ([[t]].map pD)),.fz (.list (put.map aw)),.fz (.int ((0:Nat):Int)),.no]) (β:=0) (by omega)
  ⟨[[t]],put,0,.no,rfl,rfl,⟨λp hp=>by
    rw[Oe] at hp;subst hp
    exact⟨[],rfl,(λx hx=>by cases hx),by simp,(λi a b _ hb=>by simp at hb)⟩,λx hx=>hx,λx hx=>.inl hx,⟨[t],by simp,rfl⟩,λi p s hi=>by omega,by simp;omega,by omega⟩,by omega⟩ (by
   rintro m env b ⟨ph,left,k,s6,rfl,rfl,R,rfl⟩
   have hk:=R.lt O hb
   obtain⟨p,hp⟩:∃p,ph[k]? =some p:=⟨_,NK hk⟩
   have hpm:p∈ph:=PZ.mpr ⟨k,hp⟩
   obtain⟨q,eq,hq,hnd,hch⟩:=R.pth p hpm
   obtain⟨s,hs⟩:∃s,p.getLast? =some s:=⟨_,List.getLast?_eq_some_getLast (by rw[eq];exact List.cons_ne_nil _ _)⟩
   have hcnt:=R.cnt
   have hpl:p.length<=put.length + 1:=by
    have h1:q.length<=put.length:=by
     rw[eq] at hnd
     exact uI (Om.mp hnd).2 λx hx=>(hq x hx).1
    rw[eq,N5];omega
   have el:∀s6:Sl,f2 (f2 (gv 3) (gv 5) bo) (f1 (cst (.int 1)) mF) bo (vl [.fz (aB n l),.fz (.list (put.map aw)),.fz (aw t),.ow (.list (ph.map pD)),.fz (.list (left.map aw)),.fz (.int ((k:Nat):Int)),s6]) 0=.ok (aw s) 0:=λs6=>az (x:=pD p) (y:=.int (-1)) (az (x:=.list (ph.map pD)) (y:=.int k) rfl rfl (zG hp)) rfl (Cc hs)
   have et:rJ (j3 (ao BO (aa (gv 0) (aa (f2 (f2 (gv 3) (gv 5) bo) (f1 (cst (.int 1)) mF) bo) (aa (gv 2) ag))))) (vl [.fz (aB n l),.fz (.list (put.map aw)),.fz (aw t),.ow (.list (ph.map pD)),.fz (.list (left.map aw)),.fz (.int ((k:Nat):Int)),s6]) 0=.ok (!iW l s t) 0:=fE (kP (ax (F:=BO) (ds:=[aB n l,aw s,aw t]) (b:=false) (ac rfl (ac (el s6) (ac rfl an))) (FH n l s t)))
   refine⟨_,_,et,?_⟩
   cases hst:iW l s t with
   |true=>exact .inl ⟨rfl,ph,left,k,p,s,s6,rfl,rfl,R,hp,hs,hst⟩
   |false=>
    refine .inr ⟨rfl,?_⟩
    show ∃env2 β2 k',aG _ _ [.fz (aB n l),.fz (.list (put.map aw)),.fz (aw t),.ow (.list (ph.map pD)),.fz (.list (left.map aw)),.fz (.int ((k:Nat):Int)),s6] 0=.nx env2 β2/\k' < put.length + 1 - k/\_
    generalize hfr:left.filter (λx=>iW l s x)=fr
    have hfl:fr.length<=left.length:=by rw[<-hfr];exact O4 _ _
    have e6:aN 1 [0,3,5] (.nm 0) (bG (gv 4)) (j3 (ao BO (aa (gv 1) (aa (f2 (f2 (gv 2) (gv 3) bo) (f1 (cst (.int 1)) mF) bo) (aa (gv 0) ag))))) (gv 0) (vl [.fz (aB n l),.fz (.list (put.map aw)),.fz (aw t),.ow (.list (ph.map pD)),.fz (.list (left.map aw)),.fz (.int ((k:Nat):Int)),s6]) 0=.ok (.list (fr.map aw)) 0:=by
     rw[<-hfr]
     refine cD (l:=left) (e:=aw) (λx=>iW l s x) aw rfl (by omega) λx hx=>⟨[.da (aw x),.da (aB n l),.da (.list (ph.map pD)),.da (.int ((k:Nat):Int))],rfl,?_,λ_=>rfl⟩
     have e2:f2 (f2 (gv 2) (gv 3) bo) (f1 (cst (.int 1)) mF) bo [.da (aw x),.da (aB n l),.da (.list (ph.map pD)),.da (.int ((k:Nat):Int))] 0=.ok (aw s) 0:=az (x:=pD p) (y:=.int (-1)) (az (x:=.list (ph.map pD)) (y:=.int k) rfl rfl (zG hp)) rfl (Cc hs)
     exact kP (ax (F:=BO) (ds:=[aB n l,aw s,aw x]) (b:=false) (ac rfl (ac e2 (ac rfl an))) (FH n l s x))
    rw[au (env':=[.fz (aB n l),.fz (.list (put.map aw)),.fz (aw t),.ow (.list (ph.map pD)),.fz (.list (left.map aw)),.fz (.int ((k:Nat):Int)),.fz (.list (fr.map aw))]) (β':=0) (by rw[b4,e6];rfl)]
    have e4:aN 1 [6] (.nm 0) (bG (gv 4)) (cI (f2 (gv 0) (gv 1) (nZ true))) (gv 0) (vl [.fz (aB n l),.fz (.list (put.map aw)),.fz (aw t),.ow (.list (ph.map pD)),.fz (.list (left.map aw)),.fz (.int ((k:Nat):Int)),.fz (.list (fr.map aw))]) 0=.ok (.list ((left.filter λx=> !decide (x∈fr)).map aw)) 0:=by
     refine cD (l:=left) (e:=aw) (λx=> !decide (x∈fr)) aw rfl (by omega) λx hx=>⟨_,rfl,?_,λ_=>rfl⟩
     exact bO _ _ _ _ (az (x:=aw x) (y:=.list (fr.map aw)) rfl rfl (zl true x fr))
    have R':=R.step htp hp hs hst hfr
    generalize hlf:(left.filter λx=> !decide (x∈fr))=left' at e4 R'
    rw[au (env':=[.fz (aB n l),.fz (.list (put.map aw)),.fz (aw t),.ow (.list (ph.map pD)),.fz (.list (left'.map aw)),.fz (.int ((k:Nat):Int)),.fz (.list (fr.map aw))]) (β':=0) (by rw[b4,e4];rfl)]
    have e3:aN 1 [3,5] (.nm 0) (bG (gv 6)) kU (f2 (f2 (gv 1) (gv 2) bo) (bD (aa (gv 0) ag)) iZ) (vl [.fz (aB n l),.fz (.list (put.map aw)),.fz (aw t),.ow (.list (ph.map pD)),.fz (.list (left'.map aw)),.fz (.int ((k:Nat):Int)),.fz (.list (fr.map aw))]) 0=.ok (.list ((fr.map λx=>p ++ [x]).map pD)) 0:=by
     rw[Pq]
     refine cR (l:=fr) (e:=aw) (λx=>pD (p ++ [x])) rfl (by omega) λx hx=>⟨[.da (aw x),.da (.list (ph.map pD)),.da (.int ((k:Nat):Int))],rfl,?_⟩
     refine az (x:=pD p) (y:=.list [aw x]) (az (x:=.list (ph.map pD)) (y:=.int k) rfl rfl (zG hp)) (lp (ds:=[aw x]) (ac rfl an)) ?_
     rw[nH (by rw[NT,O3];omega)]
     show some (PyData.list (p.map aw ++ [x].map aw))=_
     rw[<-Ou]
    rw[au (env':=[.fz (aB n l),.fz (.list (put.map aw)),.fz (aw t),.ow (.list ((ph ++ fr.map λx=>p ++ [x]).map pD)),.fz (.list (left'.map aw)),.fz (.int ((k:Nat):Int)),.fz (.list (fr.map aw))]) (β':=0) ?g3]
    case g3=>
     rw[Fd (i:=3) (ds:=ph.map pD) (by rfl) e3 (by rfl) (by rw[NT,NT,NT];omega),<-Ou];rfl
    refine⟨[.fz (aB n l),.fz (.list (put.map aw)),.fz (aw t),.ow (.list ((ph ++ fr.map λx=>p ++ [x]).map pD)),.fz (.list (left'.map aw)),.fz (.int ((k + 1:Nat):Int)),.fz (.list (fr.map aw))],0,put.length + 1 - (k + 1),?_,by omega,_,_,_,_,rfl,rfl,R',rfl⟩
    rw[show ((k + 1:Nat):Int)=(k:Int) + 1 by omega];rfl)
 obtain⟨q,eq,hq,hnd,hch⟩:=R.pth p (PZ.mpr ⟨k,hp⟩)
 refine⟨p,?_,λx hx=>?_,hnd,by rw[eq];exact List.cons_ne_nil _ _,Jg hch hs eq hst⟩
 ·rw[au ew,cq,az (x:=.list (ph.map pD)) (y:=.int k) (d:=pD p) (β1:=0) (β2:=0) rfl rfl (zG hp)];rfl
 ·rw[eq] at hx
  rcases NO.mp hx with h |h
  ·exact .inl h
  ·exact .inr (hq x h).1
noncomputable abbrev o4:SF:=aG (jF ([2] ++ ([4] ++ [])) (j3 (ao Kc (aa (gv 2) (aa (gv 4) ag))))
 (bM (cC (aa (cst (.str "ring")) (aa (ao JQ (aa (gv 0) (aa (gv 3) (aa (gv 4) ag)))) ag))))
 kZ)
 (aG (bg 2 ([2] ++ ([4] ++ [])) (ao LV (aa (gv 2) (aa (gv 4) ag))))
 (jA 3 [4] (gv 4)))
abbrev gE (n:Nat)(l ps put:List Pr)(s4:Sl):En:=[.fz (aB n l),.fz (pD ps),.fz (bP n (bu (putAll n l put))),.ow (pD put),s4]
def MG (n:Nat)(l ps:List Pr):Prop:=∃put t,(∀x,x∈put->x∈ps)/\t∈ps/\t∈putAll n l put
def Nu (l ps r:List Pr):Prop:=(∀x,x∈r->x∈ps)/\r.Nodup/\r≠ []/\Ex l r=true
def qL (n:Nat)(l put:List Pr)(t:Pr):putAll n l (put ++ [t])=putL n (putAll n l put) t:=by unfold putAll;rw[List.foldl_append];rfl
theorem Kr {n:Nat}{l ps:List Pr}(O:OM.Ord n l)(hz:ps.length<=100)(ht:∀p,p∈ps->p∈jE n l):∀(rest put:List Pr) (s4:Sl),ps=put ++ rest->OM.Ord n (putAll n l put)->(∀p,p∈put->(p.2,p.1)∈putAll n l put)->
  (∃r,kY (.nm 4) o4 (rest.map aw) (gE n l ps put s4) 0=.rt (.tuple [.str "ring",pD r]) false 0/\Nu l ps r/\MG n l ps)\/(∃s4',kY (.nm 4) o4 (rest.map aw) (gE n l ps put s4) 0=.nx (gE n l ps ps s4') 0/\OM.Ord n (putAll n l ps)/\∀p,p∈ps->(p.2,p.1)∈putAll n l ps)
 | [],put,s4,e,Op,hp=>by
  rw[PD] at e
  subst e
  exact .inr ⟨s4,rfl,Op,hp⟩
 |t :: rest,put,s4,e,Op,hp=>by
  have htm:t∈ps:=by rw[e];simp
  have hpm:∀x,x∈put->x∈ps:=λx hx=>by rw[e];simp[hx]
  have hpl:put.length + rest.length + 1=ps.length:=by rw[e,Of,N5];omega
  obtain⟨hr,ha⟩:=nq.mp (ht t htm)
  have h8:=O.hi
  have eb:j3 (ao Kc (aa (gv 2) (aa (gv 4) ag))) (vl (gE n l ps put (.fz (aw t)))) 0=.ok (decide (t∈putAll n l put)) 0:=kP (ax (ds:=[bP n (bu (putAll n l put)),aw t]) rfl (My h8 hr))
  have hbd:eT (.nm 4) (aw t) (gE n l ps put s4)=some (gE n l ps put (.fz (aw t))):=rfl
  by_cases c:t∈putAll n l put
  ·rw[NS c] at eb
   have htp:¬t∈put:=λh=>Op.irr _ (Op.tr _ _ _ c (hp t h))
   obtain⟨r,er,h1,h2,h3,h4⟩:=Mg O (by omega) htp c
   refine .inl ⟨r,?_,⟨λx hx=>?_,h2,h3,h4⟩,put,t,hpm,htm,c⟩
   ·have ef:cC (aa (cst (.str "ring")) (aa (ao JQ (aa (gv 0) (aa (gv 3) (aa (gv 4) ag)))) ag)) (vl (gE n l ps put (.fz (aw t)))) 0=.ok (.tuple [.str "ring",pD r]) 0:=jd (ds:=[.str "ring",pD r]) (ac rfl (ac (ax (ds:=[aB n l,pD put,aw t]) rfl er) an)) (by simp)
    have e1:o4 (gE n l ps put (.fz (aw t))) 0=.rt (.tuple [.str "ring",pD r]) false 0:=by
     unfold o4
     rw[gx (d:=.tuple [.str "ring",pD r]) (b:=false) (β':=0)]
     rw[jq eb,cq]
     show toS (cC (aa (cst (.str "ring")) (aa (ao JQ (aa (gv 0) (aa (gv 3) (aa (gv 4) ag)))) ag)) (vl (gE n l ps put (.fz (aw t)))) 0) _=_
     rw[ef];rfl
    rw[OE]
    unfold kY
    rw[hbd]
    dsimp only
    rw[e1]
   ·rcases h1 x hx with rfl |h
    ·exact htm
    ·exact hpm x h
  ·rw[NZ c] at eb
   have hn:k6 (putAll n l put) t.1 t.2=false:=by
    cases z:k6 (putAll n l put) t.1 t.2 with
    |false=>rfl
    |true=>
     rcases fu.mp z with h |h
     ·unfold Cr at ha
      rw[h] at ha
      simp at ha
     ·exact absurd h c
   have Op':=Gg Op hn
   rw[<-qL] at Op'
   have hp':∀p,p∈put ++ [t]->(p.2,p.1)∈putAll n l (put ++ [t]):=λp hpp=>by
    rw[qL]
    rcases Ob.mp hpp with h |h
    ·exact Gm Op (hp p h)
    ·rw[Oe] at h;subst h
     exact ym hr
   have e1:o4 (gE n l ps put (.fz (aw t))) 0=.nx (gE n l ps (put ++ [t]) (.fz (aw t))) 0:=by
    unfold o4
    rw[au (env':=gE n l ps put (.fz (aw t))) (β':=0) (by rw[fK eb];rfl)]
    rw[au (env':=[.fz (aB n l),.fz (pD ps),.fz (bP n (bu (putAll n l (put ++ [t])))),.ow (pD put),.fz (aw t)]) (β':=0) (by rw[b4,ax (ds:=[bP n (bu (putAll n l put)),aw t]) (β1:=0) rfl (Mw h8 hr),<-qL];rfl)]
    rw[j9 (i:=3) (ds:=put.map aw) (d:=aw t) (β':=0) (by rfl) rfl (by rfl) (by rw[NT];omega)]
    show SO.nx [.fz (aB n l),.fz (pD ps),.fz (bP n (bu (putAll n l (put ++ [t])))),.ow (.list (put.map aw ++ [t].map aw)),.fz (aw t)] 0=_
    rw[<-Ou]
   have:=Kr O hz ht rest (put ++ [t]) (.fz (aw t)) (by rw[e];simp) Op' hp'
   have e2:kY (.nm 4) o4 ((t :: rest).map aw) (gE n l ps put s4) 0=kY (.nm 4) o4 (rest.map aw) (gE n l ps (put ++ [t]) (.fz (aw t))) 0:=by
    rw[OE]
    conv=>lhs;unfold kY
    rw[hbd]
    dsimp only
    rw[e1]
   rw[e2]
   exact this
noncomputable def J8:List D->FR:=ba 5 2 (kG fJ IA GO Kc JQ LV Kq)
def Np (n:Nat)(l ps:List Pr)(d:D):Prop:=(∃r,d=.tuple [.str "ring",pD r]/\Nu l ps r/\MG n l ps)\/∃r,d=.tuple [.str "row",tupI r]/\Row n l r/\∀p,p∈ps->r.idxOf p.2 < r.idxOf p.1
theorem y7 {n:Nat}:∀{put l:List Pr} {p:Pr},((0<=p.1/\p.1 < n)/\(0<=p.2/\p.2 < n))->p∈l->p∈putAll n l put
 | [],l,p,_,h=>h
 |t :: put,l,p,hr,h=>y7 (put:=put) (l:=putL n l t) hr ((lx hr).mpr (.inl h))
def CK {n:Nat}{l ps:List Pr}(ht:∀p,p∈ps->p∈jE n l):LO n l (pD ps)=true:=by
 show (ps.map aw).all (HR n l)=true
 rw[Oq]
 intro d hd
 obtain⟨p,hp,rfl⟩:=NY.mp hd
 obtain⟨hr,ha⟩:=nq.mp (ht p hp)
 rw[G7 hr];exact ha
def Ij {n:Nat}{l ps:List Pr}(O:OM.Ord n l)(hz:ps.length<=100)(ht:∀p,p∈ps->p∈jE n l):∃d,J8 [aB n l,pD ps]=.ok d false/\Np n l ps d:=by
 show ∃d,fin (kG fJ IA GO Kc JQ LV Kq [.fz (aB n l),.fz (pD ps),.no,.no,.no] 0)=.ok d false/\_
 unfold kG
 rw[au (env':=[.fz (aB n l),.fz (pD ps),.no,.no,.no]) (β':=0) (by rw[nA,ax (ds:=[aB n l]) (β1:=0) rfl (mV O)];rfl)]
 have et:j3 (ao IA (aa (gv 1) (aa (gv 0) ag))) (vl [.fz (aB n l),.fz (pD ps),.no,.no,.no]) 0=.ok true 0:=by
  rw[<-CK ht]
  exact kP (ax (ds:=[pD ps,aB n l]) rfl (Ka (B6 hz)))
 rw[au (env':=[.fz (aB n l),.fz (pD ps),.no,.no,.no]) (β':=0) (by rw[fK (fE et)];rfl)]
 rw[au (env':=[.fz (aB n l),.fz (pD ps),.fz (bP n (bu l)),.no,.no]) (β':=0) (by rw[b4,ax (ds:=[aB n l]) (β1:=0) rfl (Hv O)];rfl)]
 rw[au (env':=gE n l ps [] .no) (β':=0) (by rw[fG,lp (ds:=[]) an];rfl)]
 rcases Kr O hz ht ps [] .no rfl O (λp hp=>by cases hp) with⟨r,e,h⟩ | ⟨s4,e,Op,hp⟩
 ·refine⟨_,?_,.inl ⟨r,rfl,h⟩⟩
  rw[gx (d:=.tuple [.str "ring",pD r]) (b:=false) (β':=0)]
  ·rfl
  rw[c5 (env:=gE n l ps [] .no) (ds:=ps.map aw) (β1:=0) rfl]
  exact e
 ·obtain⟨r,er,hR,_⟩:=Mn (late:=[]) Op (by simp)
  refine⟨.tuple [.str "row",tupI r],?_,.inr ⟨r,rfl,⟨hR.1,?_⟩,λp hpp=>?_⟩⟩
  ·rw[au (env':=gE n l ps ps s4) (β':=0) (by
    rw[c5 (env:=gE n l ps [] .no) (ds:=ps.map aw) (β1:=0) rfl]
    exact e)]
   rw[cq]
   have ef:cC (aa (cst (.str "row")) (aa (ao Kq (aa (gv 2) (aa (bD ag) ag))) ag)) (vl (gE n l ps ps s4)) 0=.ok (.tuple [.str "row",tupI r]) 0:=jd (ds:=[.str "row",tupI r]) (ac rfl (ac (ax (ds:=[bP n (bu (putAll n l ps)),.list (([]:List Int).map int)]) (ac rfl (ac (lp (ds:=[]) an) an)) er) an)) (by simp)
   show fin (toS (cC (aa (cst (.str "row")) (aa (ao Kq (aa (gv 2) (aa (bD ag) ag))) ag)) (vl (gE n l ps ps s4)) 0) _)=_
   rw[ef];rfl
  ·have:=hR.2
   unfold yn at this ⊢
   rw[Oq] at this ⊢
   exact λp hp=>this p (y7 (O.wn p hp) hp)
  ·have:=hR.2
   unfold yn at this
   rw[Oq] at this
   exact OT (this _ (hp p hpp))
theorem zq {n:Nat}{r:List Int}:∀{put l:List Pr},(∀p,p∈l->r.idxOf p.1 < r.idxOf p.2)->(∀p,p∈put->r.idxOf p.2 < r.idxOf p.1)->∀p,p∈putAll n l put->r.idxOf p.1 < r.idxOf p.2
 | [],l,h,_=>h
 |t :: put,l,h,h2=>by
  refine zq (put:=put) (l:=putL n l t) (λp hp=>?_) (λp hp=>h2 p (NP _ hp))
  have q:∀x y:Int,k6 l x y=true->r.idxOf x<=r.idxOf y:=λx y hxy=>by
   rcases fu.mp hxy with e |hm
   ·rw[e];exact NQ _
   ·exact Qq (h _ hm)
  rcases oj hp with hm | ⟨a,b⟩
  ·exact h p hm
  ·have:=q _ _ a
   have:=q _ _ b
   have:=h2 t (NR ..)
   omega
def D7 {n:Nat}{l ps:List Pr}{r:List Int}(hR:Row n l r)(h:∀p,p∈ps->r.idxOf p.2 < r.idxOf p.1):¬MG n l ps:=by
 rintro⟨put,t,h1,h2,h3⟩
 have hf:=hR.2
 unfold yn at hf
 rw[Oq] at hf
 have:=zq (n:=n) (r:=r) (put:=put) (l:=l) (λp hp=>OT (hf p hp)) (λp hp=>h p (h1 p hp)) t h3
 have:=h t h2
 omega
def zx (f:Nat->Bool)(n:Nat):mk f n < 2 ^ n:=by
 apply Nat.lt_pow_two_of_testBit
 intro i hi
 rw[cW,NZ (by omega)];rfl
def ofM (n m:Nat):List Int:=(dW n).filter λx=>m.testBit x.toNat
def C8 {n m:Nat}(h:m < 2 ^ n):mk (bN (ofM n m)) n=m:=by
 apply Pj
 intro i
 rw[cW]
 by_cases c:i < n
 ·rw[NS c,Bool.true_and]
  unfold bN ofM
  rw[Ox,N2,NX]
  constructor
  ·intro h;simpa using h.2
  ·intro h;exact⟨aV.mpr ⟨by omega,by omega⟩,by simpa using h⟩
 ·rw[NZ c,Bool.false_and]
  exact (Nat.testBit_lt_two_pow (Oi h (Nat.pow_le_pow_right (by omega) (by omega)))).symm
def EI {f:Nat->Bool}{n t:Nat}(ht:t < n)(hf:f t=false):mk f n < mk (eO f t) n:=by
 have h1:mk f n<=mk (eO f t) n:=by rw[<-GJ ht];exact Nat.left_le_or
 have h2:mk f n≠mk (eO f t) n:=λe=>by
  have:=mk_eq.mp e t ht
  unfold eO at this
  rw[hf] at this
  simp at this
 omega
def BU (n m:Nat)(x:Int):Nat:=mk (eO (bN (ofM n m)) x.toNat) n
def GN (n m:Nat)(x:Int):BU n m x < 2 ^ n:=zx _ _
def GQ {n m:Nat}{l:List Pr}{x:Int}(hm:m < 2 ^ n)(hx:x∈a9 l (ofM n m) n):m < BU n m x:=by
 unfold a9 at hx
 obtain⟨h1,h2⟩:=NX.mp hx
 have h1:=aV.mp h1
 unfold dO at h2
 rw[N4,Pn,O7] at h2
 have:=EI (f:=bN (ofM n m)) (n:=n) (t:=x.toNat) (by omega) (by
  unfold bN
  rw[NZ]
  rw[show ((x.toNat:Nat):Int)=x by omega]
  exact h2.1)
 rw[C8 hm] at this
 exact this
def rm (n:Nat)(l:List Pr)(T:List Int)(m:Nat):Int:=((a9 l (ofM n m) n).map λx=>T.getD (BU n m x) 0).sum
structure Wt (n:Nat)(l:List Pr)(lo:Nat)(T:List Int):Prop where
 len:T.length=2 ^ n
 top:T.getD (2 ^ n - 1) 0=1
 eq:∀m,lo<=m->m < 2 ^ n - 1->T.getD m 0=rm n l T m
def ll {T:List Int}{i j:Nat}{v:Int}(h:i≠j):(T.set i v).getD j 0=T.getD j 0:=by
 rw[N7,N7,N8 h]
def Wt.step {n:Nat}{l:List Pr}{lo:Nat}{T:List Int}(W:Wt n l (lo + 1) T)(h:lo < 2 ^ n - 1):Wt n l lo (T.set lo (rm n l T lo)):=by
 have key:∀m,lo<=m->m < 2 ^ n->rm n l (T.set lo (rm n l T lo)) m=rm n l T m:=λm h1 h2=>by
  unfold rm
  congr 1
  refine OR λx hx=>ll ?_
  have:=GQ h2 hx
  omega
 refine⟨by rw[OW];exact W.len,by rw[ll (by omega)];exact W.top,λm h1 h2=>?_⟩
 rw[key m h1 (by omega)]
 by_cases c:m=lo
 ·subst c
  rw[N7,Oc (by rw[W.len];omega)];rfl
 ·rw[ll (by omega)]
  exact W.eq m (by omega) h2
noncomputable def ES:List D->FR:=ba 4 1 (lR BM mh)
def MX {n:Nat}{l:List Pr}(O:OM.Ord n l):∃T,ES [bP n (bu l)]=.ok (.list (T.map int)) true/\Wt n l 0 T:=by
 have h8:=O.hi
 have hp:2 ^ n<=256:=Nat.pow_le_pow_right (n:=2) (by omega) h8
 have hp0:1<=2 ^ n:=Nat.one_le_two_pow
 show ∃T,fin (lR BM mh [.fz (bP n (bu l)),.no,.no,.no] 0)=_/\_
 unfold lR
 have ef:f2 (f2 (cst (.int 1)) (f1 (gv 0) cc) yh) (cst (.int 1)) mq (vl [.fz (bP n (bu l)),.no,.no,.no]) 0=.ok (.int ((2 ^ n - 1:Nat):Int)) 0:=by
  have el:f1 (gv 0) cc (vl [.fz (bP n (bu l)),.no,.no,.no]) 0=.ok (.int n) 0:=by
   rw[mG (ds:=(List.range n).map λb=>mI (bu l b) n) rfl,NT,OO]
  have es:yh (.int 1) (.int (n:Int))=some (.int ((2 ^ n:Nat):Int)):=by
   obtain⟨k,hk⟩:∃k,k=n:=⟨_,rfl⟩
   have:∀t:Nat,t < 9->yh (.int 1) (.int (t:Int))=some (.int ((2 ^ t:Nat):Int)):=by
    intro t ht
    rcases (by omega:t < 8\/t=8) with h |rfl
    ·exact Dy t h
    ·rfl
   exact this n (by omega)
  refine az (x:=.int ((2 ^ n:Nat):Int)) (y:=.int 1) (az (x:=.int 1) (y:=.int n) rfl el es) rfl ?_
  show some (int (((2 ^ n:Nat):Int) - 1))=_
  congr 2
  omega
 rw[au (env':=[.fz (bP n (bu l)),.fz (.int ((2 ^ n - 1:Nat):Int)),.no,.no]) (β':=0) (by rw[b4,ef];rfl)]
 generalize hF:2 ^ n - 1=F
 have hF8:F<=255:=by omega
 obtain⟨L0,hL⟩:∃L0,L0=List.replicate F (0:Int) ++ [1]:=⟨_,rfl⟩
 rw[au (env':=[.fz (bP n (bu l)),.fz (.int ((F:Nat):Int)),.ow (.list (L0.map int)),.no]) (β':=0) ?g1]
 case g1=>
  have er:f2 (bD (aa (cst (.int 0)) ag)) (gv 1) pA (vl [.fz (bP n (bu l)),.fz (.int ((F:Nat):Int)),.no,.no]) 0=.ok (.list ((List.replicate F (0:Int)).map int)) 0:=by
   refine az (x:=.list [.int 0]) (y:=.int F) (lp (ds:=[.int 0]) (ac rfl an)) rfl ?_
   unfold pA
   dsimp only
   rw[NN ⟨by omega,by omega,by rw[Ot];simp;omega⟩]
   congr 2
   simp
  have ec:f2 (f2 (bD (aa (cst (.int 0)) ag)) (gv 1) pA) (bD (aa (cst (.int 1)) ag)) iZ (vl [.fz (bP n (bu l)),.fz (.int ((F:Nat):Int)),.no,.no]) 0=.ok (.list ((List.replicate F (0:Int) ++ [1]).map int)) 0:=by
   refine az (y:=.list [.int 1]) er (lp (ds:=[.int 1]) (ac rfl an)) ?_
   rw[nH (by simp;omega),Ou];rfl
  rw[fG,ec,hL];rfl
 obtain⟨env',β',el,T,s3,rfl,rfl,W⟩:=c6 (t:=.nm 3) (m:=nz 2 (([0] ++ ([3] ++ [])) ++ [3]) [] (f1 (aN 1 [2,3] (.nm 0) (bG (ao BM (aa (gv 0) (aa (gv 3) ag)))) kU (f2 (gv 1) (ao mh (aa (gv 2) (aa (gv 0) ag))) bo)) BI) (gv 3)) (ds:=nK ((F:Int) - 1) F) (k:=0)
  (λk env b=>∃(T:List Int) (s3:Sl),env= [.fz (bP n (bu l)),.fz (.int ((F:Nat):Int)),.ow (.list (T.map int)),s3]/\b=0/\Wt n l (F - k) T)
  (env:=[.fz (bP n (bu l)),.fz (.int ((F:Nat):Int)),.ow (.list (L0.map int)),.no]) (β:=0)
  ⟨_,.no,rfl,rfl,by rw[hL];simp;omega,by
   rw[hL,hF,N7,Ol (by simp)];simp,λm h1 h2=>by omega⟩ (by
   rintro k d env b hk ⟨T,s3,rfl,rfl,W⟩
   have hkF:k < F:=by have:=(N0.mp hk).1;rwa [oH] at this
   have hd:d=.int ((F - 1 - k:Nat):Int):=by
    unfold nK at hk
    rw[NW,Pc hkF] at hk
    cases hk
    rw[show ((F - 1 - k:Nat):Int)=(F:Int) - 1 - (k:Int) by omega]
   subst hd
   rw[OD] at W
   generalize hm:F - 1 - k=m
   rw[show F - k=m + 1 by omega] at W
   have hmN:m < 2 ^ n:=by omega
   refine⟨[.fz (bP n (bu l)),.fz (.int ((F:Nat):Int)),.ow (.list (T.map int)),.fz (.int ((m:Nat):Int))],rfl,?_⟩
   have emk:int ((m:Nat):Int)=mI (bN (ofM n m)) n:=by unfold mI;rw[C8 hmN]
   have ec:aN 1 [2,3] (.nm 0) (bG (ao BM (aa (gv 0) (aa (gv 3) ag)))) kU (f2 (gv 1) (ao mh (aa (gv 2) (aa (gv 0) ag))) bo) (vl [.fz (bP n (bu l)),.fz (.int ((F:Nat):Int)),.ow (.list (T.map int)),.fz (.int ((m:Nat):Int))]) 0=.ok (.list ((a9 l (ofM n m) n).map λx=>int (T.getD (BU n m x) 0))) 0:=by
    refine cR (l:=a9 l (ofM n m) n) (e:=int) (λx=>int (T.getD (BU n m x) 0)) ?_ (by have:=jY l (ofM n m) n;omega) λx hx=>⟨[.da (.int x),.da (.list (T.map int)),.da (.int ((m:Nat):Int))],rfl,?_⟩
    ·have:=ax (F:=BM) (fr:=aa (gv 0) (aa (gv 3) ag)) (vs:=vl [.fz (bP n (bu l)),.fz (.int ((F:Nat):Int)),.ow (.list (T.map int)),.fz (.int ((m:Nat):Int))]) (β:=0) (β1:=0) (ds:=[bP n (bu l),mI (bN (ofM n m)) n]) (by rw[<-emk];rfl) (II O (ofM n m))
     unfold bG
     rw[this];rfl
    ·have hxr:=aV.mp (NX.mp hx).1
     have ew:ao mh (aa (gv 2) (aa (gv 0) ag)) [.da (.int x),.da (.list (T.map int)),.da (.int ((m:Nat):Int))] 0=.ok (.int ((BU n m x:Nat):Int)) 0:=ax (ds:=[mI (bN (ofM n m)) n,.int (x.toNat:Int)]) (by rw[<-emk,show ((x.toNat:Nat):Int)=x by omega];rfl) (vT h8 (by omega))
     refine az (x:=.list (T.map int)) rfl ew ?_
     have hl:=GN n m x
     show ik (T.map int) ((BU n m x:Nat):Int)=_
     rw[cT,gZ (by rw[W.len];exact hl),N7,NK (by rw[W.len];exact hl)];rfl
   have es:f1 (aN 1 [2,3] (.nm 0) (bG (ao BM (aa (gv 0) (aa (gv 3) ag)))) kU (f2 (gv 1) (ao mh (aa (gv 2) (aa (gv 0) ag))) bo)) BI (vl [.fz (bP n (bu l)),.fz (.int ((F:Nat):Int)),.ow (.list (T.map int)),.fz (.int ((m:Nat):Int))]) 0=.ok (.int (rm n l T m)) 0:=by
    refine dU ec ?_
    have e9:((a9 l (ofM n m) n).map λx=>int (T.getD (BU n m x) 0))=((a9 l (ofM n m) n).map λx=>T.getD (BU n m x) 0).map int:=by rw[Pq];rfl
    unfold BI
    dsimp only
    rw[e9,iC];rfl
   refine⟨[.fz (bP n (bu l)),.fz (.int ((F:Nat):Int)),.ow (.list ((T.set m (rm n l T m)).map int)),.fz (.int ((m:Nat):Int))],0,?_,_,_,rfl,rfl,?_⟩
   ·rw[qy (i:=2) (ds:=T.map int) (d:=.int (rm n l T m)) (k:=m) (n:=m) (β1:=0) (β2:=0) es (by rfl) rfl (by rfl) (by
     unfold pQ
     rw[NN (by omega),NN (by rw[NT,W.len];omega)];rfl),<-List.map_set];rfl
   ·rw[OD,show F - (k + 1)=m by omega]
    exact W.step (by omega))
 rw[OD,oH,Nat.sub_self] at W
 refine⟨T,?_,W⟩
 rw[au (env':=[.fz (bP n (bu l)),.fz (.int ((F:Nat):Int)),.ow (.list (T.map int)),s3]) (β':=0) ?g2]
 case g2=>
  rw[c5 (env:=[.fz (bP n (bu l)),.fz (.int ((F:Nat):Int)),.ow (.list (L0.map int)),.no]) (ds:=nK ((F:Int) - 1) F) (β1:=0) ?g3]
  ·exact el
  case g3=>
   show (if (vh ((F:Int) - 1) && vh (-1) && (-1:Int) == -1)=true then R.ok (nK ((F:Int) - 1) (((F:Int) - 1) - (-1)).toNat) 0 else R.bad)=_
   rw[NN (by rw[l4 (by omega) (by omega)];rfl),show (((F:Int) - 1) - (-1)).toNat=F by omega]
 rfl
theorem xr:∀{L:List Int},(∀x,x∈L->0<=x)->0<=L.sum
 | [],_=>by simp
 |x :: L,h=>by
  rw[sum_cons]
  have h1:=h x (NR ..)
  have h2:=xr (L:=L) λy hy=>h y (NP _ hy)
  omega
theorem Ed:∀{L:List Int} {x:Int},(∀x,x∈L->0<=x)->x∈L->x<=L.sum
 |y :: L,x,h,hx=>by
  rw[sum_cons]
  have h1:=h y (NR ..)
  have h2:=xr (L:=L) λz hz=>h z (NP _ hz)
  rcases NO.mp hx with rfl |hx
  ·omega
  ·have:=Ed (L:=L) (λz hz=>h z (NP _ hz)) hx
   omega
theorem Wt.nn {n:Nat}{l:List Pr}{T:List Int}(W:Wt n l 0 T):∀d m,m < 2 ^ n->2 ^ n - m<=d->0<=T.getD m 0
 | 0,m,h,hd=>by omega
 |d + 1,m,h,hd=>by
  by_cases c:m=2 ^ n - 1
  ·rw[c,W.top];omega
  ·rw[W.eq m (Ov _) (by omega)]
   refine xr λy hy=>?_
   obtain⟨x,hx,rfl⟩:=NY.mp hy
   have:=GQ h hx
   exact W.nn d _ (GN n m x) (by omega)
def b6 (n:Nat)(T:List Int)(r:List Int):Int:=T.getD (mk (bN r) n) 0
def Cy {l:List Pr}{r r':List Int}(h:∀x,x∈r↔x∈r')(x:Int):dO l r x=dO l r' x:=by
 unfold dO AG
 have e1:decide (x∈r)=decide (x∈r'):=by rw[O1];exact h x
 rw[e1]
 congr 2
 simp only[h]
def CJ {n:Nat}{r:List Int}(hr:∀x,x∈r->0<=x/\x < (n:Int))(x:Int):x∈r↔x∈ofM n (mk (bN r) n):=by
 unfold ofM
 rw[NX,aV]
 constructor
 ·intro h
  have hx:=hr x h
  refine⟨hx,?_⟩
  rw[cW,NS (by omega)]
  unfold bN
  rw[show ((x.toNat:Nat):Int)=x by omega]
  simp[h]
 ·rintro⟨hx,hb⟩
  rw[cW,NS (by omega)] at hb
  unfold bN at hb
  rw[show ((x.toNat:Nat):Int)=x by omega] at hb
  simpa using hb
def J6 {n:Nat}{r:List Int}(hr:∀x,x∈r->0<=x/\x < (n:Int)){x:Int}(hx:0<=x/\x < (n:Int)):BU n (mk (bN r) n) x=mk (bN (r ++ [x])) n:=by
 unfold BU
 rw[mk_eq]
 intro i hi
 unfold eO bN
 rw[Ox]
 simp only[OY,N2,Ob,Oe]
 constructor
 ·rintro (h |h)
  ·exact .inl ((CJ hr _).mpr h)
  ·exact .inr (by omega)
 ·rintro (h |h)
  ·exact .inl ((CJ hr _).mp h)
  ·exact .inr (by omega)
def jP {n:Nat}{l:List Pr}{r:List Int}(B:rj n l r):mk (bN r) n=2 ^ n - 1↔n<=r.length:=by
 constructor
 ·intro e
  have:(dW n).length<=r.length:=L2.ST.bL (dE n) λx hx=>by
   have hx:=aV.mp hx
   have hb:(mk (bN r) n).testBit x.toNat=true:=by rw[e,Nat.testBit_two_pow_sub_one,NS (by omega)]
   rw[cW,NS (by omega)] at hb
   unfold bN at hb
   rw[show ((x.toNat:Nat):Int)=x by omega] at hb
   simpa using hb
  rw[b5] at this
  exact this
 ·intro h
  apply Pj
  intro i
  rw[cW,Nat.testBit_two_pow_sub_one]
  by_cases c:i < n
  ·have hl:=B.len
   have hp:=qA (n:=n) (r:=r) (by omega) B.inn B.nd
   rw[NS c,Bool.true_and]
   unfold bN
   rw[NS]
   exact hp.mem_iff.mpr (aV.mpr ⟨by omega,by omega⟩)
  ·rw[NZ c];rfl
def Wt.at {n:Nat}{l:List Pr}{T:List Int}{r:List Int}(W:Wt n l 0 T)(B:rj n l r)(h:r.length < n):b6 n T r=((a9 l r n).map λx=>b6 n T (r ++ [x])).sum:=by
 have hm:=zx (bN r) n
 have hne:RM.mk (bN r) n≠2 ^ n - 1:=λe=>by have:=(jP B).mp e;omega
 unfold b6
 rw[W.eq _ (Ov _) (by omega)]
 unfold rm
 have e1:a9 l (ofM n (RM.mk (bN r) n)) n=a9 l r n:=by
  unfold a9
  refine Qo λx _=>(Cy (λy=>CJ B.inn y) x).symm
 rw[e1]
 congr 1
 refine OR λx hx=>?_
 rw[J6 B.inn (aV.mp (NX.mp hx).1)]
def Wt.ways0 {n:Nat}{l:List Pr}{T:List Int}(W:Wt n l 0 T)(r:List Int):0<=b6 n T r:=W.nn (2 ^ n) _ (zx _ _) (Nat.sub_le _ _)
def yU {n:Nat}{l:List Pr}{r:List Int}{x:Int}(B:rj n l r)(hx:x∈a9 l r n):rj n l (r ++ [x]):=B.more (aV.mp (NX.mp hx).1) (NX.mp hx).2
theorem Wt.pos {n:Nat}{l:List Pr}{T:List Int}(O:OM.Ord n l)(W:Wt n l 0 T):∀(k:Nat) (r:List Int),n - r.length<=k->rj n l r->1<=b6 n T r
 | 0,r,hk,B=>by
  unfold b6
  rw[(jP B).mpr (by omega),W.top];omega
 |k + 1,r,hk,B=>by
  by_cases c:r.length < n
  ·have hne:=B.free O c
   obtain⟨x,hx⟩:=List.exists_mem_of_ne_nil _ hne
   have h1:=W.pos O k (r ++ [x]) (by rw[Of,O3];omega) (yU B hx)
   rw[W.at B c]
   have:=Ed (L:=(a9 l r n).map λx=>b6 n T (r ++ [x])) (x:=b6 n T (r ++ [x])) (λy hy=>by
    obtain⟨z,_,rfl⟩:=NY.mp hy
    exact W.ways0 _) (NY.mpr ⟨x,hx,rfl⟩)
   omega
  ·unfold b6
   rw[(jP B).mpr (by omega),W.top];omega
def Iv {n:Nat}{l:List Pr}{T r:List Int}{x:Int}(h8:n<=8)(hT:T.length=2 ^ n)(hx:0<=x/\x < (n:Int)){fw fp fx:VF D}{vs:List Nv}{β:Int}(hw:fw vs β=.ok (.list (T.map int)) β)(hp:fp vs β=.ok (mI (bN r) n) β)(hfx:fx vs β=.ok (.int x) β) :
  f2 fw (ao mh (aa fp (aa fx ag))) bo vs β=.ok (.int (b6 n T (r ++ [x]))) β:=by
 have ew:ao mh (aa fp (aa fx ag)) vs β=.ok (mI (bN (r ++ [x])) n) β:=by
  rw[<-xu hx]
  exact ax (ds:=[mI (bN r) n,.int (x.toNat:Int)]) (ac hp (ac (by rw[hfx,show ((x.toNat:Nat):Int)=x by omega]) an)) (vT h8 (by omega))
 refine az (x:=.list (T.map int)) hw ew ?_
 have hl:=zx (bN (r ++ [x])) n
 show ik (T.map int) ((mk (bN (r ++ [x])) n:Nat):Int)=_
 unfold b6
 rw[cT,gZ (by rw[hT];exact hl),N7,NK (by rw[hT];exact hl)];rfl
noncomputable def LR:List D->FR:=ba 6 4 (m8 BM mh)
abbrev cE (n:Nat)(l:List Pr)(T r:List Int)(a:Int)(j:Nat):En:=[.fz (bP n (bu l)),.fz (.list (T.map int)),.fz (mI (bN r) n),.fz (.int a),.fz (.list ((a9 l r n).map int)),.fz (.int ((j:Nat):Int))]
def y1 (n:Nat)(l:List Pr)(T r:List Int)(x:Int):Int:=(((a9 l r n).take ((a9 l r n).idxOf x)).map λy=>b6 n T (r ++ [y])).sum
def Eo {L:List Int}(nd:L.Nodup){j:Nat}{x:Int}(h:L[j]? =some x):L.idxOf x=j:=by
 obtain⟨hj,e⟩:=N0.mp h
 rw[<-e];exact nd.idxOf_getElem j hj
def M8 {n:Nat}{l:List Pr}{T r:List Int}{a:Int}(O:OM.Ord n l)(W:Wt n l 0 T)(B:rj n l r)(hlt:r.length < n)(h0:0<=a)(h1:a < b6 n T r):∃x b,LR [bP n (bu l),.list (T.map int),mI (bN r) n,.int a]=.ok (.tuple [.int x,.int b]) false/\x∈a9 l r n/\(0<=b/\b < b6 n T (r ++ [x]))/\a=y1 n l T r x + b:=by
 have h8:=O.hi
 show ∃x b,fin (m8 BM mh [.fz (bP n (bu l)),.fz (.list (T.map int)),.fz (mI (bN r) n),.fz (.int a),.no,.no] 0)=_/\_
 unfold m8
 rw[au (env':=[.fz (bP n (bu l)),.fz (.list (T.map int)),.fz (mI (bN r) n),.fz (.int a),.fz (.list ((a9 l r n).map int)),.no]) (β':=0) (by rw[b4,ax (ds:=[bP n (bu l),mI (bN r) n]) (β1:=0) rfl (II O r)];rfl)]
 rw[au (env':=cE n l T r a 0) (β':=0) (by rfl)]
 have hfl:=jY l r n
 obtain⟨env',β',ew,b,j,x,rfl,rfl,hx,hb0,hb1,hsj⟩:=gc (L:=[] ++ ([] ++ ([2] ++ (([] ++ []) ++ [])))) (t:=cI (f2 (gv 3) (f2 (gv 1) (ao mh (aa (gv 2) (aa (f2 (gv 4) (gv 5) bo) ag))) bo) Mu))
  (m:=aG (bg 3 ([] ++ ([] ++ ([2] ++ (([] ++ []) ++ [])))) (f2 (gv 3) (f2 (gv 1) (ao mh (aa (gv 2) (aa (f2 (gv 4) (gv 5) bo) ag))) bo) mq))
   (bg 5 ([] ++ []) (f2 (gv 5) (cst (.int 1)) dh)))
  (λk env β=>∃(b:Int) (j:Nat),env=cE n l T r b j/\β=0/\k=(a9 l r n).length - j/\0<=b/\b < (((a9 l r n).drop j).map λx=>b6 n T (r ++ [x])).sum/\a=(((a9 l r n).take j).map λx=>b6 n T (r ++ [x])).sum + b)
  (λenv β=>∃(b:Int) (j:Nat) (x:Int),env=cE n l T r b j/\β=0/\(a9 l r n)[j]? =some x/\0<=b/\b < b6 n T (r ++ [x])/\a=(((a9 l r n).take j).map λx=>b6 n T (r ++ [x])).sum + b)
  (n:=1000) (k:=(a9 l r n).length) (env:=cE n l T r a 0) (β:=0) (by omega)
  ⟨a,0,rfl,rfl,rfl,h0,by rw[W.at B hlt] at h1;exact h1,by simp⟩ (by
   rintro k env β ⟨b,j,rfl,rfl,rfl,hb0,hb1,hsj⟩
   have hj:j < (a9 l r n).length:=by
    apply Classical.byContradiction
    intro hn
    rw[List.drop_eq_nil_of_le (by omega)] at hb1
    simp at hb1
    omega
   obtain⟨x,hx⟩:∃x,(a9 l r n)[j]? =some x:=⟨_,NK hj⟩
   have hxm:x∈a9 l r n:=N6 hx
   have hxr:=aV.mp (NX.mp hxm).1
   have hdr:(a9 l r n).drop j=x :: (a9 l r n).drop (j + 1):=by
    rw[Qy hj]
    rw[NK hj] at hx
    rw[Option.some.inj hx]
   rw[hdr,OE,sum_cons] at hb1
   have ei:∀c:Int,f2 (gv 4) (gv 5) bo (vl (cE n l T r c j)) 0=.ok (.int x) 0:=λc=>by
    refine az (x:=.list ((a9 l r n).map int)) (y:=.int j) rfl rfl ?_
    show ik ((a9 l r n).map int) (j:Int)=_
    rw[cT,gZ hj]
    rw[NK hj] at hx
    rw[Option.some.inj hx];rfl
   have ev:f2 (gv 1) (ao mh (aa (gv 2) (aa (f2 (gv 4) (gv 5) bo) ag))) bo (vl (cE n l T r b j)) 0=.ok (.int (b6 n T (r ++ [x]))) 0:=Iv (l:=l) h8 W.len hxr rfl rfl (ei b)
   refine⟨decide (b>=b6 n T (r ++ [x])),0,bO _ _ _ _ (az (x:=.int b) (y:=.int (b6 n T (r ++ [x]))) rfl ev rfl),?_⟩
   by_cases c:b>=b6 n T (r ++ [x])
   ·refine .inr ⟨NS c,?_⟩
    show ∃env2 β2 k',aG _ _ (cE n l T r b j) 0=.nx env2 β2/\k' < (a9 l r n).length - j/\_
    rw[au (env':=cE n l T r (b - b6 n T (r ++ [x])) j) (β':=0) (by
     rw[b4,az (x:=.int b) (y:=.int (b6 n T (r ++ [x]))) (d:=.int (b - b6 n T (r ++ [x]))) (β1:=0) (β2:=0) rfl ev rfl];rfl)]
    refine⟨cE n l T r (b - b6 n T (r ++ [x])) (j + 1),0,(a9 l r n).length - (j + 1),?_,by omega,_,_,rfl,rfl,rfl,by omega,by omega,by rw[Pb,hx,Ou,List.sum_append,show ((some x).toList.map λx=>b6 n T (r ++ [x])).sum=b6 n T (r ++ [x]) by simp];omega⟩
    show bg 5 ([] ++ []) (f2 (gv 5) (cst (.int 1)) dh) (cE n l T r (b - b6 n T (r ++ [x])) j) 0=.nx [.fz (bP n (bu l)),.fz (.list (T.map int)),.fz (mI (bN r) n),.fz (.int (b - b6 n T (r ++ [x]))),.fz (.list ((a9 l r n).map int)),.fz (.int ((j + 1:Nat):Int))] 0
    rw[show ((j + 1:Nat):Int)=(j:Int) + 1 by omega];rfl
   ·exact .inl ⟨NZ c,b,j,x,rfl,rfl,hx,hb0,by omega,hsj⟩)
 have hxm:x∈a9 l r n:=N6 hx
 refine⟨x,b,?_,hxm,⟨hb0,hb1⟩,by rw[y1,Eo (show (a9 l r n).Nodup from (dE n).sublist Qv) hx];exact hsj⟩
 have hj:=(N0.mp hx).1
 have ei:f2 (gv 4) (gv 5) bo (vl (cE n l T r b j)) 0=.ok (.int x) 0:=by
  refine az (x:=.list ((a9 l r n).map int)) (y:=.int j) rfl rfl ?_
  show ik ((a9 l r n).map int) (j:Int)=_
  rw[cT,gZ hj]
  rw[NK hj] at hx
  rw[Option.some.inj hx];rfl
 rw[au ew,cq,jd (ds:=[.int x,.int b]) (β1:=0) (ac ei (ac rfl an)) (by simp)];rfl
noncomputable def LN:List D->FR:=ba 1 1 (ja fJ ES GO)
def EM (n:Nat)(T:List Int):b6 n T []=T.getD 0 0:=by
 unfold b6
 have:mk (bN []) n=0:=by
  apply Pj
  intro i
  rw[cW]
  unfold bN
  simp
 rw[this]
noncomputable def pj (n:Nat)(l:List Pr):List Int:=Classical.epsilon λT:List Int=>ES [bP n (bu l)]=.ok (.list (T.map int)) true/\Wt n l 0 T
def mZ {n:Nat}{l:List Pr}(O:OM.Ord n l):ES [bP n (bu l)]=.ok (.list ((pj n l).map int)) true/\Wt n l 0 (pj n l):=Classical.epsilon_spec (p:=λT:List Int=>ES [bP n (bu l)]=.ok (.list (T.map int)) true/\Wt n l 0 T) (MX O)
noncomputable def mf (n:Nat)(l:List Pr):Int:=b6 n (pj n l) []
def ub (n:Nat)(l:List Pr):rj n l []:=⟨P9,(λx hx=>by cases hx),(λp _ h=>by cases h)⟩
def GA {n:Nat}{l:List Pr}(O:OM.Ord n l):1<=mf n l:=(mZ O).2.pos O n [] (by simp) (ub n l)
def Ac {n:Nat}{l:List Pr}(O:OM.Ord n l):ik ((pj n l).map int) 0=some (.int (mf n l)):=by
 have hl:=(mZ O).2.len
 have hp0:1<=2 ^ n:=Nat.one_le_two_pow
 unfold mf
 rw[EM,show (0:Int)=((0:Nat):Int) from rfl,cT,gZ (by omega),N7,NK (by omega)];rfl
def Mp {n:Nat}{l:List Pr}(O:OM.Ord n l):LN [aB n l]=.ok (.int (mf n l)) false:=by
 show fin (ja fJ ES GO [.fz (aB n l)] 0)=_
 unfold ja
 rw[au (env':=[.fz (aB n l)]) (β':=0) (by rw[nA,ax (ds:=[aB n l]) (β1:=0) rfl (mV O)];rfl)]
 have e1:ao ES (aa (ao GO (aa (gv 0) ag)) ag) (vl [.fz (aB n l)]) 0=.ok (.list ((pj n l).map int)) 0:=ax (ds:=[bP n (bu l)]) (ac (ax (ds:=[aB n l]) rfl (Hv O)) an) (mZ O).1
 rw[cq,az (y:=.int 0) (β1:=0) (β2:=0) e1 rfl (Ac O)];rfl
noncomputable def GC:List D->FR:=ba 9 2 (lQ fJ GO ES cP LR mh)
noncomputable abbrev nE (n:Nat)(l:List Pr)(d:D)(a b c e f:Sl):En:=[.fz (aB n l),.fz d,.fz (bP n (bu l)),.fz (.list ((pj n l).map int)),a,b,c,e,f]
def EK {n:Nat}{l:List Pr}{d:D}(O:OM.Ord n l)(h:dP d=false):j3 (ao cP (aa (gv 1) (aa (f2 (gv 3) (cst (.int 0)) bo) ag))) (vl (nE n l d .no .no .no .no .no)) 0=.ok (fF d (mf n l)) 0:=
 kP (ax (ds:=[d,.int (mf n l)]) (ac rfl (ac (az (x:=.list ((pj n l).map int)) (y:=.int 0) rfl rfl (Ac O)) an)) (nr h))
def vH (n:Nat)(l:List Pr)(T:List Int):List Int->List Int->Int
 |_,[]=>0
 |q,x :: xs=>y1 n l T q x + vH n l T (q ++ [x]) xs
theorem y2 {n:Nat}{l:List Pr}{T:List Int}{x:Int}:∀(r q:List Int),vH n l T q (r ++ [x])=vH n l T q r + y1 n l T (q ++ r) x
 | [],q=>by simp[vH]
 |y :: r,q=>by
  show y1 n l T q y + vH n l T (q ++ [y]) (r ++ [x])=y1 n l T q y + vH n l T (q ++ [y]) r + _
  rw[y2 r,OS,List.singleton_append];omega
def Hi {n:Nat}{l:List Pr}{a:Int}(O:OM.Ord n l)(h0:0<=a)(h1:a < mf n l):∃r,GC [aB n l,.int a]=.ok (tupI r) false/\Row n l r/\vH n l (pj n l) [] r=a:=by
 have h8:=O.hi
 have W:=(mZ O).2
 show ∃r,fin (lQ fJ GO ES cP LR mh [.fz (aB n l),.fz (.int a),.no,.no,.no,.no,.no,.no,.no] 0)=_/\_
 unfold lQ
 rw[au (env':=[.fz (aB n l),.fz (.int a),.no,.no,.no,.no,.no,.no,.no]) (β':=0) (by rw[nA,ax (ds:=[aB n l]) (β1:=0) rfl (mV O)];rfl)]
 rw[au (env':=[.fz (aB n l),.fz (.int a),.fz (bP n (bu l)),.no,.no,.no,.no,.no,.no]) (β':=0) (by rw[b4,ax (ds:=[aB n l]) (β1:=0) rfl (Hv O)];rfl)]
 rw[au (env':=nE n l (.int a) .no .no .no .no .no) (β':=0) (by rw[b4,ax (ds:=[bP n (bu l)]) (β1:=0) rfl (mZ O).1];rfl)]
 have t:=EK (d:=.int a) O rfl
 rw[show fF (.int a) (mf n l)=true from NS ⟨h0,h1⟩] at t
 rw[au (env':=nE n l (.int a) .no .no .no .no .no) (β':=0) (by rw[fK (fE t)];rfl)]
 rw[au (env':=nE n l (.int a) (.ow (.list (([]:List Int).map int))) .no .no .no .no) (β':=0) (by rw[fG,lp (ds:=[]) an];rfl)]
 rw[au (env':=nE n l (.int a) (.ow (.list (([]:List Int).map int))) (.fz (mI (bN []) n)) .no .no .no) (β':=0) (by rw[b4,Cm];rfl)]
 rw[au (env':=nE n l (.int a) (.ow (.list (([]:List Int).map int))) (.fz (mI (bN []) n)) (.fz (.int a)) .no .no) (β':=0) (by rfl)]
 obtain⟨env',β',ef,r,b,s7,s8,rfl,rfl,B,hl,hb,hs⟩:=c6 (t:=.nm 7) (m:=aG (bg 8 ([2] ++ ([3] ++ ([5] ++ ([6] ++ [])))) (ao LR (aa (gv 2) (aa (gv 3) (aa (gv 5) (aa (gv 6) ag))))))
   (aG (jA 4 ([] ++ []) (f2 (gv 8) (cst (.int 0)) bo))
   (aG (bg 5 ([5] ++ (([] ++ []) ++ [])) (ao mh (aa (gv 5) (aa (f2 (gv 8) (cst (.int 0)) bo) ag))))
   (bg 6 ([] ++ []) (f2 (gv 8) (cst (.int 1)) bo))))) (ds:=cO 0 n) (k:=0)
  (λk env β=>∃(r:List Int) (b:Int) (s7 s8:Sl),env=nE n l (.int a) (.ow (.list (r.map int))) (.fz (mI (bN r) n)) (.fz (.int b)) s7 s8/\β=0/\rj n l r/\r.length=k/\(0<=b/\b < b6 n (pj n l) r)/\a=vH n l (pj n l) [] r + b)
  (env:=nE n l (.int a) (.ow (.list (([]:List Int).map int))) (.fz (mI (bN []) n)) (.fz (.int a)) .no .no) (β:=0) ⟨[],a,.no,.no,rfl,rfl,ub n l,rfl,⟨h0,h1⟩,by simp[vH]⟩ (by
   rintro k d env β hk ⟨r,b,s7,s8,rfl,rfl,B,hl,⟨hb0,hb1⟩,hs⟩
   obtain⟨hkn,rfl⟩:=iU hk
   rw[OD] at hl
   obtain⟨x,c,ec,hx,hc,hac⟩:=M8 O W B (by omega) hb0 hb1
   have hxr:=aV.mp (NX.mp hx).1
   refine⟨nE n l (.int a) (.ow (.list (r.map int))) (.fz (mI (bN r) n)) (.fz (.int b)) (.fz (.int (0 + (k:Int)))) s8,rfl,?_⟩
   generalize int (0 + (k:Int))=dk
   rw[au (env':=nE n l (.int a) (.ow (.list (r.map int))) (.fz (mI (bN r) n)) (.fz (.int b)) (.fz dk) (.fz (.tuple [.int x,.int c]))) (β':=0) (by
    rw[b4,ax (ds:=[bP n (bu l),.list ((pj n l).map int),mI (bN r) n,.int b]) (β1:=0) rfl ec];rfl)]
   rw[au (env':=nE n l (.int a) (.ow (.list ((r ++ [x]).map int))) (.fz (mI (bN r) n)) (.fz (.int b)) (.fz dk) (.fz (.tuple [.int x,.int c]))) (β':=0) (by
    rw[j9 (i:=4) (ds:=r.map int) (d:=.int x) (β':=0) (by rfl) (az (x:=.tuple [.int x,.int c]) (y:=.int 0) rfl rfl rfl) (by rfl) (by rw[NT];omega),Ou];rfl)]
   rw[au (env':=nE n l (.int a) (.ow (.list ((r ++ [x]).map int))) (.fz (mI (bN (r ++ [x])) n)) (.fz (.int b)) (.fz dk) (.fz (.tuple [.int x,.int c]))) (β':=0) (by
    rw[b4,ax (ds:=[mI (bN r) n,.int (x.toNat:Int)]) (β1:=0) (ac rfl (ac (az (x:=.tuple [.int x,.int c]) (y:=.int 0) rfl rfl (by rw[show ((x.toNat:Nat):Int)=x by omega];rfl)) an)) (vT h8 (by omega)),xu hxr];rfl)]
   refine⟨nE n l (.int a) (.ow (.list ((r ++ [x]).map int))) (.fz (mI (bN (r ++ [x])) n)) (.fz (.int c)) (.fz dk) (.fz (.tuple [.int x,.int c])),0,by rfl,r ++ [x],c,_,_,rfl,rfl,yU B hx,by rw[Of,O3];omega,hc,by rw[y2,List.nil_append];omega⟩)
 rw[OD,fo] at hl
 refine⟨r,?_,B.row O (by omega),?_⟩
 rotate_left
 ·have hw:b6 n (pj n l) r=1:=by unfold b6;rw[(jP B).mpr (by omega),W.top]
  omega
 rw[au (env':=nE n l (.int a) (.ow (.list (r.map int))) (.fz (mI (bN r) n)) (.fz (.int b)) s7 s8) (β':=0) ?g]
 case g=>
  rw[c5 (env:=nE n l (.int a) (.ow (.list (([]:List Int).map int))) (.fz (mI (bN []) n)) (.fz (.int a)) .no .no) (ds:=cO 0 n) (β1:=0) (cZ (n:=n) (Mc (n:=n) (l:=l) rfl) (by omega))]
  exact ef
 rw[cq,dU (x:=.list (r.map int)) (d:=tupI r) (β1:=0) rfl (by rfl)];rfl
def MC {n:Nat}{l:List Pr}{a:Int}(O:OM.Ord n l)(h0:0<=a)(h1:a < mf n l):∃r,GC [aB n l,.int a]=.ok (tupI r) false/\Row n l r:=let ⟨r,h,k,_⟩:=Hi O h0 h1;⟨r,h,k⟩
theorem Er {c:Int}:∀{L:List Int},(∀x,x∈L->x<=c)->L.sum<=L.length * c
 | [],_=>by simp
 |x :: L,h=>by
  rw[sum_cons,N5]
  have h1:=h x (NR ..)
  have h2:=Er (L:=L) λy hy=>h y (NP _ hy)
  have:((L.length + 1:Nat):Int) * c=(L.length:Int) * c + c:=by rw[Int.natCast_add,Int.add_mul];simp
  omega
structure WP (r:SO)(Q:SO->Prop):Prop where
 out:Q r
section
variable {m m' m1 m2:SF}{env env1:En}{β β1 β2 z:Int}{Q:SO->Prop}{f fa fb:VF D}{t:VF Bool}{d e:D}{L La Lb:List Nat}{i j:Nat}{c:Bool}
def wp_at (env1:En)(e:env=env1)(k:WP (m env1 β) Q):WP (m env β) Q:=by rw[e];exact k
def wp_seq (h:m env β=.nx env1 β1)(k:WP (m' env1 β1) Q):WP (aG m m' env β) Q:=by rw[au h];exact k
theorem qH (h:WP (aG m kZ env β) Q):WP (m env β) Q:=by
 obtain⟨h⟩:=h
 unfold aG at h
 cases e:m env β with
 |_=>rw[e] at h;exact⟨h⟩
def sI (q:Q (.nx env β)):WP (kZ env β) Q:=⟨q⟩
def kM (h:f (vl env) β=.ok d β1)(k:WP (m' ((bp L env).set i (.fz d)) β1) Q):WP (aG (bg i L f) m' env β) Q:=wp_seq (by unfold bg;rw[h];rfl) k
def Fs (h:f (vl env) β=.ok d β1)(k:WP (m' ((bp L env).set i (.ow d)) β1) Q):WP (aG (gM i L f) m' env β) Q:=wp_seq (by unfold gM;rw[h];rfl) k
def FP (h:f (vl env) β=.ok (.list [.int z]) β1)(k:WP (m' ((sh (bp L env)).set i .bx) z) Q):WP (aG (zu i L f) m' env β) Q:=wp_seq (by unfold zu;rw[h];rfl) k
def Gd (h:f (vl env) β=.ok d β1)(k:WP (m' (bp L env) β1) Q):WP (aG (mC L f) m' env β) Q:=wp_seq (by unfold mC;rw[h];rfl) k
def wp_bind {t:Tg}(h:f (vl env) β=.ok d β1)(hb:eT t d (bp L env)=some env1)(k:WP (m' env1 β1) Q):WP (aG (zD t L f) m' env β) Q:=wp_seq (by unfold zD;rw[h];dsimp only[toS];rw[hb]) k
def IK {ds:List D}(hi:env[i]? =some (.ow (.list ds)))(h:f (vl env) β=.ok d β1)(hL:(bp L env)[i]? =some (.ow (.list ds)))(hz:ds.length<=1000)(k:WP (m' ((bp L env).set i (.ow (.list (ds ++ [d])))) β1) Q):WP (aG (jA i L f) m' env β) Q:=wp_seq (j9 hi h hL hz) k
def kI (h:t (vl env) β=.ok false β1)(k:WP (m' (bp L env) β1) Q):WP (aG (jF L t m1 kZ) m' env β) Q:=wp_seq (by rw[fK h];rfl) k
def FU (h:t (vl env) β=.ok true β1)(k:WP (aG m1 m' (bp L env) β1) Q):WP (aG (jF L t m1 m2) m' env β) Q:=by
 have:aG (jF L t m1 m2) m' env β=aG m1 m' (bp L env) β1:=by unfold aG;rw[jq h]
 rw[this];exact k
def MV (h:t (vl env) β=.ok false β1)(k:WP (m2 (bp L env) β1) Q):WP (jF L t m1 m2 env β) Q:=by rw[fK h];exact k
def xI (h:f (vl env) β=.ok d β1)(q:Q (.rt d false β1)):WP (bM f env β) Q:=⟨by unfold bM;rw[h];exact q⟩
def yg {R:FR}(h:WP (m env β) λr=>fin r=R):fin (m env β)=R:=h.out
def xC {t:Tg}{fi:VF (List D)}{ds:List D}(I:Nat->En->Int->Prop)(hi:fi (vl env) β=.ok ds β1)(h0:I 0 (bp L env) β1)
  (hs:∀i d env β,ds[i]? =some d->I i env β->∃env1,eT t d env=some env1/\WP (m env1 β) λr=>∃env2 β2,r=.nx env2 β2/\I (i + 1) env2 β2)
  (k:∀env β,I ds.length env β->WP (m' env β) Q):WP (aG (dr t L fi m) m' env β) Q:=by
 obtain⟨env',β',e,h⟩:=c6 (t:=t) (m:=m) I (ds:=ds) (k:=0) h0 λi d env β hd h=>by
  rw[OD] at h
  obtain⟨env1,e1,⟨env2,β2,e2,h2⟩⟩:=hs i d env β hd h
  exact⟨env1,e1,env2,β2,e2,by rw[OD];exact h2⟩
 rw[OD] at h
 exact wp_seq ((c5 hi).trans e) (k _ _ h)
end
def BZ (c:Int)(hc:0<=c/\c<=100)(ns:List Int)(vs:List Nv)(β:Int)(h:gv 0 vs β=.ok (cX ns) β):∃m:Nat,m<=101/\cY (f2 (cst (.int 1)) (f2 (f1 (gv 0) cc) (cst (.int c)) (vf λi j=>.int (if j < i then j else i))) (vf λi j=>.int (if j > i then j else i))) vs β=.ok (cO 0 m) β:=by
 have e1:f2 (cst (.int 1)) (f2 (f1 (gv 0) cc) (cst (.int c)) (vf λi j=>.int (if j < i then j else i))) (vf λi j=>.int (if j > i then j else i)) vs β=.ok (.int (if (if c < ((ns.map int).length:Int) then c else ((ns.map int).length:Int)) > 1 then (if c < ((ns.map int).length:Int) then c else ((ns.map int).length:Int)) else 1)) β:=
  az (x:=.int 1) rfl (az (x:=.int (ns.map int).length) (y:=.int c) (dU h rfl) rfl rfl) rfl
 generalize ((ns.map int).length:Nat)=k at e1
 refine⟨(if (if c < (k:Int) then c else (k:Int)) > 1 then (if c < (k:Int) then c else (k:Int)) else 1).toNat,?_,cZ (e1.trans ?_) ?_⟩
 ·split <;> split <;> omega
 ·congr 2
  split <;> split <;> omega
 ·split <;> split <;> omega
def It (d:D):Prop:=dP d=false/\Sq 400 8 d/\Bf d
def Th (d:D):Prop:=Ge d/\Sq 10000 9 d/\Bf d
def Ap (P:D->Prop)(k:Nat)(es:List D):Prop:=es.length<=k/\∀x,x∈es->P x
abbrev Al:Nat->List D->Prop:=Ap It
def Et.it {d:D}(h:Et d):It d:=⟨h.scr,h.sq.mono (by omega) (by omega),h.bf⟩
def IP {i:Int}(h: -1<=i/\i<=9):It (.int i):=(zc h).it
def Ey {k:Nat}{r:List Int}(hl:r.length<=k)(h:∀x,x∈r->0<=x/\x < 9):Al k (r.map int):=⟨by rw[NT];exact hl,λx hx=>by
 obtain⟨y,hy,rfl⟩:=NY.mp hx
 exact IP (by have:=h y hy;omega)⟩
def Ap.tup {k:Nat}{a:List D}(h:Al k a)(hk:k<=24):Th (.tuple a):=by
 have:=h.1
 refine⟨Em (by omega) λx hx=>(h.2 x hx).1,(CT (c:=400) (k:=8) λd hd=>(h.2 d hd).2.1).mono ?_ (by omega),CL λd hd=>(h.2 d hd).2.2⟩
 have:(400 + 2) * a.length<=402 * 24:=O5 (by omega) (by omega)
 omega
def IH {r:List Int}(hl:r.length<=9)(h:∀x,x∈r->0<=x/\x < 9):It (tupI r):=by
 have sm:∀d,d∈r.map int->Et d:=λd hd=>by
  obtain⟨y,hy,rfl⟩:=NY.mp hd
  exact zc (by have:=h y hy;omega)
 refine⟨rfl,(CT (c:=20) (k:=0) λd hd=>(sm d hd).sq).mono ?_ (by omega),CL λd hd=>(sm d hd).bf⟩
 rw[NT]
 have:(20 + 2) * r.length<=22 * 9:=O5 (by omega) hl
 omega
def Ks {n:Nat}{r:List Int}(h8:n<=8)(hp:r.Perm (dW n)):r.length=n/\∀x,x∈r->0<=x/\x < 9:=⟨by rw[hp.length_eq,b5],λx hx=>by have:=aV.mp (hp.mem_iff.mp hx);omega⟩
def Ee {ds:List D}{k:Nat}(h:k < ds.length):∃d,ds[k]? =some d/\d∈ds/\ik ds (k:Int)=some d:=⟨ds[k],NK h,O8 h,ko (NK h)⟩
def ext (n:Nat)(l:List Pr)(r:List Int):List (List Int):=(a9 l r n).map λx=>r ++ [x]
def Iz {n:Nat}{l:List Pr}{r:List Int}(B:rj n l r):(a9 l r n).length<=n - r.length:=by
 have nd:(a9 l r n ++ r).Nodup:=by
  rw[Qp]
  refine⟨(dE n).sublist Qv,B.nd,λa ha b hb e=>?_⟩
  subst e
  have:=(NX.mp ha).2
  unfold dO at this
  rw[N4,Pn,O7] at this
  exact this.1 hb
 have:=L2.ST.bL nd (m:=dW n) λx hx=>(Ob.mp hx).elim (λh=>(NX.mp h).1) λh=>aV.mpr (B.inn x h)
 rw[Of,b5] at this
 omega
def ue {n:Nat}{l:List Pr}{q s:List Int}(h:Row n l (q ++ s)):rj n l q:=by
 obtain⟨pm,hf⟩:=h
 have nd:(q ++ s).Nodup:=pm.nodup_iff.mpr (dE n)
 refine⟨nd.sublist (List.sublist_append_left q s),λx hx=>aV.mp (pm.mem_iff.mp (OV _ hx)),λp hp hm=>?_⟩
 unfold yn at hf
 have:=OT (Oq.mp hf p hp)
 rw[Po,Po,NN hm] at this
 have h2:=OI.mpr hm
 by_cases c:p.1∈q
 ·rw[NN c] at this;exact⟨c,this⟩
 ·rw[NV c] at this;omega
def qY {n:Nat}{l:List Pr}{q s:List Int}{x:Int}(h:Row n l (q ++ x :: s)):x∈a9 l q n:=by
 have B:rj n l (q ++ [x]):=ue (s:=s) (by rw[OS];exact h)
 have hx:x∉q:=λhq=>(Qp.mp B.nd).2.2 x hq x (Oe.mpr rfl) rfl
 refine NX.mpr ⟨aV.mpr (B.inn x (by simp)),?_⟩
 unfold dO
 rw[N4,Pn,O7,N2]
 refine⟨hx,List.eq_nil_iff_forall_not_mem.mpr λy hy=>?_⟩
 obtain⟨h1,h2⟩:=jl.mp hy
 obtain⟨h3,h4⟩:=B.fit (y,x) h1 (by simp)
 rw[Po,Po,NV h2,NV hx] at h4
 simp at h4;omega
theorem y9 {f:Int->Int}{L:List Int}(h:∀x,0<=f x){i:Nat}:∀{j:Nat},i<=j->((L.take i).map f).sum<=((L.take j).map f).sum
 | 0,e=>by cases Nat.le_zero.mp e;exact Int.le_refl _
 |j + 1,e=>by
  by_cases c:i=j + 1
  ·rw[c];exact Int.le_refl _
  ·refine Int.le_trans (y9 h (j:=j) (by omega)) ?_
   rw[Pb,Ou,List.sum_append]
   cases L[j]? with
   |none=>simp
   |some x=>have:=h x;simp;omega
def DA {n:Nat}{l:List Pr}{T q:List Int}{x:Int}(hx:x∈a9 l q n):∃i,(a9 l q n)[i]? =some x/\y1 n l T q x=(((a9 l q n).take i).map λy=>b6 n T (q ++ [y])).sum/\y1 n l T q x + b6 n T (q ++ [x])=(((a9 l q n).take (i + 1)).map λy=>b6 n T (q ++ [y])).sum:=by
 obtain⟨i,hi⟩:=PZ.mp hx
 have e:=Eo (show (a9 l q n).Nodup from (dE n).sublist Qv) hi
 refine⟨i,hi,by rw[y1,e],?_⟩
 rw[y1,e,Pb,hi,Ou,List.sum_append,show ((some x).toList.map λy=>b6 n T (q ++ [y])).sum=b6 n T (q ++ [x]) by simp]
theorem zV {n:Nat}{l:List Pr}{T:List Int}(W:Wt n l 0 T):∀(s q:List Int),Row n l (q ++ s)->0<=vH n l T q s/\vH n l T q s < b6 n T q
 | [],q,h=>by
  have B:=ue h
  have hl:=h.1.length_eq
  rw[b5,PD] at hl
  have:b6 n T q=1:=by unfold b6;rw[(jP B).mpr (by omega),W.top]
  rw[this];show 0<=(0:Int)/\(0:Int) < 1;omega
 |x :: s,q,h=>by
  have B:=ue h
  have hl:=h.1.length_eq
  rw[b5,Of,N5] at hl
  obtain⟨h1,h2⟩:=zV W s (q ++ [x]) (by rw[OS];exact h)
  obtain⟨i,hi,e1,e2⟩:=DA (T:=T) (qY h)
  have h3:=y9 (L:=a9 l q n) (f:=λy=>b6 n T (q ++ [y])) (λy=>W.ways0 _) (i:=i + 1) (j:=(a9 l q n).length) (N0.mp hi).1
  have h4:=y9 (L:=a9 l q n) (f:=λy=>b6 n T (q ++ [y])) (λy=>W.ways0 _) (i:=0) (j:=i) (Ov _)
  rw[List.take_length,<-W.at B (by omega)] at h3
  simp only[List.take_zero,List.map_nil,List.sum_nil] at h4
  show 0<=y1 n l T q x + vH n l T (q ++ [x]) s/\y1 n l T q x + vH n l T (q ++ [x]) s < b6 n T q
  omega
theorem yB {n:Nat}{l:List Pr}{T:List Int}(W:Wt n l 0 T):∀(s s' q:List Int),Row n l (q ++ s)->Row n l (q ++ s')->vH n l T q s=vH n l T q s'->s=s'
 | [],s',q,h,h',e=>by
  have h1:=h.1.length_eq
  have h2:=h'.1.length_eq
  rw[b5,Of] at h1 h2
  exact (Qf.mp (by rw[length_nil] at h1;omega)).symm
 |x :: s,[],q,h,h',e=>by
  have h1:=h.1.length_eq
  have h2:=h'.1.length_eq
  rw[b5,Of] at h1 h2
  rw[N5] at h1
  rw[length_nil] at h2
  omega
 |x :: s,y :: s',q,h,h',e=>by
  have k:Row n l ((q ++ [x]) ++ s):=by rw[OS];exact h
  have k':Row n l ((q ++ [y]) ++ s'):=by rw[OS];exact h'
  have b1:=zV W s _ k
  have b2:=zV W s' _ k'
  obtain⟨i,hi,e1,e2⟩:=DA (T:=T) (qY h)
  obtain⟨j,hj,f1,f2⟩:=DA (T:=T) (qY h')
  have e:y1 n l T q x + vH n l T (q ++ [x]) s=y1 n l T q y + vH n l T (q ++ [y]) s':=e
  have mono:=λa b (z:a<=b)=>y9 (L:=a9 l q n) (f:=λy=>b6 n T (q ++ [y])) (λy=>W.ways0 _) (i:=a) (j:=b) z
  have hij:i=j:=by
   rcases Qn i j with c |c |c
   ·have:=mono (i + 1) j c;omega
   ·exact c
   ·have:=mono (j + 1) i c;omega
  subst hij
  have hxy:x=y:=Option.some.inj (hi.symm.trans hj)
  subst hxy
  rw[yB W s s' (q ++ [x]) k k' (by omega)]
def IZ {n:Nat}{l:List Pr}{r:List Int}(O:OM.Ord n l)(h:Row n l r):∃a:Int,(0<=a/\a < mf n l)/\GC [aB n l,.int a]=.ok (tupI r) false:=by
 have W:=(mZ O).2
 have b:=zV W r [] h
 refine⟨_,b,?_⟩
 obtain⟨r',e,h',eo⟩:=Hi O b.1 b.2
 rw[<-yB W r' r [] h' h eo]
 rw[yB W r' r [] h' h eo] at e ⊢
 exact e
def JR:Nat->Nat
 | 0=>1
 |k + 1=>(k + 1) * JR k
theorem Wt.few {n:Nat}{l:List Pr}{T:List Int}(W:Wt n l 0 T):∀(k:Nat) (r:List Int),r.length + k=n->rj n l r->b6 n T r<=(JR k:Nat)
 | 0,r,hk,B=>by
  unfold b6
  rw[(jP B).mpr (by omega),W.top];decide
 |k + 1,r,hk,B=>by
  rw[W.at B (by omega)]
  have h1:=Er (c:=(JR k:Nat)) (L:=(a9 l r n).map λx=>b6 n T (r ++ [x])) λy hy=>by
   obtain⟨x,hx,rfl⟩:=NY.mp hy
   exact W.few k (r ++ [x]) (by rw[Of,O3];omega) (yU B hx)
  rw[NT] at h1
  have h2:=Iz B
  have h3:(((a9 l r n).length * JR k:Nat):Int)<=((JR (k + 1):Nat):Int):=Int.ofNat_le.mpr (Nat.mul_le_mul_right _ (by omega))
  rw[Int.natCast_mul] at h3
  omega
def Mk:∀n,n < 6->JR n<=120:=by decide
def FF {n:Nat}{l:List Pr}(O:OM.Ord n l)(h:n<=5):mf n l<=120:=by
 have h1:=(mZ O).2.few n [] (by simp) (ub n l)
 have h2:=Mk n (by omega)
 unfold mf
 omega
def L4 (r:List Int)(ps:List Pr):Prop:=∀p,p∈ps->r.idxOf p.2 < r.idxOf p.1
def Dk {n:Nat}{l:List Pr}{r:List Int}(hR:Row n l r){p q:Pr}(h:iW l p q=true):r.idxOf p.1<=r.idxOf q.2:=by
 unfold iW at h
 rw[OY,N2,N2] at h
 rcases h with e |h
 ·rw[e];exact NQ _
 ·exact Qq (OT (Oq.mp hR.2 _ h))
def B3 {n:Nat}{l ps:List Pr}{r:List Int}(hR:Row n l r)(hne:ps≠ [])(hg:Ex l ps=true)(h:L4 r ps):False:=by
 unfold Ex at hg
 rw[Oq] at hg
 have hl:0 < ps.length:=Qw.mpr hne
 have st:∀i,i < ps.length->r.idxOf (ps.getD (if i=0 then ps.length - 1 else i - 1) (0,0)).1 < r.idxOf (ps.getD i (0,0)).1:=λi hi=>by
  have h1:=Dk hR (hg i (N9.mpr hi))
  have h2:=h (ps.getD i (0,0)) (by rw[N7,NK hi];exact O8 hi)
  omega
 have up:∀i,i < ps.length->r.idxOf (ps.getD 0 (0,0)).1<=r.idxOf (ps.getD i (0,0)).1:=by
  intro i
  induction i with
  |zero=>exact λ_=>NQ _
  |succ i ih=>
   intro hi
   have h1:=st (i + 1) hi
   rw[NV (by omega),Nat.add_sub_cancel] at h1
   have:=ih (by omega)
   omega
 have h1:=st 0 hl
 rw[NN rfl] at h1
 have:=up (ps.length - 1) (by omega)
 omega
def zj {n:Nat}{l:List Pr}{p:Pr}(h:p∈jE n l):iW l p p=false:=by
 have:=(nq.mp h).2
 unfold Cr at this
 unfold iW
 simp only[N4,Pn,O7] at this
 simp
 simp_all
def C0 {n:Nat}{l:List Pr}{p q:Pr}{d:D}(hp:p∈jE n l)(hq:q∈jE n l)(h:Np n l [p,q] d):(∃e,d=.tuple [.str "ring",e]/\(iW l p q && iW l q p)=true)\/(∃e,d=.tuple [.str "row",e]/\(iW l p q && iW l q p)=false):=by
 rcases h with⟨r,rfl,⟨hs,nd,hne,hg⟩,_⟩ | ⟨r,rfl,hR,ht⟩
 ·refine .inl ⟨_,rfl,?_⟩
  have hl:=uI nd hs
  have hm:∀x,x∈r->x=p\/x=q:=λx hx=>by have:=hs x hx;simpa using this
  unfold Ex at hg
  rw[Oq] at hg
  match r,hl,hne,hm,nd,hg with
  | [x],_,_,hm,_,hg=>
   have:=hg 0 (by simp)
   have e:iW l x x=true:=this
   rcases hm x (by simp) with rfl |rfl
   ·rw[zj hp] at e;cases e
   ·rw[zj hq] at e;cases e
  | [x,y],_,_,hm,nd,hg=>
   have e1:iW l y x=true:=hg 0 (by simp)
   have e2:iW l x y=true:=hg 1 (by simp)
   have hxy:x≠y:=by simpa using nd
   rcases hm x (by simp) with rfl |rfl <;> rcases hm y (by simp) with rfl |rfl
   ·exact absurd rfl hxy
   ·rw[e1,e2];rfl
   ·rw[e1,e2];rfl
   ·exact absurd rfl hxy
  |x :: y :: z :: s,hl,_,_,_,_=>simp at hl
 ·refine .inr ⟨_,rfl,?_⟩
  cases c:(iW l p q && iW l q p) with
  |false=>rfl
  |true=>
   rw[N4] at c
   have h1:=Dk hR c.1
   have h2:=Dk hR c.2
   have h3:=ht p (by simp)
   have h4:=ht q (by simp)
   omega
def m6 (rows:List (List Int))(p:Pr):Bool:= !decide (p.1=p.2) && (rows.filter λr=>decide (r.idxOf p.1 > r.idxOf p.2)).isEmpty
def Co:List D->FR:=ba 6 2 gz
def HU {n:Nat}{rows:List (List Int)}(h8:n<=8)(hr:rows.length<=100)(hp:∀r,r∈rows->r.Perm (dW n)):Co [.int n,.list (rows.map tupI)]=.ok (.tuple (((OM.cN n).filter (m6 rows)).map aw)) false:=by
 show fin (gz [.fz (.int n),.fz (.list (rows.map tupI)),.no,.no,.no,.no] 0)=_
 unfold gz
 rw[au (env':=[.fz (.int n),.fz (.list (rows.map tupI)),.ow (.list []),.no,.no,.no]) (β':=0) ?g1]
 case g1=>rw[fG,gm (ds:=[]) rfl (by simp)];rfl
 obtain⟨env',β',ef,s,t,u,rfl,rfl⟩:=c6 (t:=.nm 3) (m:=dr (.nm 4) [] (cY (gv 0))
   (aG (bg 5 ([] ++ []) (aN 1 [3,4] (.nm 0) (bG (gv 1)) (cI (f2 (mP (gv 0) (gv 1)) (mP (gv 0) (gv 2)) JS)) (cst (.int 1))))
   (jF (([] ++ []) ++ ([] ++ [])) (yd (cI (f2 (gv 3) (gv 4) (cp true))) (cI (f2 (gv 5) (bD ag) (cp false))))
   (jA 2 ([3] ++ ([4] ++ [])) (cC (aa (gv 3) (aa (gv 4) ag))))
   kZ))) (ds:=cO 0 n) (k:=0)
  (λi env β=>∃s t u:Sl,env= [.fz (.int n),.fz (.list (rows.map tupI)),.ow (.list ((upTo n (m6 rows) i 0).map aw)),s,t,u]/\β=0)
  (env:=[.fz (.int n),.fz (.list (rows.map tupI)),.ow (.list []),.no,.no,.no]) (β:=0) ⟨.no,.no,.no,by rw[Ax];rfl,rfl⟩ (by
   rintro i d env β hi ⟨s,t,u,rfl,rfl⟩
   obtain⟨hin,rfl⟩:=iU hi
   refine⟨[.fz (.int n),.fz (.list (rows.map tupI)),.ow (.list ((upTo n (m6 rows) (0 + i) 0).map aw)),.fz (.int (0 + (i:Int))),t,u],rfl,?_⟩
   rw[OD,Pu]
   obtain⟨env',β',ef,t2,u2,rfl,rfl⟩:=c6 (t:=.nm 4) (m:=aG (bg 5 ([] ++ []) (aN 1 [3,4] (.nm 0) (bG (gv 1)) (cI (f2 (mP (gv 0) (gv 1)) (mP (gv 0) (gv 2)) JS)) (cst (.int 1))))
     (jF (([] ++ []) ++ ([] ++ [])) (yd (cI (f2 (gv 3) (gv 4) (cp true))) (cI (f2 (gv 5) (bD ag) (cp false))))
     (jA 2 ([3] ++ ([4] ++ [])) (cC (aa (gv 3) (aa (gv 4) ag))))
     kZ)) (ds:=cO 0 n) (k:=0)
    (λk env β=>∃t u:Sl,env= [.fz (.int n),.fz (.list (rows.map tupI)),.ow (.list ((upTo n (m6 rows) i k).map aw)),.fz (.int i),t,u]/\β=0)
    (env:=[.fz (.int n),.fz (.list (rows.map tupI)),.ow (.list ((upTo n (m6 rows) i 0).map aw)),.fz (.int i),t,u]) (β:=0) ⟨t,u,rfl,rfl⟩ (by
     rintro k d env β hk ⟨t,u,rfl,rfl⟩
     obtain⟨hkn,rfl⟩:=iU hk
     refine⟨[.fz (.int n),.fz (.list (rows.map tupI)),.ow (.list ((upTo n (m6 rows) i (0 + k)).map aw)),.fz (.int i),.fz (.int (0 + (k:Int))),u],rfl,?_⟩
     rw[OD,Pu]
     have ec:aN 1 [3,4] (.nm 0) (bG (gv 1)) (cI (f2 (mP (gv 0) (gv 1)) (mP (gv 0) (gv 2)) JS)) (cst (.int 1)) [.da (.int n),.da (.list (rows.map tupI)),.da (.list ((upTo n (m6 rows) i k).map aw)),.da (.int i),.da (.int k),u.val] 0=.ok (.list ((rows.filter λr=>decide (r.idxOf (i:Int) > r.idxOf (k:Int))).map λ_=>int 1)) 0:=by
      refine cD (l:=rows) (e:=tupI) (λr=>decide (r.idxOf (i:Int) > r.idxOf (k:Int))) (λ_=>int 1) rfl (by omega) λr hr=>⟨_,rfl,?_,λ_=>rfl⟩
      have hp:=hp r hr
      refine bO _ _ _ _ (az (pH (r:=r) (k:=i) rfl rfl (hp.mem_iff.mpr (aV.mpr ⟨by omega,by omega⟩))) (pH (r:=r) (k:=k) rfl rfl (hp.mem_iff.mpr (aV.mpr ⟨by omega,by omega⟩))) ?_)
      show some (PyData.bool (decide (((r.idxOf (i:Int):Nat):Int) > ((r.idxOf (k:Int):Nat):Int))))=_
      congr 2
      rw[Ox,N2,N2]
      omega
     rw[au (env':=[.fz (.int n),.fz (.list (rows.map tupI)),.ow (.list ((upTo n (m6 rows) i k).map aw)),.fz (.int i),.fz (.int k),.fz (.list ((rows.filter λr=>decide (r.idxOf (i:Int) > r.idxOf (k:Int))).map λ_=>int 1))]) (β':=0) ?g]
     case g=>
      rw[b4]
      show toS (aN 1 [3,4] (.nm 0) (bG (gv 1)) (cI (f2 (mP (gv 0) (gv 1)) (mP (gv 0) (gv 2)) JS)) (cst (.int 1)) [.da (.int n),.da (.list (rows.map tupI)),.da (.list ((upTo n (m6 rows) i k).map aw)),.da (.int i),.da (.int k),u.val] 0) _=_
      rw[ec];rfl
     generalize hL:(rows.filter λr=>decide (r.idxOf (i:Int) > r.idxOf (k:Int)))=L
     have et:yd (cI (f2 (gv 3) (gv 4) (cp true))) (cI (f2 (gv 5) (bD ag) (cp false))) (vl [.fz (.int n),.fz (.list (rows.map tupI)),.ow (.list ((upTo n (m6 rows) i k).map aw)),.fz (.int i),.fz (.int k),.fz (.list (L.map λ_=>int 1))]) 0=.ok (m6 rows ((i:Int),(k:Int))) 0:=by
      have h1:cI (f2 (gv 5) (bD ag) (cp false)) (vl [.fz (.int n),.fz (.list (rows.map tupI)),.ow (.list ((upTo n (m6 rows) i k).map aw)),.fz (.int i),.fz (.int k),.fz (.list (L.map λ_=>int 1))]) 0=.ok L.isEmpty 0:=by
       refine bO _ _ _ _ (az (x:=.list (L.map λ_=>int 1)) (y:=.list []) rfl (gm (ds:=[]) rfl (by simp)) ?_)
       have e9:(L.map λ_=>int 1)=(L.map λ_=>(1:Int)).map int:=by rw[Pq];rfl
       rw[e9,show ([]:List D)=([]:List Int).map int from rfl,qE]
       congr 2
       cases L <;> simp
      have:=Ci (gp (neg:=true) (fa:=gv 3) (fb:=gv 4) (vs:=vl [.fz (.int n),.fz (.list (rows.map tupI)),.ow (.list ((upTo n (m6 rows) i k).map aw)),.fz (.int i),.fz (.int k),.fz (.list (L.map λ_=>int 1))]) (β:=0) (i:=i) (j:=k) rfl rfl) h1
      rw[this]
      unfold m6
      rw[hL];rfl
     cases c:m6 rows ((i:Int),(k:Int)) with
     |true=>
      rw[c] at et
      refine⟨[.fz (.int n),.fz (.list (rows.map tupI)),.ow (.list ((upTo n (m6 rows) i (k + 1)).map aw)),.fz (.int i),.fz (.int k),.fz (.list (L.map λ_=>int 1))],0,?_,_,_,rfl,rfl⟩
      rw[jq et]
      have:=j9 (i:=2) (L:=[3] ++ ([4] ++ [])) (env:=[.fz (.int n),.fz (.list (rows.map tupI)),.ow (.list ((upTo n (m6 rows) i k).map aw)),.fz (.int i),.fz (.int k),.fz (.list (L.map λ_=>int 1))]) (ds:=(upTo n (m6 rows) i k).map aw) (β:=0) (by rfl) (jR (fa:=gv 3) (fb:=gv 4) (a:=i) (b:=k) rfl rfl) (by rfl) (by rw[NT];have:=Eg (m6 rows) i k h8;omega)
      rw[sF _ hin hkn,NN c,Ou]
      exact this
     |false=>
      rw[c] at et
      refine⟨[.fz (.int n),.fz (.list (rows.map tupI)),.ow (.list ((upTo n (m6 rows) i (k + 1)).map aw)),.fz (.int i),.fz (.int k),.fz (.list (L.map λ_=>int 1))],0,?_,_,_,rfl,rfl⟩
      have e8:=sF (m6 rows) hin hkn
      rw[NV (by rw[c];exact Og),PD] at e8
      rw[fK et,e8];rfl)
   rw[fo,OD,DI] at ef
   refine⟨[.fz (.int n),.fz (.list (rows.map tupI)),.ow (.list ((upTo n (m6 rows) (i + 1) 0).map aw)),.fz (.int i),t2,u2],0,?_,_,_,_,rfl,rfl⟩
   rw[c5 (env:=[.fz (.int n),.fz (.list (rows.map tupI)),.ow (.list ((upTo n (m6 rows) i 0).map aw)),.fz (.int i),t,u]) (cZ (n:=n) rfl (by omega))]
   exact ef)
 rw[fo,OD,B9] at ef
 rw[au (env':=[.fz (.int n),.fz (.list (rows.map tupI)),.ow (.list (((OM.cN n).filter (m6 rows)).map aw)),s,t,u]) (β':=0) ?g2]
 case g2=>
  rw[c5 (env:=[.fz (.int n),.fz (.list (rows.map tupI)),.ow (.list []),.no,.no,.no]) (cZ (n:=n) rfl (by omega))]
  exact ef
 rw[cq,dU (x:=.list (((OM.cN n).filter (m6 rows)).map aw)) (d:=.tuple (((OM.cN n).filter (m6 rows)).map aw)) (β1:=0) rfl ?g3]
 case g3=>rfl
 rfl
def pR {rows:List (List Int)}{p:Pr}:m6 rows p=true↔p.1≠p.2/\∀r,r∈rows->r.idxOf p.1<=r.idxOf p.2:=by
 unfold m6
 rw[N4,Pn,O7,List.isEmpty_iff,Pw]
 simp only[N2,Nat.not_lt,gt_iff_lt]
def CS {n:Nat}{rows:List (List Int)}(h1:1<=n)(h8:n<=8)(hne:rows≠ [])(hp:∀r,r∈rows->r.Perm (dW n)):OM.Ord n ((OM.cN n).filter (m6 rows)):=by
 refine⟨h1,h8,λp hm=>OM.bH.mp (NX.mp hm).1,OM.iO _ (OM.jO n),λa h=>?_,λa b c hab hbc=>?_⟩
 ·exact (pR.mp (NX.mp h).2).1 rfl
 ·obtain⟨g1,t1⟩:=NX.mp hab
  obtain⟨g2,t2⟩:=NX.mp hbc
  have g1:=OM.bH.mp g1
  have g2:=OM.bH.mp g2
  obtain⟨n1,q1⟩:=pR.mp t1
  obtain⟨n2,q2⟩:=pR.mp t2
  refine NX.mpr ⟨OM.bH.mpr ⟨g1.1,g2.2⟩,pR.mpr ⟨λe=>?_,λr hr=>OU (q1 r hr) (q2 r hr)⟩⟩
  simp only at e n1 q1 q2
  subst e
  cases rows with
  |nil=>exact hne rfl
  |cons r rest=>
   have hr:r∈r :: rest:=NR ..
   have pm:=hp r hr
   exact n1 (E3 (pm.mem_iff.mpr (aV.mpr g1.1)) (pm.mem_iff.mpr (aV.mpr g1.2)) (Nat.le_antisymm (q1 r hr) (q2 r hr)))
section
variable {m m' m1 m2:SF}{env env1:En}{β β1 β2 z:Int}{Q:SO->Prop}{f fa fb:VF D}{t:VF Bool}{d e:D}{L La Lb:List Nat}{i j:Nat}{c:Bool}
theorem HY (J:En->Int->Prop)(h:∃c β1,t (vl env) β=.ok c β1/\(c=true->WP (m1 (bp L env) β1) λs=>∃env2 β2,s=.nx env2 β2/\J env2 β2)/\(c=false->WP (m2 (bp L env) β1) λs=>∃env2 β2,s=.nx env2 β2/\J env2 β2))(k:∀env β,J env β->WP (m' env β) Q):WP (aG (jF L t m1 m2) m' env β) Q:=by
 obtain⟨c,β1,e,h1,h2⟩:=h
 cases c with
 |true=>obtain⟨env2,β2,e2,hj⟩:=(h1 rfl).out;exact wp_seq ((jq e).trans e2) (k _ _ hj)
 |false=>obtain⟨env2,β2,e2,hj⟩:=(h2 rfl).out;exact wp_seq ((fK e).trans e2) (k _ _ hj)
end
def A2 {α:Type}{own:Nat}{ixs:List Nat}{t:Tg}{fi:VF (List D)}{fe:VF D}{vs:List Nv}{β β1:Int}{ds:List D}(e:α->D)(P:α->Prop)(hi:fi vs β=.ok ds β1)(hz:ds.length<=1000)
  (h:∀d,d∈ds->∃vs1,mw t d (dg own ixs vs)=some vs1/\∀β,∃a β',fe vs1 β=.ok (e a) β'/\P a):∃(as:List α) (β':Int),aN own ixs t fi kU fe vs β=.ok (.list (as.map e)) β'/\as.length=ds.length/\∀a,a∈as->P a:=by
 obtain⟨as,β',ec,hl,hP⟩:=qM (t:=t) (fe:=fe) (vs:=dg own ixs vs) e P (ds:=ds) (β:=β1) h
 refine⟨as,β',?_,hl,hP⟩
 unfold aN
 rw[hi]
 dsimp only[R.bnd]
 rw[NN (sz _ hz),ec];rfl
def Ig (d:D):Prop:=Ge d/\Sq 400 8 d/\Bf d
def Jn {r:List Int}(hl:r.length<=9)(h:∀x,x∈r->0<=x/\x < 9):Ig (tupI r):=⟨(Ey (k:=9) hl h).tup (by omega) |>.1,(IH hl h).2⟩
def GK {t u:VF Bool}{vs:List Nv}{β β1 β2:Int}{c:Bool}(h:t vs β=.ok true β1)(h':u vs β1=.ok c β2):yd t u vs β=.ok c β2:=by rw[yu,h];exact h'
def Hh {t u:VF Bool}{vs:List Nv}{β β1:Int}(h:t vs β=.ok false β1):yd t u vs β=.ok false β1:=by rw[yu,h];rfl
def Ju {a b c:SF}{env:En}{β:Int}{Q:SO->Prop}(h:WP (aG a (aG b c) env β) Q):WP (aG (aG a b) c env β) Q:=by
 obtain⟨h⟩:=h
 refine⟨?_⟩
 unfold aG at h ⊢
 cases e:a env β <;> simp only[e] at h ⊢ <;> exact h
def HL {α:Type}{L:List α}{fc:VF D}{vs:List Nv}{β:Int}(h:fc vs β=.ok (.list (L.map λ_=>int 1)) β):f2 fc (bD ag) (cp false) vs β=.ok (.bool L.isEmpty) β:=by
 refine az (x:=.list (L.map λ_=>int 1)) (y:=.list []) h (lp (ds:=[]) an) ?_
 have e9:(L.map λ_=>int 1)=(L.map λ_=>(1:Int)).map int:=by rw[Pq];rfl
 rw[e9,show ([]:List D)=([]:List Int).map int from rfl,qE]
 congr 2
 cases L <;> simp
noncomputable def yi:List D->FR:=ba 2 2 (p0 fJ MP)
def E2 {n:Nat}{l:List Pr}{d:D}(O:OM.Ord n l)(h:Ge d):yi [d,aB n l]=.ok (.bool (Bh n l d)) false:=by
 show fin (p0 fJ MP [.fz d,.fz (aB n l)] 0)=_
 exact yg (Gd (ax (ds:=[aB n l]) rfl (mV O)) (xI (ax (ds:=[d,aB n l]) rfl (M5 O h)) rfl))
def Gv (ps:List Pr)(r:List Int):Bool:=(ps.filter λp=>decide (r.idxOf p.1 < r.idxOf p.2)).isEmpty
def LP:List D->FR:=ba 2 2 fP
def MY {n:Nat}{l ps:List Pr}{r:List Int}(hp:r.Perm (dW n))(hz:ps.length<=100)(ht:∀p,p∈ps->p∈jE n l):LP [tupI r,pD ps]=.ok (.bool (Gv ps r)) false:=by
 show fin (fP [.fz (tupI r),.fz (pD ps)] 0)=_
 refine yg (xI (HL (L:=ps.filter λp=>decide (r.idxOf p.1 < r.idxOf p.2)) (cD (l:=ps) (e:=aw) _ _ rfl (by omega) λp hpp=>⟨[.da (.int p.1),.da (.int p.2),.da (tupI r)],rfl,?_,λ_=>rfl⟩)) rfl)
 have hb:=(nq.mp (ht p hpp)).1
 refine bO _ _ _ _ (az (pH rfl rfl (hp.mem_iff.mpr (aV.mpr hb.1))) (pH rfl rfl (hp.mem_iff.mpr (aV.mpr hb.2))) ?_)
 show some (PyData.bool (decide (((r.idxOf p.1:Nat):Int) < ((r.idxOf p.2:Nat):Int))))=_
 congr 2
 rw[Ox,N2,N2]
 omega
def yR {n:Nat}{l ps:List Pr}{r:List Int}(hp:r.Perm (dW n))(ht:∀p,p∈ps->p∈jE n l):Gv ps r=true↔L4 r ps:=by
 unfold Gv L4
 rw[List.isEmpty_iff,Pw]
 refine⟨λh p hpp=>?_,λh p hpp=>by have:=h p hpp;simp;omega⟩
 have h1:=h p hpp
 obtain⟨hb,ha⟩:=nq.mp (ht p hpp)
 have hne:p.1≠p.2:=λe=>by unfold Cr at ha;rw[e] at ha;simp at ha
 have h2:r.idxOf p.1≠r.idxOf p.2:=λe=>hne (by
  have h3:=OI.mpr (hp.mem_iff.mpr (aV.mpr hb.1))
  have h4:=OI.mpr (hp.mem_iff.mpr (aV.mpr hb.2))
  have e1:=PR h3
  have e2:=PR h4
  simp only[e] at e1
  rw[<-e1];exact e2)
 simp at h1
 omega
def IW {n:Nat}{l:List Pr}{vs:List Nv}{β:Int}(O:OM.Ord n l)(h5:n<=5)(h3:vs[3]? =some (.da (aB n l))):∃R:List (List Int),aN 1 [3] (.nm 0) (cY (ao LN (aa (gv 3) ag))) kU (ao GC (aa (gv 1) (aa (gv 0) ag))) vs β=.ok (.list (R.map tupI)) β/\R.length<=120/\(∀r,r∈R->Row n l r)/\∀r,Row n l r->r∈R:=by
 have g3:gv 3 vs β=.ok (aB n l) β:=by rw[si,h3];rfl
 have hb:dg 1 [3] vs= [.no,.da (aB n l)]:=by simp[dg,h3]
 have h0:=GA O
 have h1:=FF O h5
 have e1:=ax (fr:=aa (gv 3) ag) (vs:=vs) (β:=β) (ds:=[aB n l]) (ac g3 an) (Mp O)
 have ho:∀r,Row n l r->∃a:Int,(0<=a/\a < mf n l)/\GC [aB n l,.int a]=.ok (tupI r) false:=λr h=>IZ O h
 have hn:∀a:Int,0<=a->a < mf n l->∃r,GC [aB n l,.int a]=.ok (tupI r) false/\Row n l r:=λa=>MC O
 obtain⟨c,hc⟩:∃c:Nat,mf n l=(c:Nat):=⟨(mf n l).toNat,by omega⟩
 rw[hc] at e1 ho hn h1
 have hn:∀k:Nat,∃r,k < c->GC [aB n l,.int (0 + (k:Int))]=.ok (tupI r) false/\Row n l r:=λk=>by
  by_cases z:k < c
  ·obtain⟨r,h⟩:=hn (0 + (k:Int)) (by omega) (by omega);exact⟨r,λ_=>h⟩
  ·exact⟨[],λy=>absurd y z⟩
 obtain⟨g,hg⟩:=Classical.axiomOfChoice hn
 refine⟨(List.range c).map g,?_,by rw[NT,OO];omega,λr hr=>?_,λr hr=>?_⟩
 ·rw[Pq]
  refine cR (l:=List.range c) (e:=λ(k:Nat)=>int (0 + (k:Int))) (λk=>tupI (g k)) ?_ (by rw[OO];omega) λk hk=>⟨[.da (.int (0 + (k:Int))),.da (aB n l)],by rw[hb];rfl,ax (ds:=[aB n l,.int (0 + (k:Int))]) rfl (hg k (N9.mp hk)).1⟩
  rw[cZ (n:=c) e1 (by omega)];rfl
 ·obtain⟨k,hk,rfl⟩:=NY.mp hr
  exact (hg k (N9.mp hk)).2
 ·obtain⟨a,ha,e⟩:=ho r hr
  refine NY.mpr ⟨a.toNat,N9.mpr (by omega),?_⟩
  have:=(hg a.toNat (by omega)).1
  rw[show (0:Int) + (a.toNat:Int)=a by omega,e] at this
  have:tupI r=tupI (g a.toNat):=by injection this
  have:r.map int=(g a.toNat).map int:=by injection this
  exact ((List.map_inj_right λx y h=>by injection h).mp this).symm
noncomputable abbrev kE (ns:List Int)(i n:Nat)(l:List Pr)(R:List (List Int))(s4 s7 s8 s9 s10 s11 s12 s13 s14:Sl):En:=[.fz (cX ns),.fz (.int i),.bx,.fz (aB n l),s4,.fz (pD (jE n l)),.fz (.list (R.map tupI)),s7,s8,s9,s10,s11,s12,s13,s14]
noncomputable def D5:SF:=(dr (.nm 12) (([] ++ []) ++ []) (bG (FY (gv 5) (λ_ β=>.ok none β) (Fm (cst (.int 6)))))
 (aG (bg 13 ([] ++ ([] ++ [])) (f2 (gv 5) (mj 2 dq (aa (f1 (gv 5) cc) ag)) bo))
 (aG (bg 14 (([3] ++ ([12] ++ ([13] ++ []))) ++ ([3] ++ ([13] ++ ([12] ++ [])))) (eN (ao K2 (aa (gv 3) (aa (gv 12) (aa (gv 13) ag)))) (ao K2 (aa (gv 3) (aa (gv 13) (aa (gv 12) ag))))))
 (jF (((([3] ++ (([12] ++ ([13] ++ [])) ++ [])) ++ []) ++ []) ++ []) (cI (f2 (f2 (f2 (ao J8 (aa (gv 3) (aa (bD (aa (gv 12) (aa (gv 13) ag))) ag))) (cst (.int 0)) bo) (cst (.str "ring")) (cp false)) (gv 14) (cp true)))
 (bM (cst (.bool false)))
 kZ))))
def CP {n:Nat}{l:List Pr}{vs:List Nv}(hz:(jE n l).length<=64)(hne:0 < (jE n l).length)(h5:vs[5]? =some (.da (pD (jE n l))))(h2:wg vs 2=true)(β:Int):∃p β',f2 (gv 5) (mj 2 dq (aa (f1 (gv 5) cc) ag)) bo vs β=.ok (aw p) β'/\p∈jE n l:=by
 have g5:gv 5 vs β=.ok (pD (jE n l)) β:=by rw[si,h5];rfl
 obtain⟨j,hj,ej⟩:=jU (m:=(jE n l).length) (by omega) (by omega) β
 obtain⟨p,hp⟩:∃p,(jE n l)[j]? =some p:=⟨_,NK hj⟩
 refine⟨p,_,az (x:=pD (jE n l)) (y:=.int j) g5 (iK (ds:=[.int (jE n l).length]) h2 (ac (by rw[mG g5,NT]) an) ej) ?_,N6 hp⟩
 show ik ((jE n l).map aw) (j:Int)=_
 exact ko (by rw[NW,hp];rfl)
theorem IE {ns:List Int}{i n:Nat}{l:List Pr}{R:List (List Int)}{s4 s7 s8 s9 s10 s11 s12 s13 s14:Sl}{β:Int}(O:OM.Ord n l):WP (D5 (kE ns i n l R s4 s7 s8 s9 s10 s11 s12 s13 s14) β) λr=>∃env2 β2,r=.nx env2 β2/\∃u12 u13 u14,env2=kE ns i n l R s4 s7 s8 s9 s10 s11 u12 u13 u14:=by
 have hz:(jE n l).length<=64:=zy O.hi
 have es:bG (FY (gv 5) (λ_ β=>.ok none β) (Fm (cst (.int 6)))) (vl (kE ns i n l R s4 s7 s8 s9 s10 s11 s12 s13 s14)) β=.ok (((jE n l).take 6).map aw) β:=by
  have:=Cj (fa:=gv 5) (fb:=cst (.int 6)) (vs:=vl (kE ns i n l R s4 s7 s8 s9 s10 s11 s12 s13 s14)) (β:=β) (ds:=(jE n l).map aw) (i:=6) rfl rfl
  unfold bG
  rw[this,List.map_take];rfl
 unfold D5
 refine qH (xC (λ_ env _=>∃u12 u13 u14,env=kE ns i n l R s4 s7 s8 s9 s10 s11 u12 u13 u14) es ⟨_,_,_,rfl⟩ ?_ λenv β h=>sI ⟨_,_,rfl,h⟩)
 rintro k d env β hk ⟨u12,u13,u14,rfl⟩
 rw[NW] at hk
 cases hp:((jE n l).take 6)[k]? with
 |none=>rw[hp] at hk;cases hk
 |some p=>
  rw[hp] at hk
  cases hk
  have hpm:=P8 (N6 hp)
  refine⟨kE ns i n l R s4 s7 s8 s9 s10 s11 (.fz (aw p)) u13 u14,rfl,?_⟩
  obtain⟨q,β1,eq,hqm⟩:=CP (vs:=vl (kE ns i n l R s4 s7 s8 s9 s10 s11 (.fz (aw p)) u13 u14)) hz (Qk hpm) rfl rfl β
  refine kM eq (wp_at (kE ns i n l R s4 s7 s8 s9 s10 s11 (.fz (aw p)) (.fz (aw q)) u14) rfl ?_)
  refine kM (pI (ax (ds:=[aB n l,aw p,aw q]) rfl (KI n l p q)) (ax (ds:=[aB n l,aw q,aw p]) rfl (KI n l q p))) (wp_at (kE ns i n l R s4 s7 s8 s9 s10 s11 (.fz (aw p)) (.fz (aw q)) (.fz (.bool (iW l p q && iW l q p)))) rfl ?_)
  obtain⟨d,ed,hT⟩:=Ij (ps:=[p,q]) O (by simp) λx hx=>by rcases NO.mp hx with rfl |hx;exact hpm;rw[Oe] at hx;exact hx▸hqm
  have hw:∃w e,d=.tuple [.str w,e]/\cp false (.str w) (.str "ring")=some (.bool (iW l p q && iW l q p)):=by
   rcases C0 hpm hqm hT with⟨e,h1,h2⟩ | ⟨e,h1,h2⟩
   ·exact⟨_,e,h1,by rw[h2];kernel_rfl⟩
   ·exact⟨_,e,h1,by rw[h2];kernel_rfl⟩
  obtain⟨w,e,rfl,hw⟩:=hw
  generalize (iW l p q && iW l q p)=b at hw
  have hx:f2 (ao J8 (aa (gv 3) (aa (bD (aa (gv 12) (aa (gv 13) ag))) ag))) (cst (.int 0)) bo (vl (kE ns i n l R s4 s7 s8 s9 s10 s11 (.fz (aw p)) (.fz (aw q)) (.fz (.bool b)))) β1=.ok (.str w) β1:=az (x:=.tuple [.str w,e]) (y:=.int 0) (ax (ds:=[aB n l,pD [p,q]]) (ac rfl (ac (lp (ds:=[aw p,aw q]) rfl) an)) ed) rfl rfl
  refine MV (bO _ _ _ _ (az (x:=.bool b) (y:=.bool b) (az hx rfl hw) rfl (by cases b <;> rfl))) (sI ⟨_,_,rfl,_,_,_,rfl⟩)
def Il:cp false (.str "row") (.str "row")=some (.bool true):=by kernel_rfl
def Jk:cp false (.str "ring") (.str "row")=some (.bool false):=by kernel_rfl
def L3:cp false (.str "row") (.str "ring")=some (.bool false):=by kernel_rfl
def Nc:cp false (.str "ring") (.str "ring")=some (.bool true):=by kernel_rfl
def Mf:cp true (.str "row") (.str "row")=some (.bool false):=by kernel_rfl
def B8 (neg:Bool)(r:List Int)(R:List (List Int)):nZ neg (tupI r) (.list (R.map tupI))=some (.bool (if neg then !decide (r∈R) else decide (r∈R))):=by
 have hs:∀q:List Int,SeqAt.shaped (tupI q)=true:=λq=>by
  unfold SeqAt.shaped
  rw[show (tupI q).canLay0=true by unfold tupI;simp only[PyData.canLay0];exact lay_ints q,zZ];rfl
 have h1:(R.map tupI).all SeqAt.shaped=true:=Oq.mpr λx hx=>by obtain⟨q,_,rfl⟩:=NY.mp hx;exact hs q
 have h2:((R.map tupI).any λe=>PyData.eqv e (tupI r))=decide (r∈R):=by
  rw[Ox,List.any_eq_true,N2]
  constructor
  ·rintro⟨x,hx,e⟩
   obtain⟨q,hq,rfl⟩:=NY.mp hx
   rw[tK,N2] at e
   exact e▸hq
  ·exact λh=>⟨_,NY.mpr ⟨r,h,rfl⟩,by rw[tK];simp⟩
 unfold nZ
 simp only[kW,hs,h1,h2,PL,OP]
def Iw {n:Nat}{l ps:List Pr}{R:List (List Int)}{i6 ip:Nat}{vs:List Nv}{β:Int}(hR:∀r,r∈R->Row n l r)(hl:R.length<=120)(hz:ps.length<=100)(ht:∀p,p∈ps->p∈jE n l)(h6:vs[i6]? =some (.da (.list (R.map tupI))))(hp:vs[ip]? =some (.da (pD ps))):aN 1 [ip] (.nm 0) (bG (gv i6)) (j3 (ao LP (aa (gv 0) (aa (gv 1) ag)))) (gv 0) vs β=.ok (.list ((R.filter (Gv ps)).map tupI)) β:=by
 have hb:dg 1 [ip] vs= [.no,.da (pD ps)]:=by simp[dg,hp]
 refine cD (l:=R) (e:=tupI) (Gv ps) tupI ?_ (by omega) λr hr=>⟨[.da (tupI r),.da (pD ps)],by rw[hb];rfl,kP (ax (ds:=[tupI r,pD ps]) rfl (MY (hR r hr).1 hz ht)),λ_=>rfl⟩
 unfold bG
 rw[si,h6];rfl
noncomputable abbrev kA (ns:List Int)(i n:Nat)(l:List Pr)(R:List (List Int))(s4:Sl)(ps:List Pr)(s8:Sl)(w:String)(d:D)(G:List (List Int))(s12 s13 s14:Sl):En:=kE ns i n l R s4 (.fz (pD ps)) s8 (.fz (.str w)) (.fz d) (.fz (.list (G.map tupI))) s12 s13 s14
noncomputable def Jo:List D->FR:=ba 15 1 (yZ Jv Co yw LN GC J8 LP yi MR K2 uq dq lh)
def Ku (ns:List Int):Jo [cX ns]=.ok (.bool true) false:=by
 show fin (yZ Jv Co yw LN GC J8 LP yi MR K2 uq dq lh [.fz (cX ns),.no,.no,.no,.no,.no,.no,.no,.no,.no,.no,.no,.no,.no,.no] 0)=_
 refine yg ?_
 obtain⟨m,hm,em⟩:=BZ 2 (by omega) ns (vl [.fz (cX ns),.no,.no,.no,.no,.no,.no,.no,.no,.no,.no,.no,.no,.no,.no]) 0 rfl
 unfold yZ
 refine xC (λ_ env _=>∃s1 s2 s3 s4 s5 s6 s7 s8 s9 s10 s11 s12 s13 s14,env= [.fz (cX ns),s1,s2,s3,s4,s5,s6,s7,s8,s9,s10,s11,s12,s13,s14]) em ⟨_,_,_,_,_,_,_,_,_,_,_,_,_,_,rfl⟩ ?_ λenv β ⟨s1,s2,s3,s4,s5,s6,s7,s8,s9,s10,s11,s12,s13,s14,e⟩=>xI (d:=.bool true) rfl rfl
 rintro i d env β hi ⟨s1,s2,s3,s4,s5,s6,s7,s8,s9,s10,s11,s12,s13,s14,rfl⟩
 obtain⟨_,rfl⟩:=iU hi
 rw[Pu]
 refine⟨[.fz (cX ns),.fz (.int i),s2,s3,s4,s5,s6,s7,s8,s9,s10,s11,s12,s13,s14],rfl,?_⟩
 obtain⟨z,ez⟩:=K0 ns i
 obtain⟨n0,l0,β1,eo,O0,hn5⟩:=DZ (most:=5) (by omega) (by omega) z
 obtain⟨q,hq,eq⟩:=jU (m:=3) (by omega) (by omega) β1
 generalize β1 / ((3:Nat):Int)=β2 at eq
 obtain⟨t3,t4,t5,t6,t7,t8,t9,t10,t11,t12,t13,t14,hcl⟩:∃t3 t4 t5 t6 t7 t8 t9 t10 t11 t12 t13 t14:Sl,(sh (bp ([0] ++ ([1] ++ [])) [.fz (cX ns),.fz (.int i),s2,s3,s4,s5,s6,s7,s8,s9,s10,s11,s12,s13,s14])).set 2 .bx= [.fz (cX ns),.fz (.int i),.bx,t3,t4,t5,t6,t7,t8,t9,t10,t11,t12,t13,t14]:=⟨_,_,_,_,_,_,_,_,_,_,_,_,rfl⟩
 refine FP (Cw (ds:=[cX ns,.int i]) rfl ez) (wp_at _ hcl ?_)
 refine kM (iK (ds:=[.int 5]) rfl rfl eo) (wp_at [.fz (cX ns),.fz (.int i),.bx,.fz (aB n0 l0),t4,t5,t6,t7,t8,t9,t10,t11,t12,t13,t14] rfl ?_)
 refine HY (λenv _=>∃(n:Nat) (l:List Pr) (s4:Sl),env= [.fz (cX ns),.fz (.int i),.bx,.fz (aB n l),s4,t5,t6,t7,t8,t9,t10,t11,t12,t13,t14]/\OM.Ord n l/\n<=5) ⟨_,_,gp (neg:=false) (i:=(q:Int)) (j:=2) (iK (ds:=[.int 3]) rfl rfl eq) rfl,λ_=>?_,λ_=>sI ⟨_,_,rfl,n0,l0,t4,rfl,O0,hn5⟩⟩ ?_
 ·obtain⟨rs,β3,ec,hl,hP⟩:=A2 (own:=1) (ixs:=[2]) (t:=.nm 0) (fi:=cY (cst (.int 2))) (fe:=f1 (mj 1 lh (aa (f1 (cst (.int 5)) fI) ag)) lq) (vs:=vl [.fz (cX ns),.fz (.int i),.bx,.fz (aB n0 l0),t4,t5,t6,t7,t8,t9,t10,t11,t12,t13,t14]) (β:=β2) tupI (λr=>r.Perm (dW 5)) (cZ (n:=2) rfl (by omega)) (by rw[fo];omega) λd hd=>⟨[.da d,.bx],rfl,λb=>by
   obtain⟨ms,b',em,pm⟩:=za (dW 5) (by rw[b5];omega) b
   exact⟨ms,b',dU (g:=lq) (x:=.list (ms.map int)) (iK (ds:=[.list ((dW 5).map int)]) (b:=true) rfl (ac (dU (x:=.int (5:Nat)) rfl (o6 (by omega))) an) em) rfl,pm⟩⟩
  rw[fo] at hl
  have hne:rs≠ []:=λe=>by rw[e] at hl;cases hl
  have O:=CS (n:=5) (by omega) (by omega) hne hP
  have et:=HU (n:=5) (rows:=rs) (by omega) (by omega) hP
  generalize (OM.cN 5).filter (m6 rs)=l at O et
  exact kM ec (qH (kM (tp (ds:=[.int (5:Nat),.tuple (l.map aw)]) (ac rfl (ac (ax (ds:=[.int (5:Nat),.list (rs.map tupI)]) rfl et) an))) (sI ⟨_,_,rfl,5,l,_,rfl,O,NQ _⟩)))
 rintro env β ⟨n,l,s4,rfl,O,h5⟩
 have hz:(jE n l).length<=64:=zy O.hi
 refine kM (ax (ds:=[aB n l]) rfl (E5 O)) (wp_at [.fz (cX ns),.fz (.int i),.bx,.fz (aB n l),s4,.fz (pD (jE n l)),t6,t7,t8,t9,t10,t11,t12,t13,t14] rfl ?_)
 obtain⟨R,eR,hRl,hR,hRa⟩:=IW (vs:=vl [.fz (cX ns),.fz (.int i),.bx,.fz (aB n l),s4,.fz (pD (jE n l)),t6,t7,t8,t9,t10,t11,t12,t13,t14]) (β:=β) O h5 rfl
 refine kM eR (Fs (lp (ds:=[]) an) (wp_at (kE ns i n l R s4 (.ow (pD [])) t8 t9 t10 t11 t12 t13 t14) rfl ?_))
 obtain⟨j,hj,ej⟩:=jU (m:=9) (by omega) (by omega) β
 generalize β / ((9:Nat):Int)=β3 at ej
 have ei:∃m:Nat,m<=8/\(0 < m->0 < (jE n l).length)/\cY (f2 (mj 2 dq (aa (cst (.int 9)) ag)) (f1 (f2 (gv 5) (bD ag) (cp true)) Ga) dS) (vl (kE ns i n l R s4 (.ow (pD [])) t8 t9 t10 t11 t12 t13 t14)) β=.ok (cO 0 m) β3:=by
  have e1:f1 (f2 (gv 5) (bD ag) (cp true)) Ga (vl (kE ns i n l R s4 (.ow (pD [])) t8 t9 t10 t11 t12 t13 t14)) β3=.ok (.int (if (!decide (jE n l= []))=true then 1 else 0)) β3:=dU (x:=.bool (!decide (jE n l= []))) (az (x:=.list ((jE n l).map aw)) (y:=.list (([]:List Pr).map aw)) rfl (lp (ds:=[]) an) (vQ true _ _)) rfl
  by_cases c:jE n l= []
  ·rw[NS c] at e1
   refine⟨0,by omega,by omega,cZ (az (x:=.int j) (y:=.int 0) (iK (ds:=[.int 9]) rfl rfl ej) e1 ((yr (by omega)).trans (by simp))) (by omega)⟩
  ·rw[NZ c] at e1
   exact⟨j,by omega,λ_=>Qw.mpr c,cZ (az (x:=.int j) (y:=.int 1) (iK (ds:=[.int 9]) rfl rfl ej) e1 ((yr (by omega)).trans (by simp))) (by omega)⟩
 obtain⟨m',hm8,hmp,ei⟩:=ei
 refine xC (λk env _=>∃ps s8,env=kE ns i n l R s4 (.ow (pD ps)) s8 t9 t10 t11 t12 t13 t14/\ps.length=k/\∀p,p∈ps->p∈jE n l) ei ⟨[],_,rfl,rfl,λp hp=>by cases hp⟩ ?_ ?_
 ·rintro k d env β hk ⟨ps,s8,rfl,hpl,hps⟩
  have hk:=(iU hk).1
  refine⟨kE ns i n l R s4 (.ow (pD ps)) (.fz d) t9 t10 t11 t12 t13 t14,rfl,?_⟩
  obtain⟨p,β4,ep,hp⟩:=CP (vs:=vl (kE ns i n l R s4 (.ow (pD ps)) (.fz d) t9 t10 t11 t12 t13 t14)) hz (hmp (by omega)) rfl rfl β
  refine qH (IK (ds:=ps.map aw) rfl ep rfl (by rw[NT];omega) (sI ⟨_,_,rfl,ps ++ [p],.fz d,by rw[show pD (ps ++ [p])=.list (ps.map aw ++ [aw p]) by rw[pD,Ou];rfl];rfl,by rw[Of,hpl];rfl,λx hx=>?_⟩))
  rcases Ob.mp hx with h |h
  ·exact hps x h
  ·rw[Oe] at h;exact h▸hp
 rintro env β ⟨ps,s8,rfl,hpl,ht⟩
 rw[fo] at hpl
 obtain⟨d,ed,hT⟩:=Ij (ps:=ps) O (by omega) ht
 have gR:=λ(ps:List Pr) (hz:ps.length<=100) (ht:∀p,p∈ps->p∈jE n l) (ip:Nat) (vs:List Nv) (β:Int)=>Iw (n:=n) (l:=l) (ps:=ps) (R:=R) (i6:=6) (ip:=ip) (vs:=vs) (β:=β) hR hRl hz ht
 have fin9:∀{s7 s8 s9 s10 s11:Sl} {β:Int},WP (aG D5 kZ (kE ns i n l R s4 s7 s8 s9 s10 s11 t12 t13 t14) β) λr=>∃env2 β2,r=.nx env2 β2/\∃s1 s2 s3 s4 s5 s6 s7 s8 s9 s10 s11 s12 s13 s14,env2= [.fz (cX ns),s1,s2,s3,s4,s5,s6,s7,s8,s9,s10,s11,s12,s13,s14]:=by
  intro s7 s8 s9 s10 s11 β
  obtain⟨env2,β2,e,u12,u13,u14,rfl⟩:=(IE (ns:=ns) (i:=i) (R:=R) (s4:=s4) (s7:=s7) (s8:=s8) (s9:=s9) (s10:=s10) (s11:=s11) (s12:=t12) (s13:=t13) (s14:=t14) (β:=β) O).out
  exact wp_seq e (sI ⟨_,_,rfl,_,_,_,_,_,_,_,_,_,_,_,_,_,_,rfl⟩)
 rcases hT with⟨r,rfl,⟨h1,h2,h3,h4⟩,hB⟩ | ⟨r,rfl,hRr,hTr⟩
 ·have hG:R.filter (Gv ps)= []:=Pw.mpr λx hx z=>D7 (hR x hx) ((yR (hR x hx).1 ht).mp z) hB
  have hrt:∀p,p∈r->p∈jE n l:=λp hp=>ht p (h1 p hp)
  have hrl:r.length<=100:=by have:=uI h2 h1;omega
  have hG2:R.filter (Gv r)= []:=Pw.mpr λx hx z=>B3 (hR x hx) h3 h4 ((yR (hR x hx).1 hrt).mp z)
  have hF:r.filter (λp=> !decide (p∈ps))= []:=Pw.mpr λp hp=>by simp[h1 p hp]
  refine wp_bind (ax (ds:=[aB n l,pD ps]) rfl ed) (env1:=kE ns i n l R s4 (.fz (pD ps)) s8 (.fz (.str "ring")) (.fz (pD r)) t11 t12 t13 t14) rfl ?_
  have g1:=gR ps (by omega) ht 7 (vl (kE ns i n l R s4 (.fz (pD ps)) s8 (.fz (.str "ring")) (.fz (pD r)) t11 t12 t13 t14)) β rfl rfl
  rw[hG] at g1
  refine kM g1 (wp_at (kA ns i n l R s4 ps s8 "ring" (pD r) [] t12 t13 t14) rfl ?_)
  refine kI (mz (c:=false) (bO _ _ _ _ (az (x:=.bool false) (y:=.bool false) (az rfl rfl Jk) (az rfl (lp (ds:=([]:List (List Int)).map tupI) an) (qz true [] [])) rfl)) (Hh (bO _ _ _ _ (az rfl rfl Jk)))) (wp_at (kA ns i n l R s4 ps s8 "ring" (pD r) [] t12 t13 t14) rfl ?_)
  refine FU (bO _ _ _ _ (az rfl rfl Nc)) (wp_at (kA ns i n l R s4 ps s8 "ring" (pD r) [] t12 t13 t14) rfl (Ju ?_))
  have ering:=Kd O (Kh (B6 hrl) (CK hrt))
  have hemp:r.isEmpty=false:=by cases r with |nil=>exact absurd rfl h3 |cons _ _=>rfl
  rw[h4,hemp] at ering
  refine kI (mz (c:=false) (bO _ _ _ _ (az (x:=.bool true) (y:=.bool true) (ax (ds:=[pD r,aB n l]) rfl ering) rfl rfl)) (bO _ _ _ _ (az (x:=.list (([]:List Pr).map aw)) (y:=.list (([]:List Pr).map aw)) ?_ (lp (ds:=[]) an) (vQ true [] [])))) (wp_at (kA ns i n l R s4 ps s8 "ring" (pD r) [] t12 t13 t14) rfl ?_)
  ·rw[<-hF]
   exact cD (l:=r) (e:=aw) (λp=> !decide (p∈ps)) aw rfl (by omega) λp hp=>⟨[.da (aw p),.da (pD ps)],rfl,bO _ _ _ _ (az (x:=aw p) (y:=pD ps) rfl rfl (zl true p ps)),λ_=>rfl⟩
  have g2:=gR r hrl hrt 10 (vl (kA ns i n l R s4 ps s8 "ring" (pD r) [] t12 t13 t14)) β rfl rfl
  rw[hG2] at g2
  refine kI (bO _ _ _ _ (az g2 (lp (ds:=([]:List (List Int)).map tupI) an) (qz true [] []))) (wp_at (kA ns i n l R s4 ps s8 "ring" (pD r) [] t12 t13 t14) rfl ?_)
  refine kI (Hh (bO _ _ _ _ (az rfl rfl Jk))) (wp_at (kA ns i n l R s4 ps s8 "ring" (pD r) [] t12 t13 t14) rfl (qH ?_))
  exact fin9
 ·have hrG:r∈R.filter (Gv ps):=NX.mpr ⟨hRa r hRr,(yR hRr.1 ht).mpr hTr⟩
  refine wp_bind (ax (ds:=[aB n l,pD ps]) rfl ed) (env1:=kE ns i n l R s4 (.fz (pD ps)) s8 (.fz (.str "row")) (.fz (tupI r)) t11 t12 t13 t14) rfl ?_
  have g1:=gR ps (by omega) ht 7 (vl (kE ns i n l R s4 (.fz (pD ps)) s8 (.fz (.str "row")) (.fz (tupI r)) t11 t12 t13 t14)) β rfl rfl
  generalize R.filter (Gv ps)=G at g1 hrG
  refine kM g1 (wp_at (kA ns i n l R s4 ps s8 "row" (tupI r) G t12 t13 t14) rfl ?_)
  have hne:(!decide (G= []))=true:=by rw[NZ (λe=>by rw[e] at hrG;cases hrG)];rfl
  have egn:=qz true G []
  rw[NN rfl,hne] at egn
  have ein:=B8 true r G
  rw[NN rfl,NS hrG] at ein
  obtain⟨hl,hrb⟩:=Ks O.hi hRr.1
  have eis:=E2 (d:=tupI r) O (Jn (by have:=O.hi;omega) hrb).1
  rw[zk hRr] at eis
  refine kI (mz (c:=false) (bO _ _ _ _ (az (x:=.bool true) (y:=.bool true) (az rfl rfl Il) (az rfl (lp (ds:=([]:List (List Int)).map tupI) an) egn) rfl)) (GK (bO _ _ _ _ (az rfl rfl Il)) (mz (c:=false) (bO _ _ _ _ (az (x:=tupI r) (y:=.list (G.map tupI)) rfl rfl ein)) (fE (kP (ax (ds:=[tupI r,aB n l]) rfl eis)))))) (wp_at (kA ns i n l R s4 ps s8 "row" (tupI r) G t12 t13 t14) rfl ?_)
  refine kI (bO _ _ _ _ (az rfl rfl L3)) (wp_at (kA ns i n l R s4 ps s8 "row" (tupI r) G t12 t13 t14) rfl ?_)
  have hdt:∀p,p∈ps.drop 1->p∈jE n l:=λp hp=>ht p (List.mem_of_mem_drop hp)
  obtain⟨d,ed,hT⟩:=Ij (ps:=ps.drop 1) O (by rw[List.length_drop];omega) hdt
  rcases hT with⟨r',rfl,_,hB⟩ | ⟨r',rfl,_,_⟩
  ·exact absurd hB (D7 hRr λp hp=>hTr p (List.mem_of_mem_drop hp))
  have esl:=EO (fa:=gv 7) (fb:=cst (.int 1)) (vs:=vl (kA ns i n l R s4 ps s8 "row" (tupI r) G t12 t13 t14)) (β:=β) (ds:=ps.map aw) (i:=1) rfl rfl
  rw[<-List.map_drop] at esl
  refine kI (GK (bO _ _ _ _ (az rfl rfl Il)) (bO _ _ _ _ (az (x:=.str "row") (y:=.str "row") (az (x:=.tuple [.str "row",tupI r']) (y:=.int 0) (ax (ds:=[aB n l,pD (ps.drop 1)]) (ac rfl (ac esl an)) ed) rfl rfl) rfl Mf))) (wp_at (kA ns i n l R s4 ps s8 "row" (tupI r) G t12 t13 t14) rfl (qH ?_))
  exact fin9
end RM
namespace RO
open PySem L2
abbrev ky:Stmt:=RQ.fA
abbrev ni:Stmt:=RQ.top 15
abbrev Fn (K:Frag)(mg:Str->Option Value)(x:Str)(st:Stmt)(ps:List Str)(f:Addr)(fd:FuncData):Prop:=iA K mg x st ps f fd
abbrev Bt (mg:Str->Option Value):Prop:=iQ mg
end RO
section
namespace L2
open PySem PySem.Spec PyProof.Rows
section
variable {K:Frag}{H H':Hp}{a:Addr}
theorem bh.snoc {x y:Int}(q:fV K H a [.int x,.int y]):∀{vs:List V} {ps:List (Int×Int)},bh K H vs ps->bh K H (vs ++ [.ref a]) (ps ++ [(x,y)])
 |_,_,.nil=>.cons ⟨a,rfl,q⟩ .nil
 |_,_,.cons r t=>.cons r (bh.snoc q t)
def bh.len {vs:List V}{ps:List (Int×Int)}(h:bh K H vs ps):vs.length=ps.length:=Paired.length h
def bh.same {vs:List V}{ps:List (Int×Int)}(h:bh K H vs ps)(s:aC H H'):bh K H' vs ps:=h.grow s.grow
def bh.at {vs:List V}{ps:List (Int×Int)}{i:Nat}{v:V}(h:bh K H vs ps)(e:vs[i]? =some v):∃p:Int×Int,ps[i]? =some p/\∃b,v=.ref b/\fV K H b [.int p.1,.int p.2]:=Paired.getP h e
def aC.put {o:HO}(s:aC H H')(h:H a=none):aC H (L2.upd H' a o):=λb u e=>by rw[aH (aP e h)];exact s b u e
end
end L2
namespace RO
open PySem L2
def DH (N:List Str)(sc:Scope)(NB:List Str)(own:Nat)(ixs:List Nat)(scope:Scope):Bool:=
 decide (scope.kind=.function) && (scope.names.all λy=>decide (y.2≠.cell)) && (scope.names.all λy=>decide (scope.names.lookup y.1=some y.2)) &&
 (scope.names.all λy=>decide (y.2=.free->(sc.names.lookup y.1=some .cell\/sc.names.lookup y.1=some .free))) && decide NB.Nodup && decide (NB.length=own + ixs.length) &&
 ((List.range ixs.length).all λk=>decide (NB[own + k]? =N[ixs.getD k 0]?) && (match NB[own + k]? with |some x=>decide ((x,NameKind.free)∈scope.names) |none=>true))
def ox {X:Cx}{NB:List Str}{own:Nat}{ixs:List Nat}{scope:Scope}(h:DH X.N X.env.scope NB own ixs scope=true):dH X NB own ixs scope:=by
 unfold DH at h
 simp only[N4,Oq,N2,N9] at h
 obtain⟨⟨⟨⟨⟨⟨h1,h2⟩,h3⟩,h4⟩,h5⟩,h6⟩,h7⟩:=h
 refine⟨h1,h2,h3,h4,h5,h6,λk hk=>⟨(h7 k hk).1,λx hx=>?_⟩⟩
 have:=(h7 k hk).2
 rw[hx] at this
 simpa using this
section
variable {X:Cx}{tg l:Expr}{tl:TE}{K:Frag}{H H1:Hp}{a:Addr}{xs:List V}{σ:St}
def Ma (K:Frag)(tl:TE):TI:=λσ H R=>tl σ H λx H1=>∃a xs,x=.ref a/\((gY K H1 a xs/\R (BA K a) H1)\/(fV K H1 a xs/\R (Hl K a) H1))
end
def Nl (K:Frag){X:Cx}(h:X.K=K:=by rfl):CQ X (Ih K):=by subst h;exact hZ
def Ja (K:Frag)(i j:Nat){X:Cx}{x y:Str}{px py pos:Pos}{k:Nat}(hN:X.N.Nodup)(hi:X.N[i]? =some x)(hj:X.N[j]? =some y)(hx:X.env.scope.names.lookup x=some .local)(hy:X.env.scope.names.lookup y=some .local)(hc:X.calm=true)(hK:X.K=K) :
  PG X (.Tuple [.Name x px,.Name y py] k pos) (FA K 2 (qK (mE i) (qK (mE j) Gi))):=by
 subst hK
 exact p7 hc (dR (di hN hi (Or.inl hx) (Or.inr hx)) (dR (di hN hj (Or.inl hy) (Or.inr hy)) nS))
section
open PySem.Spec PyProof.Rows
variable {X:Cx}{tg l:Expr}{tl:TE}
def Je (hl:PE X l tl):PI X tg l (Ma X.K tl):=by
 intro pins s σ H R I h
 refine cM (hl pins s σ H _ I h) λv s1 ⟨x,H1,I1,r1,q1⟩=>?_
 obtain⟨a,xs,e,q⟩:=q1
 subst e
 cases r1
 rcases q with⟨hq,q⟩ | ⟨hq,q⟩
 ·obtain⟨its,rv,p,hz⟩:=I1.list hq
  refine Qm p.isList ?_
  refine⟨s1.heap.objs.size,[s1.heap.objs.size],_,_,H1,rfl,I1.kept (t':=s1.toks) λb o e=>NM _ e,oJ a _,⟨_,N3 _ rfl,rfl,rfl⟩,λb hb=>?_,q⟩
  have e:b=s1.heap.objs.size:=by simpa using hb
  subst e
  exact I1.fpOk (NQ _) (I1.hok.fresh (NQ _))
 ·obtain⟨its,rv,p,hz⟩:=I1.tuple hq
  refine Qj (show s1.heap.IsTuple a its.toArray from p) ?_
  refine⟨s1.heap.objs.size,[s1.heap.objs.size],_,_,H1,rfl,I1.kept (t':=s1.toks) λb o e=>NM _ e,qF a _,⟨_,N3 _ rfl,rfl,rfl⟩,λb hb=>?_,q⟩
  have e:b=s1.heap.objs.size:=by simpa using hb
  subst e
  exact I1.fpOk (NQ _) (I1.hok.fresh (NQ _))
end
section
variable {K:Frag}{H H1 H':Hp}{a:Addr}{xs:List V}{σ:St}
abbrev JZ (J:It)(g:TG)(tb:TS)(D:Ends)(σ:St)(H:Hp):Prop:=∃W:Nat->Nat->St->Hp->Prop,(∃m,W 0 m σ H)/\∀i m σ H,W i m σ H->
   (J.stop i H/\D.nx σ H)\/(J.go i H/\∃N:St->Hp->Prop,(∀σ' H',N σ' H'->∃m',m' < m/\W (i + 1) m' σ' H')/\∀x H',J.yld i H x H'->g x σ H' λσ2 H2=>tb {D with nx:=N,ct:=N,bk:=D.nx} σ2 H2)
def E8 (s:aC H1 H')(hq:gY K H1 a xs\/fV K H1 a xs):gY K H' a xs\/fV K H' a xs:=hq.elim (λq=>.inl (s.seq q)) λq=>.inr (q.grow s.grow)
def Fw {g:TG}{tb:TS}{D:Ends}(hq:gY K H1 a xs\/fV K H1 a xs)(Pv:Nat->St->Hp->Prop)(h0:Pv 0 σ H)(hl:∀i σ H',Pv i σ H'->aC H1 H')
  (hs:∀i x σ H,xs[i]? =some x->Pv i σ H->g x σ H λσ2 H2=>tb {D with nx:=Pv (i + 1),ct:=Pv (i + 1),bk:=D.nx} σ2 H2) (hd:∀σ H,Pv xs.length σ H->D.nx σ H) :
  (gY K H a xs/\JZ (BA K a) g tb D σ H)\/(fV K H a xs/\JZ (Hl K a) g tb D σ H):=
 hq.elim (λq=>.inl ⟨(hl _ _ _ h0).seq q,xm Pv h0 (λi σ H' _ p=>(hl i σ H' p).seq q) hs hd⟩) λq=>.inr ⟨q.grow (hl _ _ _ h0).grow,EU Pv h0 (λi σ H' _ p=>q.grow (hl i σ H' p).grow) hs hd⟩
def zI (J:It)(own:Nat)(ixs:List Nat)(g:TG)(tt:TT)(te:TE)(Q:VK)(D:Addr)(σ:St)(H:Hp):Prop:=∃W:Nat->Nat->St->Hp->Prop,(∃m,W 0 m (bN own ixs σ) (upd H D (.lst [])))/\∀i m σ' H',W i m σ' H'->
   (J.stop i H'/\(∃acc,H' D=some (.lst acc))/\Q (.ref D) H')\/
   (J.go i H'/\∃N:St->Hp->Prop,(∀σ2 H2,N σ2 H2->∃m',m' < m/\W (i + 1) m' σ2 H2)/\∀x H2,J.yld i H' x H2->fB g tt te D x σ' H2 N)
structure vE (own:Nat)(ixs:List Nat)(wi:TI)(g:TG)(tt:TT)(te:TE)(σ:St)(H:Hp)(Q:VK):Prop where
 out:wi σ H λJ H1=>∀D,H1 D=none->zI J own ixs g tt te Q D σ H1
def xU {own:Nat}{ixs:List Nat}{wi:TI}{g:TG}{tt:TT}{te:TE}{Q:VK}(h:wi σ H λJ H1=>∀D,H1 D=none->zI J own ixs g tt te Q D σ H1):vE own ixs wi g tt te σ H Q:=⟨h⟩
def tT {X:Cx}{NB:List Str}{own:Nat}{ixs:List Nat}{scope:Scope}{tg iter elt:Expr}{ifs:List Expr}{wi:TI}{g:TG}{tt:TT}{te:TE}{pos:Pos}(hc:X.calm=true)(S:dH X NB own ixs scope)(hi:PI X tg iter wi)
  (hg:∀C ex s3 H3 pn,PG (jx X NB scope C ex s3 H3 pn) tg g) (ht:∀C ex s3 H3 pn,Dl (jx X NB scope C ex s3 H3 pn) ifs tt) (he:∀C ex s3 H3 pn,PE (jx X NB scope C ex s3 H3 pn) elt te)
  (hs:∀x,foldedSetIterable iter X.env x=pure x:=by intro _;rfl):PE X (.ListComp elt [⟨tg,iter,ifs,0⟩] scope pos) (vE own ixs wi g tt te):=
 λpins s σ H Q I h=>wO hc S hi hg ht he hs pins s σ H Q I h.out
section
variable {own:Nat}{ixs:List Nat}{g:TG}{tt:TT}{te:TE}{Q:VK}{D:Addr}
def E6 (Pv:Nat->St->Hp->Prop)(h0:Pv 0 (bN own ixs σ) (upd H D (.lst [])))(hl:∀i σ H,i<=xs.length->Pv i σ H->gY K H a xs)
  (hs:∀i x σ H,xs[i]? =some x->Pv i σ H->fB g tt te D x σ H (Pv (i + 1))) (hd:∀σ H,Pv xs.length σ H->(∃acc,H D=some (.lst acc))/\Q (.ref D) H):zI (BA K a) own ixs g tt te Q D σ H:=BH Pv h0 hl hs hd
def xk {lo:Int}{n:Nat}(Pv:Nat->St->Hp->Prop)(h0:Pv 0 (bN own ixs σ) (upd H D (.lst [])))
  (hs:∀i σ H,i < n->Pv i σ H->fB g tt te D (.int (lo + i)) σ H (Pv (i + 1))) (hd:∀σ H,Pv n σ H->(∃acc,H D=some (.lst acc))/\Q (.ref D) H):zI (BF lo n) own ixs g tt te Q D σ H:=yG Pv h0 hs hd
end
def v7 {i:Nat}{te:TE}{D:Addr}{x:V}{N:St->Hp->Prop}(h:te (σ.set i (some x)) H λv H5=>∃acc,H5 D=some (.lst acc)/\acc.length < sizeLine/\N (σ.set i (some x)) (upd H5 D (.lst (acc ++ [v])))):fB (mE i) HV te D x σ H N:=by
 unfold fB mE HV
 exact rV h
def Ec {i j:Nat}{x y:V}{Q:St->Hp->Prop}(h:fV K H a [x,y])(q:Q ((σ.set i (some x)).set j (some y)) H):FA K 2 (qK (mE i) (qK (mE j) Gi)) (.ref a) σ H Q:=⟨a,_,rfl,h,rfl,x,_,rfl,y,_,rfl,rfl,q⟩
def MI {c A B:Prop}[Decidable c](h:c)(a:A):if c then A else B:=by rw[NN h];exact a
def L7 {c A B:Prop}[Decidable c](h:¬c)(b:B):if c then A else B:=by rw[NV h];exact b
def take_snoc {α:Type}{l:List α}{i:Nat}{x:α}(h:l[i]? =some x):l.take (i + 1)=l.take i ++ [x]:=by
 rw[Pb,h];rfl
def take_all {α:Type}(l:List α):l.take l.length=l:=O9 (NQ _)
end
def gG (n:Nat):(OM.cN n).length=n * n:=by unfold OM.cN;simp
def Ez {n i:Nat}(h:i < n * n):(OM.cN n)[i]? =some (((i / n:Nat):Int),((i % n:Nat):Int)):=by
 unfold OM.cN
 rw[NW,Pc h];rfl
def Ni {n:Nat}(h:n<=8):n * n<=64:=O5 h h
section
variable {P:Program}{w:World}{K:Frag}{mg:Str->Option Value}{base:Heap}
def zU (K:Frag):Sp:=λvs H Q _=>∃n:Nat,vs= [.int n]/\1<=n/\n<=8/\∀H' l ws,aC H H'->H l=none->H' l=some (.lst ws)->bh K H' ws (OM.cN n)->Q (.ref l) H'
def FC:aK ["many"] ["many"] (ay ky):=⟨rfl,rfl,rfl,by decide +kernel,rfl,by decide +kernel,by decide +kernel⟩
def KN:(["number","many"]:List Str).Nodup:=by decide +kernel
def CO {f:Addr}{fd:FuncData}(F:Fn K mg "every_pair" ky ["many"] f fd)(B:Bt mg):gN P w K mg base HC 1 f fd ["many"] (zU K):=by
 refine F.F.ok FC (λvs H Q E h=>?_) (λcdv A outer s H vs Q E hr h=>?_)
 ·obtain⟨n,rfl,_⟩:=h;rfl
 ·obtain⟨n,rfl,h1,h8,k⟩:=h
  refine⟨_,jg (oC (tT (NB:=["number","many"]) (own:=1) (ixs:=[0]) rfl (ox (by kernel_rfl)) (l7 rfl B.range (aS (sP kK (pv 0) (pv 0)) bJ))
   (λC ex s3 H3 pn=>di (i:=0) KN rfl (Or.inl rfl) (hf:=Or.inr rfl)) (λC ex s3 H3 pn=>uG)
   (λC ex s3 H3 pn=>yS (aS (sP nh (pv 0) (pv 1)) (aS (sP mX (pv 0) (pv 1)) bJ))))),?_⟩
  have hn:=Ni h8
  have e0:((n:Int) * (n:Int))=((n * n:Nat):Int):=by rw[Int.natCast_mul]
  refine xU ⟨_,rfl,_,rfl,_,_,rfl,rfl,.inl ⟨by omega,by omega⟩,_,rfl,by rw[e0];omega,by rw[e0];omega,λD hD=>?_⟩
  rw[e0,Oj]
  refine xk (λi σ' H'=>(∃v,σ'= [v,some (.int n)])/\aC H H'/\∃vs,H' D=some (.lst vs)/\bh K H' vs ((OM.cN n).take i)) ⟨⟨none,rfl⟩,(aC.refl H).put hD,[],aI,.nil⟩ ?_ ?_
  ·rintro i σ' H' hi ⟨⟨v,rfl⟩,s1,vs,hv,hp⟩
   have hn0:(0:Int) < (n:Int):=by omega
   refine v7 ⟨_,rfl,_,rfl,_,_,rfl,rfl,⟨hn0,by omega⟩,_,rfl,_,rfl,_,_,rfl,rfl,hn0,by show 2<=sizeLine;rw[Ot];omega,λp hp0=>?_⟩
   have hpD:D≠p:=aP hv hp0
   have hl:=hp.len
   refine⟨vs,by rw[aH hpD];exact hv,?_,⟨_,rfl⟩,?_,vs ++ [.ref p],aI,?_⟩
   ·rw[hl,Pe,Ot];rw[gG];omega
   ·exact (s1.put (s1.free hp0)).put hD
   ·rw[take_snoc (Ez hi)]
    have g1:iX H' (upd H' p (.tup [.int ((0 + (i:Int)) / n),.int ((0 + (i:Int)) % n)])):=iX.new hp0
    have g2:∀o,iX (upd H' p (.tup [.int ((0 + (i:Int)) / n),.int ((0 + (i:Int)) % n)])) (upd (upd H' p (.tup [.int ((0 + (i:Int)) / n),.int ((0 + (i:Int)) % n)])) D o):=λo=>iX.list (by rw[aH hpD];exact hv)
    refine bh.snoc ?_ (hp.grow (g1.trans (g2 _)))
    refine (fV.grow ?_ (g2 _))
    refine .inl (.inl ?_)
    rw[aI,Pu];rfl
  ·rintro σ' H' ⟨_,s1,vs,hv,hp⟩
   refine⟨⟨_,hv⟩,k H' D vs s1 hD hv ?_⟩
   rw[<-gG n,take_all] at hp
   exact hp
end
end RO
end
namespace RO
open PySem L2
structure TabAt (n:Nat)(M:OM.Tb)(L:Addr)(r:Nat->Addr)(H:Hp):Prop where
 top:H L=some (.lst ((List.range n).map λi=>V.ref (r i)))
 row:∀i,i < n->H (r i)=some (.lst ((List.range n).map λj=>V.bl (M i j)))
 inj:∀i j,i < n->j < n->r i=r j->i=j
 ne:∀i,i < n->r i≠L
def z6 {n x:Nat}(h:x < n):pQ n (x:Int)=some x:=by
 unfold pQ;rw[NN (by omega),NN (by omega)];simp
def Ee {α:Type}{xs:List α}{x:Nat}(h:x < xs.length):ik xs (x:Int)=xs[x]?:=by
 unfold ik;rw[z6 h];rfl
def gB {f:Nat->V}{n x:Nat}(h:x < n):ik ((List.range n).map f) (x:Int)=some (f x):=by
 rw[Ee (by simpa using h),NW,Pc h];rfl
def tm {f:Nat->V}{n x:Nat}(h:x < n):pQ ((List.range n).map f).length (x:Int)=some x:=by
 rw[NT,OO];exact z6 h
def A6 {f:Nat->V}{n y:Nat}{v:V}:((List.range n).map f).set y v=(List.range n).map λj=>if j=y then v else f j:=by
 apply QG
 intro i
 by_cases hi:i < n
 ·by_cases e:y=i
  ·subst e;simp[List.getElem?_set,hi]
  ·have e':¬i=y:=λz=>e z.symm
   simp[List.getElem?_set,hi,e,e']
 ·rw[Pd (by simp;omega),Pd (by simp;omega)]
section
variable {n:Nat}{M:OM.Tb}{L:Addr}{r:Nat->Addr}{H H':Hp}
def TabAt.set (T:TabAt n M L r H){x y:Nat}(hx:x < n):TabAt n (M.set x y) L r (upd H (r x) (.lst (((List.range n).map λj=>V.bl (M x j)).set y (.bl true)))):=by
 refine⟨by rw[aH (T.ne x hx).symm];exact T.top,λi hi=>?_,T.inj,T.ne⟩
 by_cases e:i=x
 ·subst e
  rw[aI,A6]
  refine congrArg _ (congrArg _ (OR λj _=>?_))
  unfold OM.Tb.set
  by_cases c:j=y
  ·simp[c]
  ·simp[c]
 ·rw[aH (λz=>e (T.inj i x hi hx z)),T.row i hi]
  refine congrArg _ (congrArg _ (OR λj _=>?_))
  unfold OM.Tb.set;simp[e]
def TabAt.same (T:TabAt n M L r H)(s:aC H H'):TabAt n M L r H':=⟨s _ _ T.top,λi hi=>s _ _ (T.row i hi),T.inj,T.ne⟩
end
def u6 {n:Nat}{ps:List (Int×Int)}(w:OM.Wn n ps){p:Int×Int}(h:p∈ps):∃u v:Nat,p=((u:Int),(v:Int))/\u < n/\v < n:=by
 obtain⟨x,y⟩:=p
 have q:=w _ h
 simp only at q
 exact⟨x.toNat,y.toNat,by rw[Int.toNat_of_nonneg q.1.1,Int.toNat_of_nonneg q.2.1],by omega,by omega⟩
def jj {M0 M:OM.Tb}{m:Nat}{D D':Nat->Nat->Prop}(P:OM.Phase M0 M m D)(h:∀a b,D a b↔D' a b):OM.Phase M0 M m D':=λa b=>by rw[P a b,h a b]
def l5 {l:List (Int×Int)}{u v a b:Nat}:(((a:Int),(b:Int))∈l\/(a=u/\b=v))↔((a:Int),(b:Int))∈l ++ [((u:Int),(v:Int))]:=by
 rw[Ob,Oe,Prod.mk.injEq]
 constructor
 ·rintro (h | ⟨h1,h2⟩)
  ·exact .inl h
  ·exact .inr ⟨by omega,by omega⟩
 ·rintro (h | ⟨h1,h2⟩)
  ·exact .inl h
  ·exact .inr ⟨by omega,by omega⟩
def Fe {M:OM.Tb}{u v a b:Nat}:M.set u v a b=true↔M a b=true\/(a=u/\b=v):=by
 unfold OM.Tb.set
 by_cases c:a=u/\b=v
 ·simp[c]
 ·rw[NV c];exact⟨.inl,λh=>h.resolve_right c⟩
def K6 (n:Nat)(x:V):(List.replicate n [x]).flatten=(List.range n).map λ_=>x:=by
 rw[List.flatten_replicate_singleton,List.map_const',OO]
section
variable {P:Program}{w:World}{K:Frag}{mg:Str->Option Value}{base:Heap}
def DT (K:Frag):Sp:=λvs H Q _=>∃(n:Nat) (a:Addr) (xs:List V) (ps:List (Int×Int)),vs= [.int n,.ref a]/\1<=n/\n<=8/\(gY K H a xs\/fV K H a xs)/\bh K H xs ps/\OM.Wn n ps/\
 ∀H' t ws,aC H H'->H t=none->H' t=some (.tup ws)->bh K H' ws (OM.cJ n (OM.Tr (OM.Mem ps)))->Q (.ref t) H'
def gF:aK ["many","pairs","corners","leads","a","b","middle"] ["many","pairs"] (ay ni):=⟨rfl,rfl,rfl,by decide +kernel,rfl,by decide +kernel,by decide +kernel⟩
def KZ:(["start","many"]:List Str).Nodup:=by decide +kernel
def JN:(["a","b","leads"]:List Str).Nodup:=by decide +kernel
set_option maxHeartbeats 1000000 in
theorem BJ {f g:Addr}{fd gd:FuncData}(F:Fn K mg "closed" ni ["many","pairs"] f fd)(G:Fn K mg "every_pair" ky ["many"] g gd)(GE:gN P w K mg base HC 1 g gd ["many"] (zU K))(B:Bt mg):gN P w K mg base HC 2 f fd ["many","pairs"] (DT K):=by
 refine F.F.ok gF (λvs H Q E h=>?_) (λcdv A outer s H vs Q E hr h=>?_)
 ·obtain⟨n,a,xs,ps,rfl,_⟩:=h;rfl
 ·obtain⟨n,a,xs,ps,rfl,h1,h8,hq,hp,wn,k⟩:=h
  refine⟨_,iE (rf (i:=2) gF.nd rfl (Or.inl rfl) (pN GE hr rfl G.mg G.F.kp G.b .nil Kn (aS (pv 0) bJ)))
   (iE (rf (i:=3) gF.nd rfl (Or.inr rfl) (tT (NB:=["start","many"]) (own:=1) (ixs:=[0]) rfl (ox (by kernel_rfl)) (l7 rfl B.range (aS (pv 0) bJ))
    (λC ex s3 H3 pn=>di (i:=0) KZ rfl (Or.inl rfl) (hf:=Or.inr rfl)) (λC ex s3 H3 pn=>uG) (λC ex s3 H3 pn=>sP CF (D8 (aS zK bJ)) (pv 1))))
   (iE (uU PassesOwn.never rfl (Je (pv 1)) (p7 rfl (dR (di (i:=4) gF.nd rfl (Or.inl rfl)) (dR (di (i:=5) gF.nd rfl (Or.inl rfl)) nS)))
    (jg (n9 zK (u7 (mr hZ (pv 3) (pv 4) (λ_ _=>rfl)) (pv 5) set_list))))
   (iE (uU PassesOwn.never rfl (l7 rfl B.range (aS (pv 0) bJ)) (di (i:=6) gF.nd rfl (Or.inl rfl))
    (jg (uU PassesOwn.never rfl (zN (pv 2)) (p7 rfl (dR (di (i:=4) gF.nd rfl (Or.inl rfl)) (dR (di (i:=5) gF.nd rfl (Or.inl rfl)) nS)))
     (jg (Hg (PW.pt (Eh (xK (mr hZ (mr hZ (pv 3) (pv 4) (λ_ _=>rfl)) (pv 6) (λ_ _=>rfl))) (ze (xK (mr hZ (mr hZ (pv 3) (pv 6) (λ_ _=>rfl)) (pv 5) (λ_ _=>rfl))))))
      (jg (n9 zK (u7 (mr hZ (pv 3) (pv 4) (λ_ _=>rfl)) (pv 5) set_list))) z7)))))
   (jg (oC (iy c9 rfl B.tuple (by decide +kernel) (aS (tT (NB:=["a","b","leads"]) (own:=2) (ixs:=[3]) rfl (ox (by kernel_rfl)) (zN (pv 2))
    (λC ex s3 H3 pn=>Ja K 0 1 JN rfl rfl rfl rfl rfl rfl)
    (λC ex s3 H3 pn=>Ad (xK (mr (Nl K) (mr (Nl K) (pv 2) (pv 0) (λ_ _=>rfl)) (pv 1) (λ_ _=>rfl)))) (λC ex s3 H3 pn=>yS (aS (pv 0) (aS (pv 1) bJ)))) bJ))))))),?_⟩
  have hn:=Ni h8
  have hn0:(0:Int)<=(n:Int):=by omega
  refine⟨_,rfl,n,rfl,h1,h8,λH1 c ws s1 hc0 hc hw=>?_⟩
  have hwl:ws.length=n * n:=by rw[hw.len,gG]
  have gw:OM.Wn n (OM.cN n):=λp hp=>OM.bH.mp hp
  refine xU ?_
  refine⟨_,rfl,n,rfl,by omega,by omega,λD hD=>?_⟩
  rw[Oj]
  refine xk (λi σ' H'=>(∃v,σ'= [v,some (.int n)])/\aC H1 H'/\∃r:Nat->Addr,H' D=some (.lst ((List.range i).map λk=>V.ref (r k)))/\
   (∀k,k < i->H' (r k)=some (.lst ((List.range n).map λ_=>V.bl false))/\H1 (r k)=none/\r k≠D)/\∀j k,j < i->k < i->r j=r k->j=k)
   ?_ ?_ ?_
  ·exact⟨⟨none,rfl⟩,(aC.refl H1).put hD,λ_=>0,aI,λk hk=>absurd hk (Nat.not_lt_zero _),λj k hj=>absurd hj (Nat.not_lt_zero _)⟩
  ·rintro i σ' H' hi ⟨⟨v,rfl⟩,s2,r,hr0,hr1,hr2⟩
   refine v7 ⟨by show 1<=sizeLine;rw[Ot];omega,λp hp0=>⟨_,rfl,p,n,[.bl false],rfl,rfl,aI,by omega,by omega,by show 1 * (n:Int).toNat<=sizeLine;rw[Ot];omega,λq hq0=>?_⟩⟩
   have hqp:q≠p:=by intro e;subst e;rw[aI] at hq0;cases hq0
   have hq1:H' q=none:=by rw[aH hqp] at hq0;exact hq0
   have hDp:D≠p:=aP hr0 hp0
   have hDq:D≠q:=aP hr0 hq1
   rw[Oj,K6]
   refine⟨_,by rw[aH hDq,aH hDp];exact hr0,by rw[NT,OO,Ot];omega,⟨_,rfl⟩,((s2.put (s2.free hp0)).put (s2.free hq1)).put hD,λk=>if k=i then q else r k,?_,λk hk=>?_,λj k hj hk e=>?_⟩
   ·have e:(List.range i).map (λk=>V.ref (r k))=(List.range i).map (λk=>V.ref (if k=i then q else r k)):=OR λk hk=>by
     have:=N9.mp hk
     rw[NV (by omega)]
    rw[aI,List.range_succ,Ou,e]
    simp
   ·dsimp only
    by_cases e:k=i
    ·rw[NN e]
     exact⟨by rw[aH hDq.symm,aI],s2.free hq1,hDq.symm⟩
    ·rw[NV e]
     obtain⟨a1,a2,a3⟩:=hr1 k (by omega)
     exact⟨by rw[aH a3,aH (aP a1 hq1),aH (aP a1 hp0)];exact a1,a2,a3⟩
   ·dsimp only at e
    by_cases ej:j=i
    ·by_cases ek:k=i
     ·omega
     ·rw[NN ej,NV ek] at e
      exact absurd e.symm (aP (hr1 k (by omega)).1 hq1)
    ·by_cases ek:k=i
     ·rw[NV ej,NN ek] at e
      exact absurd e (aP (hr1 j (by omega)).1 hq1)
     ·rw[NV ej,NV ek] at e
      exact hr2 j k (by omega) (by omega) e
  rintro σ2 H2 ⟨_,s2,r,hr0,hr1,hr2⟩
  refine⟨⟨_,hr0⟩,?_⟩
  have sep:∀i,i < n->H1 (r i)=none:=λi hi=>(hr1 i hi).2.1
  have T0:TabAt n (λ_ _=>false) D r H2:=⟨hr0,λi hi=>(hr1 i hi).1,hr2,λi hi=>(hr1 i hi).2.2⟩
  refine⟨_,rfl,a,xs,rfl,Fw (H1:=H1) (E8 s1 hq) (λi σ' H'=>(∃x y,σ'= [some (.int n),some (.ref a),some (.ref c),some (.ref D),x,y,none])/\aC H1 H'/\∃M,TabAt n M D r H'/\∀u v:Nat,M u v=true↔((u:Int),(v:Int))∈ps.take i)
   ⟨⟨none,none,rfl⟩,s2,_,T0,λu v=>by simp⟩ (λi σ' H' q=>q.2.1) ?_ ?_⟩
  ·rintro i x σ' H' hx ⟨⟨_,_,rfl⟩,s3,M,T,hM⟩
   obtain⟨p,hpi,b,rfl,hb⟩:=(hp.same (s1.trans s3)).at hx
   obtain⟨u,v,rfl,hu,hv⟩:=u6 wn (N6 hpi)
   refine Ec hb ?_
   refine⟨_,rfl,_,rfl,D,_,u,_,rfl,rfl,.inl (.inl T.top),gB hu,_,rfl,r u,_,v,v,rfl,rfl,T.row u hu,tm hv,⟨_,_,rfl⟩,s3.put (sep u hu),_,T.set hu,λx y=>?_⟩
   rw[take_snoc hpi,<-l5,Fe,hM]
  rintro σ3 H3 ⟨⟨x3,y3,rfl⟩,s3,M3,T3,hM3⟩
  rw[hp.len,take_all] at hM3
  refine⟨_,rfl,n,rfl,by omega,by omega,?_⟩
  rw[Oj]
  refine Bu (λm σ' H'=>(∃x y z,σ'= [some (.int n),some (.ref a),some (.ref c),some (.ref D),x,y,z])/\aC H1 H'/\∃M,TabAt n M D r H'/\OM.Tab n ps M/\OM.Gf M m)
   ⟨⟨_,_,_,rfl⟩,s3,M3,T3,⟨λa b h=>by have:=wn _ ((hM3 a b).mp h);simp only at this;omega,λa b h=>(hM3 a b).mpr h,λa b h=>.one ((hM3 a b).mp h)⟩,λk a b hk=>absurd hk (Nat.not_lt_zero _)⟩ ?_ ?_
  ·rintro m σ' H' hm ⟨⟨_,_,_,rfl⟩,s4,M,T,TT,Th⟩
   rw[Pu]
   refine⟨_,rfl,c,rfl,⟨ws,.inl (.inl (s4 _ _ hc))⟩,xm (xs:=ws) (λi σ' H'=>(∃x y,σ'= [some (.int n),some (.ref a),some (.ref c),some (.ref D),x,y,some (.int m)])/\aC H1 H'/\∃M',TabAt n M' D r H'/\OM.Phase M M' m λu v=>((u:Int),(v:Int))∈(OM.cN n).take i)
    ⟨⟨_,_,rfl⟩,s4,M,T,jj (OM.Phase.start M m) λa b=>by simp⟩ (λi σ' H' _ q=>.inl (.inl (q.2.1 _ _ hc))) ?_ ?_⟩
   ·rintro i x σ' H' hx ⟨⟨_,_,rfl⟩,s5,M',T',Ph⟩
    obtain⟨p,hpi,b,rfl,hb⟩:=(hw.same s5).at hx
    obtain⟨u,v,rfl,hu,hv⟩:=u6 gw (N6 hpi)
    refine Ec hb ?_
    have st:=Ph.step u v
    refine⟨_,rfl,_,rfl,D,_,u,_,rfl,rfl,.inl (.inl T'.top),gB hu,_,rfl,r u,_,m,_,rfl,rfl,.inl (.inl (T'.row u hu)),gB hm,_,rfl,?_⟩
    by_cases c1:M' u m=true
    ·refine MI c1 ?_
     refine⟨_,rfl,_,rfl,D,_,m,_,rfl,rfl,.inl (.inl T'.top),gB hm,_,rfl,r m,_,v,_,rfl,rfl,.inl (.inl (T'.row m hm)),gB hv,_,rfl,?_⟩
     by_cases c2:M' m v=true
     ·refine MI c2 ?_
      rw[NN ⟨c1,c2⟩] at st
      refine⟨_,rfl,_,rfl,D,_,u,_,rfl,rfl,.inl (.inl T'.top),gB hu,_,rfl,r u,_,v,v,rfl,rfl,T'.row u hu,tm hv,⟨_,_,rfl⟩,s5.put (sep u hu),_,T'.set hu,jj st λa b=>?_⟩
      rw[take_snoc hpi];exact l5
     ·refine L7 c2 ?_
      rw[NV λz=>c2 z.2] at st
      refine⟨⟨_,_,rfl⟩,s5,_,T',jj st λa b=>?_⟩
      rw[take_snoc hpi];exact l5
    ·refine L7 c1 ?_
     rw[NV λz=>c1 z.1] at st
     refine rX ⟨⟨_,_,rfl⟩,s5,_,T',jj st λa b=>?_⟩
     rw[take_snoc hpi];exact l5
   ·rintro σ' H' ⟨⟨_,_,rfl⟩,s5,M',T',Ph⟩
    rw[hw.len,take_all] at Ph
    have dn:=Ph.done (n:=n) (λa b ha hb=>OM.bH.mpr ⟨⟨by simp,by simp;omega⟩,by simp,by simp;omega⟩) TT.inn Th
    exact⟨⟨_,_,_,rfl⟩,s5,M',T',TT.phase Ph,dn.1⟩
  rintro σ4 H4 ⟨⟨x4,y4,z4,rfl⟩,s4,M,T,TT,Th⟩
  refine xU ⟨_,rfl,c,rfl,⟨ws,.inl (.inl (s4 _ _ hc))⟩,λD' hD'=>E6 (xs:=ws) (λi σ' H'=>(∃x y,σ'= [x,y,some (.ref D)])/\aC H4 H'/\∃vs,H' D'=some (.lst vs)/\bh K H' vs (((OM.cN n).take i).filter λp=>M p.1.toNat p.2.toNat))
   ⟨⟨_,_,rfl⟩,(aC.refl H4).put hD',[],aI,.nil⟩ (λi σ' H' _ q=>.inl (.inl (q.2.1 _ _ (s4 _ _ hc)))) ?_ ?_⟩
  ·rintro i x σ' H' hx ⟨⟨_,_,rfl⟩,s5,vs,hv,hpv⟩
   obtain⟨p,hpi,b,rfl,hb⟩:=(hw.same (s4.trans s5)).at hx
   obtain⟨u,v,rfl,hu,hv'⟩:=u6 gw (N6 hpi)
   refine Ec hb ?_
   have T':=T.same s5
   refine⟨_,rfl,_,rfl,D,_,u,_,rfl,rfl,.inl (.inl T'.top),gB hu,_,rfl,r u,_,v,_,rfl,rfl,.inl (.inl (T'.row u hu)),gB hv',_,rfl,?_⟩
   by_cases c1:M u v=true
   ·refine MI c1 ?_
    refine⟨_,rfl,_,rfl,by show 2<=sizeLine;rw[Ot];omega,λp hp0=>?_⟩
    have hpD:D'≠p:=aP hv hp0
    refine⟨vs,by rw[aH hpD];exact hv,?_,⟨_,_,rfl⟩,(s5.put (s5.free hp0)).put hD',_,aI,?_⟩
    ·rw[hpv.len]
     refine Nat.lt_of_le_of_lt (O4 ..) ?_
     rw[Pe,gG,Ot];omega
    ·rw[take_snoc hpi,List.filter_append,List.filter_cons_of_pos (by simpa using c1),List.filter_nil]
     have g1:iX H' (upd H' p (.tup [.int u,.int v])):=iX.new hp0
     have g2:∀o,iX (upd H' p (.tup [.int u,.int v])) (upd (upd H' p (.tup [.int u,.int v])) D' o):=λo=>iX.list (by rw[aH hpD];exact hv)
     refine bh.snoc ?_ (hpv.grow (g1.trans (g2 _)))
     exact fV.grow (.inl (.inl aI)) (g2 _)
   ·refine L7 c1 ?_
    refine⟨⟨_,_,rfl⟩,s5,vs,hv,?_⟩
    rw[take_snoc hpi,List.filter_append,List.filter_cons_of_neg (by simpa using c1),List.filter_nil,PD]
    exact hpv
  ·rintro σ' H' ⟨_,s5,vs,hv,hpv⟩
   rw[hw.len,take_all] at hpv
   refine⟨⟨_,hv⟩,D',vs,rfl,.inl ⟨.inl (.inl hv),λt ht=>?_⟩⟩
   have sA:aC H H':=(s1.trans s4).trans s5
   refine k _ t vs (sA.put (sA.free ht)) (sA.free ht) aI ?_
   have e:((OM.cN n).filter λp=>M p.1.toNat p.2.toNat)=OM.cJ n (OM.Tr (OM.Mem ps)):=by
    unfold OM.cJ
    refine Qo λp hp=>?_
    obtain⟨u,v,rfl,hu,hv⟩:=u6 gw hp
    have:=TT.all wn Th u v
    simp only[Oj]
    rw[Ox,this]
    simp
   rw[e] at hpv
   exact hpv.grow (iX.new ht)
end
end RO
namespace RO
open PySem L2 RM
section
variable {P:Program}{w:World}{K:Frag}{mg:Str->Option Value}{base:Heap}{ca:Str->Addr}
def Ny {k:Nat}{f:Addr}{fd:FuncData}{ps:List Str}{sp:Sp}(F:gN P w K mg base HC k f fd ps sp):gN P w K mg base (pw P w) k f fd ps sp:=
 ⟨F.len,λA outer s H args us vs Q E hr he hb hv hs=>Qa (F.run A outer s H args us vs Q E hr he hb hv hs) λr s' h=>by
  cases r with
  |ok x=>cases x <;> exact h
  |error e=>exact h.elim⟩
def xJ {G H:Hp}(s:aC G H){ws:List V}{ps:List Pr}(h:bh K H ws ps):bh K (oM G H) ws ps:=Paired.mapP h λv p ⟨a,e,q⟩=>⟨a,e,qI s q⟩
def qU {ds:List D}(h:dI ds≠.bad):∃(n:Nat) (d:D) (ps:List Pr),ds= [.int n,d]/\kW d=some (ps.map aw)/\1<=n/\n<=8/\OM.Wn n ps/\dI ds=.ok (.tuple ((OM.cJ n (OM.Tr (OM.Mem ps))).map aw)) false:=by
 unfold dI at h
 split at h
 ·rename_i n d
  cases q:kW d with
  |none=>rw[q] at h;exact absurd rfl h
  |some es=>
   rw[q] at h
   dsimp only at h
   cases q2:gV es with
   |none=>rw[q2] at h;exact absurd rfl h
   |some ps=>
    rw[q2] at h
    dsimp only at h
    by_cases c:1<=n/\n<=8/\OM.Wn n.toNat ps
    ·have e:((n.toNat:Nat):Int)=n:=by omega
     refine⟨n.toNat,d,ps,by rw[e],by rw[q,lW q2],by omega,by omega,c.2.2,?_⟩
     unfold dI
     dsimp only
     rw[q]
     dsimp only
     rw[q2]
     dsimp only
     rw[NN c]
    ·rw[NV c] at h;exact absurd rfl h
 ·exact absurd rfl h
def xO {f g:Addr}{fd gd:FuncData}(F:iA K mg "closed" ni ["many","pairs"] f fd)(E:iA K mg "every_pair" ky ["many"] g gd)(B:iQ mg):bR P w K mg base ca "closed" ["many","pairs"] 3 dI:=by
 refine⟨⟨f,fd,F.mg,F.F.kp,F.b,((Ny (BJ F E (CO E B) B)).mono (by decide)).imp ?_⟩,λds h=>?_⟩
 ·rintro vs H Q X ⟨G,ds,s,hl,r,h⟩
  have hb:dI ds≠.bad:=λz=>by rw[z] at h;exact h
  obtain⟨n,d,ps,rfl,hd,h1,h8,wn,e⟩:=qU hb
  rw[e] at h
  cases r with
  |cons r1 r=>
   cases r with
   |cons r2 r=>
    cases r
    cases r1
    obtain⟨a,xs,rfl,hq,hr⟩:=(mK.seq (B:=none) (G:=G) (H:=G) (.inl r2) hd (aC.refl _))
    refine⟨n,a,xs,ps,rfl,h1,h8,hq.elim (λq=>.inl (s.seq q)) (λq=>.inr (q.grow s.grow)),(hr.pairs).grow s.grow,wn,λH' t ws hh ht ht' hp=>?_⟩
    have s2:=s.trans hh
    refine h (.ref t) (oM G H') H' hh sZ (vK s2) (λb m hb=>by rw[zA hh m];exact hb) ?_
    exact .tup (qI s2 (.inl (.inl ht'))) (bh.rps (xJ s2 hp))
 ·obtain⟨n,d,ps,rfl,_⟩:=qU h
  rfl
end
end RO
namespace HD
open PySem PySem.W
noncomputable abbrev DW:=@PySem.W.Fast.tw10156331382660048174
noncomputable abbrev Js:=@PySem.W.Fast.tw11892475500146522536
noncomputable abbrev MH:=@PySem.W.Fast.tw6613529449190102663
noncomputable abbrev HE:=@PySem.W.Fast.tw14364793385576792824
noncomputable abbrev Hf:=@PySem.W.Fast.tw17154629097778926822
noncomputable abbrev DF:=@PySem.W.Fast.tw12822647523644345616
noncomputable def B5 (p:Program):Thread:=
 ⟨do
  let code <-Hf p.main
  let frame <-DF code mainNs mainNs
  let _ <-run (.body (behindTheImports p) {scope:=p.main.scope,locals:=mainNs,globals:=mainNs,cells:=[],code,frame:=some frame})
  ret .none,
  .builtin "claim.caller" {},default,[]⟩
def DR (p:Program):topStub p=B5 p:=by
 unfold topStub B5 Hf DF
 rw[<-PySem.W.Fast.te17154629097778926822,<-PySem.W.Fast.te12822647523644345616]
noncomputable def pO (p:Program)(w:World)(n₀:Nat)(ann:Option Value):Nat->SharedT->Thread->Option SharedT
 | 0,_,_=>none
 |n + 1,s,t=>match through t with
  |true=>some s
  |false=>match MH n₀ ann t with
   |false=>none
   |true=>match DW (Js HE) p w s t with
    |some (s',t')=>pO p w n₀ ann n s' t'
    |none=>none
theorem sS {p:Program}{w:World}{n₀:Nat}{ann:Option Value}:∀{n:Nat} {s s':SharedT} {t:Thread},pO p w n₀ ann n s t=some s'->topRun treeTable p w n₀ ann n s.abs t=some s'.abs
 | 0,_,_,_,h=>by cases h
 |n + 1,s,s',t,h=>by
  unfold pO at h
  unfold topRun
  cases ht:through t with
  |true=>rw[ht] at h;cases h;rfl
  |false=>
   rw[ht] at h
   have hq:MH n₀ ann t=stepOk n₀ ann t:=by unfold MH;rw[<-PySem.W.Fast.te6613529449190102663]
   dsimp only at h
   rw[hq] at h
   cases hk:stepOk n₀ ann t with
   |false=>rw[hk] at h;cases h
   |true=>
    rw[hk] at h
    have hq:DW (Js HE) p w s t=stepT (denote treeTable) p w s t:=by unfold DW Js HE;rw[<-PySem.W.Fast.te10156331382660048174,<-PySem.W.Fast.te11892475500146522536,<-PySem.W.Fast.te14364793385576792824]
    dsimp only at h
    rw[hq] at h
    cases hs:stepT (denote treeTable) p w s t with
    |none=>rw[hs] at h;cases h
    |some r=>obtain⟨s₂,t₂⟩:=r;rw[hs] at h;rw[stepT_spec hs];exact sS h
def treeOf (l:List Obj):BT:=(l.foldl (λ(x:BT×Nat) o=>(x.1.ins x.2 o,x.2 + 1)) (.nil,0)).1
noncomputable def DE (P:Params):BT:=treeOf (boot_heap P).objs.toList
abbrev vk:Nat:=11
abbrev Ea:Life:={}
def boot_abs (P:Params):absHeap (DE P) vk Ea=boot_heap P:=by kernel_rfl
def AK (w:World):((boot_heap w.params).isNs mainGlobals && (Array.mk ([]:List GenState)).size == 0,(boot_heap w.params).objs.size,(boot_heap w.params).nsMap mainGlobals "__annotations__")=(true,vk,some (.ref 6)):=by kernel_rfl
noncomputable def D4 (w:World)(os:OsState):SharedT:=⟨DE w.params,vk,Ea,Array.mk [],boot_drawn,boot_toks,os⟩
noncomputable def Hn (p:Program)(w:World)(s:Shared):Bool:=staticsOk (importedModules p.main.body) (boot_heap w.params) s.heap && namesBound p s.heap && gensDone s && laidKept (boot_heap w.params) s.heap
def Ft {p q:Program}{loose:List Str}{Xt:Shared->Bool}{α:Type}{Yf:Shared->α}{Ya:World->α}{N:Nat}{g0:Bool}
  (e:opening p=plainProg p.main.scope.names) (hN:Nat.ble 600 N=true) (f:∀s,fenceModules? p s=some s)
  (run:∀(w:World) (os:OsState),(pO p w vk (some (.ref 6)) N (D4 w os) (B5 p)).map (λs=>(Hn p w s.abs,openSeen q loose (importedModules p.main.body) Xt g0 s.abs,Yf s.abs))=some (true,openGood q loose,Ya w)):LeftO p q loose Xt Yf Ya N g0:=λw=>by
 obtain⟨⟨h,gs,d,k,os⟩,e,e'⟩:=Option.map_eq_some_iff.mp (boot_open e hN f w)
 obtain⟨rfl,rfl,rfl,rfl⟩:h=boot_heap w.params/\gs=Array.mk []/\d=boot_drawn/\k=boot_toks:=by simpa using e'
 obtain⟨z1,z2,z3⟩:_/\_/\_:=by simpa only [Prod.mk.injEq] using AK w
 obtain⟨s',r,ls⟩:=Option.map_eq_some_iff.mp (run w os)
 obtain⟨l1,l2,l3⟩:_/\_/\_:=by simpa only [Prod.mk.injEq] using ls
 have r:=sS r
 have ha:(D4 w os).abs=⟨boot_heap w.params,Array.mk [],boot_drawn,boot_toks,os⟩:=by
  show Shared.mk (absHeap (DE w.params) vk Ea) _ _ _ _=_
  rw[boot_abs]
  rfl
 rw[ha,<-DR] at r
 have t:topFrom treeTable p w N ⟨boot_heap w.params,Array.mk [],boot_drawn,boot_toks,os⟩=some s'.abs:=by
  unfold topFrom
  dsimp only
  rw[z1,z2,z3,r]
  show (match Hn p w s'.abs with |true=>_ |false=>_)=_
  rw[l1]
 unfold openEnds
 rw[e]
 show (topFrom treeTable p w N _).map _=_
 rw[t]
 exact congrArg some (Prod.ext l2 l3)
end HD
section
namespace RO
open PySem L2 RM
def y0 (K:Frag):Sp:=λvs H Q _=>∃(a:Addr) (ns:List Int),vs= [.ref a]/\gY K H a (ns.map V.int)/\∀H',aC H H'->Q (.bl true) H'
def Iy {K:Frag}{ca:Str->Addr}(vs:List V)(H:Hp)(Q:VK)(E:XK)(h:y0 K vs H Q E):Es K ca 1 Jo vs H Q E:=by
 obtain⟨a,ns,rfl,hS,q⟩:=h
 refine⟨H,[cX ns],aC.refl _,rfl,.cons (.scr hS) .nil,?_⟩
 rw[Ku]
 intro v G' H' s1 s2 s3 s4 fv
 have fv:Rp K G' v (.bool true):=fv
 cases fv
 exact q H' s1
def yM:a8 "is_whole" RQ.ke ["thing"]:=λ_ _ _ _ _ _=>A9 λ_=>rfl
def x8:a8 "is_below" RQ.ki ["thing","bound"]:=λ_ _ _ _ _ _=>ln2 λ_ _=>rfl
def Aj:a8 "is_many" RQ.lN ["thing"]:=λ_ _ _ _ _ _=>A9 λ_=>rfl
def BD:a8 "is_pair" RQ.lV ["thing","many"]:=λ_ _ _ _ _ _=>ln2 λ_ _=>rfl
def AN:a8 "is_line" RQ.lL ["thing","many"]:=λ_ _ _ _ _ _=>ln2 λ_ _=>rfl
def ug:a8 "every_pair" RQ.fA ["many"]:=λ_ _ _ _ _ _=>A9 λ_=>rfl
def B4:a8 "closed" ni ["many","pairs"]:=λ_ _ _ _ _ _=>ln2 λ_ _=>rfl
def yQ:a8 "has_ring" RQ.kr ["pairs"]:=λ_ _ _ _ _ _=>A9 λ_=>rfl
def xw:a8 "is_order" RQ.j5 ["thing"]:=λ_ _ _ _ _ _=>A9 λ_=>rfl
def u9:a8 "need_order" RQ.hJ ["thing"]:=λ_ _ _ _ _ _=>A9 λ_=>rfl
def vA:a8 "are_apart" RQ.jn ["order","a","b"]:=λ_ _ _ _ _ _=>Kw λ_ _ _=>rfl
def DD:a8 "places" RQ.nv ["row"]:=λ_ _ _ _ _ _=>A9 λ_=>rfl
def rH:a8 "keeps_order" RQ.gj ["thing","order"]:=λ_ _ _ _ _ _=>ln2 λ_ _=>rfl
def BV:a8 "is_row" RQ.ny ["thing","order"]:=λ_ _ _ _ _ _=>ln2 λ_ _=>rfl
def ud:a8 "with_thing" RQ.g8 ["placed","thing"]:=λ_ _ _ _ _ _=>ln2 λ_ _=>rfl
def rK:a8 "free_things" RQ.gn ["masks","placed"]:=λ_ _ _ _ _ _=>ln2 λ_ _=>rfl
def AM:a8 "ways_on" RQ.lT ["masks"]:=λ_ _ _ _ _ _=>A9 λ_=>rfl
def rD:a8 "masks_ahead" RQ.gA ["order"]:=λ_ _ _ _ _ _=>A9 λ_=>rfl
def wI:a8 "rows_many" RQ.jb ["order"]:=λ_ _ _ _ _ _=>A9 λ_=>rfl
def Cz:a8 "choose" RQ.nG ["masks","ways","placed","left"]:=λ_ _ _ _ _ _=>Nz λ_ _ _ _=>rfl
def AZ:a8 "nth_row" RQ.lY ["order","number"]:=λ_ _ _ _ _ _=>ln2 λ_ _=>rfl
def vj:a8 "row_along" RQ.je ["masks","late"]:=λ_ _ _ _ _ _=>ln2 λ_ _=>rfl
def Gz:a8 "turns" RQ.pG ["order"]:=λ_ _ _ _ _ _=>A9 λ_=>rfl
def AL:a8 "is_turn" RQ.lO ["thing","order"]:=λ_ _ _ _ _ _=>ln2 λ_ _=>rfl
def xc:a8 "are_turns" RQ.jc ["thing","order"]:=λ_ _ _ _ _ _=>ln2 λ_ _=>rfl
def yz:a8 "leads_on" RQ.kN ["order","turn","other"]:=λ_ _ _ _ _ _=>Kw λ_ _ _=>rfl
def u4:a8 "goes_round" RQ.hX ["thing","order"]:=λ_ _ _ _ _ _=>ln2 λ_ _=>rfl
def Bo:a8 "is_ring" RQ.lM ["thing","order"]:=λ_ _ _ _ _ _=>ln2 λ_ _=>rfl
def yo:a8 "is_ahead" RQ.kh ["masks","a","b"]:=λ_ _ _ _ _ _=>Kw λ_ _ _=>rfl
def wU:a8 "is_barred" RQ.i4 ["masks","turn"]:=λ_ _ _ _ _ _=>ln2 λ_ _=>rfl
def yI:a8 "put_turn" RQ.j8 ["masks","turn"]:=λ_ _ _ _ _ _=>ln2 λ_ _=>rfl
def wB:a8 "ring_with" RQ.ji ["order","put","turn"]:=λ_ _ _ _ _ _=>Kw λ_ _ _=>rfl
def yt:a8 "together" RQ.kj ["order","some"]:=λ_ _ _ _ _ _=>ln2 λ_ _=>rfl
def v3:a8 "_law_cell" RQ.jm ["script","k"]:=λ_ _ _ _ _ _=>ln2 λ_ _=>rfl
def xY:a8 "_law_mix" RQ.fW ["cell","k"]:=λ_ _ _ _ _ _=>ln2 λ_ _=>rfl
def xM:a8 "_law_box" RQ.j6 ["script","k"]:=λ_ _ _ _ _ _=>ln2 λ_ _=>rfl
def wL:a8 "_law_take" RQ.jh ["box","many"]:=λ_ _ _ _ _ _=>ln2 λ_ _=>rfl
def pz:a8 "_law_mixed_up" RQ.dY ["box","some"]:=λ_ _ _ _ _ _=>ln2 λ_ _=>rfl
def rQ:a8 "_law_closed" RQ.gk ["pairs"]:=λ_ _ _ _ _ _=>A9 λ_=>rfl
def uX:a8 "_law_order" RQ.g9 ["box","most"]:=λ_ _ _ _ _ _=>ln2 λ_ _=>rfl
def wm:a8 "_law_told" RQ.i9 ["many","rows"]:=λ_ _ _ _ _ _=>ln2 λ_ _=>rfl
def tJ:a8 "_law_leads" RQ.ic ["order","one","other"]:=λ_ _ _ _ _ _=>Kw λ_ _ _=>rfl
def oq:a8 "_law_turns_all" RQ.dC ["row","some"]:=λ_ _ _ _ _ _=>ln2 λ_ _=>rfl
def all_mk {l:PySem.W.OpenLaw}{w:World}{K:Frag}{h:Heap}{mg:Str->Option Value}{fa f44 x0 x1 x2:Addr}(X:K.In h)(G:h.Ns mainGlobals mg)(hfa:mg "law"=some (.ref fa))
  {od44 an44:Option Addr} {sl44:Array (Option Value)} {oc44 kV44 dc44 pm44 cd44 ct44:Value} {tMOST_THINGS:Tok}
  (F1:Fo K mg "is_whole" RQ.ke ["thing"])
  (F2:Fo K mg "is_below" RQ.ki ["thing","bound"])
  (F3:Fo K mg "is_many" RQ.lN ["thing"])
  (F4:Fo K mg "is_pair" RQ.lV ["thing","many"])
  (F5:Fo K mg "is_line" RQ.lL ["thing","many"])
  (F6:Fo K mg "every_pair" RQ.fA ["many"])
  (F7:Fo K mg "closed" ni ["many","pairs"])
  (F8:Fo K mg "has_ring" RQ.kr ["pairs"])
  (F9:Fo K mg "is_order" RQ.j5 ["thing"])
  (F10:Fo K mg "need_order" RQ.hJ ["thing"])
  (F11:Fo K mg "are_apart" RQ.jn ["order","a","b"])
  (F12:Fo K mg "places" RQ.nv ["row"])
  (F13:Fo K mg "keeps_order" RQ.gj ["thing","order"])
  (F14:Fo K mg "is_row" RQ.ny ["thing","order"])
  (F15:Fo K mg "with_thing" RQ.g8 ["placed","thing"])
  (F16:Fo K mg "free_things" RQ.gn ["masks","placed"])
  (F17:Fo K mg "ways_on" RQ.lT ["masks"])
  (F18:Fo K mg "masks_ahead" RQ.gA ["order"])
  (F19:Fo K mg "rows_many" RQ.jb ["order"])
  (F20:Fo K mg "choose" RQ.nG ["masks","ways","placed","left"])
  (F21:Fo K mg "nth_row" RQ.lY ["order","number"])
  (F22:Fo K mg "row_along" RQ.je ["masks","late"])
  (F23:Fo K mg "turns" RQ.pG ["order"])
  (F24:Fo K mg "is_turn" RQ.lO ["thing","order"])
  (F25:Fo K mg "are_turns" RQ.jc ["thing","order"])
  (F26:Fo K mg "leads_on" RQ.kN ["order","turn","other"])
  (F27:Fo K mg "goes_round" RQ.hX ["thing","order"])
  (F28:Fo K mg "is_ring" RQ.lM ["thing","order"])
  (F29:Fo K mg "is_ahead" RQ.kh ["masks","a","b"])
  (F30:Fo K mg "is_barred" RQ.i4 ["masks","turn"])
  (F31:Fo K mg "put_turn" RQ.j8 ["masks","turn"])
  (F32:Fo K mg "ring_with" RQ.ji ["order","put","turn"])
  (F33:Fo K mg "together" RQ.kj ["order","some"])
  (F34:Fo K mg "_law_cell" RQ.jm ["script","k"])
  (F35:Fo K mg "_law_mix" RQ.fW ["cell","k"])
  (F36:Fo K mg "_law_box" RQ.j6 ["script","k"])
  (F37:Fo K mg "_law_take" RQ.jh ["box","many"])
  (F38:Fo K mg "_law_mixed_up" RQ.dY ["box","some"])
  (F39:Fo K mg "_law_closed" RQ.gk ["pairs"])
  (F40:Fo K mg "_law_order" RQ.g9 ["box","most"])
  (F41:Fo K mg "_law_told" RQ.i9 ["many","rows"])
  (F42:Fo K mg "_law_leads" RQ.ic ["order","one","other"])
  (F43:Fo K mg "_law_turns_all" RQ.dC ["row","some"])
  (a44:PySem.W.nsIn K mainGlobals "law"=some (some (.ref f44))) (l44:K.lookup f44=some ⟨oc44,od44,.func (PySem.W.fnOf "law" "law" (jk RQ.my) (df RQ.my) (ay RQ.my) .none kV44 dc44 pm44 an44 cd44 ct44),sl44⟩) (c44:PySem.W.codeIn K cd44 "law"=true) (k44:PySem.W.keepIn K (.ref f44)=true)
  (zB:L9 K=true)
  (yMOST_THINGS:PySem.W.nsIn K mainGlobals "MOST_THINGS"=some (some (.int 8 tMOST_THINGS)))
  (m0:PySem.W.nsIn K mainGlobals "NoNumber"=some (some (.ref x0)))
  (e0:PySem.W.excIn K x0 [.type "ValueError",.type "Exception",.type "BaseException",.type "object"] "ValueError.__new__"=true)
  (m1:PySem.W.nsIn K mainGlobals "NoOrder"=some (some (.ref x1)))
  (e1:PySem.W.excIn K x1 [.type "ValueError",.type "Exception",.type "BaseException",.type "object"] "ValueError.__new__"=true)
  (m2:PySem.W.nsIn K mainGlobals "NoTurns"=some (some (.ref x2)))
  (e2:PySem.W.excIn K x2 [.type "ValueError",.type "Exception",.type "BaseException",.type "object"] "ValueError.__new__"=true)
  :∃fd:FuncData,(∀(s:Shared) (v:Value),BindsTo s fd ⟨[v],[]⟩ [("script",v)])/\∀base:Heap,K.In base->base.Ns mainGlobals mg->gN l.prog w K mg base (pw l.prog w) 8 fa fd ["script"] (y0 K):=by
 have e:=hfa.symm.trans (Qi X G a44)
 cases e
 have B:iQ mg:=KA X G zB
 have jv:=Qi X G yMOST_THINGS
 obtain⟨f1,d1,cn⟩:=F1.ex
 obtain⟨f2,d2,bw⟩:=F2.ex
 obtain⟨f3,d3,iq⟩:=F3.ex
 obtain⟨f4,d4,cx⟩:=F4.ex
 obtain⟨f5,d5,ij⟩:=F5.ex
 obtain⟨f6,d6,cU⟩:=F6.ex
 obtain⟨f7,d7,jJ⟩:=F7.ex
 obtain⟨f8,d8,fY⟩:=F8.ex
 obtain⟨f9,d9,fM⟩:=F9.ex
 obtain⟨f10,d10,aF⟩:=F10.ex
 obtain⟨f11,d11,bW⟩:=F11.ex
 obtain⟨f12,d12,jH⟩:=F12.ex
 obtain⟨f13,d13,c8⟩:=F13.ex
 obtain⟨f14,d14,jT⟩:=F14.ex
 obtain⟨f15,d15,ar⟩:=F15.ex
 obtain⟨f16,d16,aZ⟩:=F16.ex
 obtain⟨f17,d17,cK⟩:=F17.ex
 obtain⟨f18,d18,a7⟩:=F18.ex
 obtain⟨f19,d19,eV⟩:=F19.ex
 obtain⟨f20,d20,jG⟩:=F20.ex
 obtain⟨f21,d21,iw⟩:=F21.ex
 obtain⟨f22,d22,fj⟩:=F22.ex
 obtain⟨f23,d23,lU⟩:=F23.ex
 obtain⟨f24,d24,ig⟩:=F24.ex
 obtain⟨f25,d25,bZ⟩:=F25.ex
 obtain⟨f26,d26,b7⟩:=F26.ex
 obtain⟨f27,d27,dM⟩:=F27.ex
 obtain⟨f28,d28,iu⟩:=F28.ex
 obtain⟨f29,d29,cf⟩:=F29.ex
 obtain⟨f30,d30,fg⟩:=F30.ex
 obtain⟨f31,d31,fU⟩:=F31.ex
 obtain⟨f32,d32,eZ⟩:=F32.ex
 obtain⟨f33,d33,dA⟩:=F33.ex
 obtain⟨f34,d34,fm⟩:=F34.ex
 obtain⟨f35,d35,gi⟩:=F35.ex
 obtain⟨f36,d36,fT⟩:=F36.ex
 obtain⟨f37,d37,aU⟩:=F37.ex
 obtain⟨f38,d38,bt⟩:=F38.ex
 obtain⟨f39,d39,c7⟩:=F39.ex
 obtain⟨f40,d40,dF⟩:=F40.ex
 obtain⟨f41,d41,fk⟩:=F41.ex
 obtain⟨f42,d42,cS⟩:=F42.ex
 obtain⟨f43,d43,bQ⟩:=F43.ex
 have U44:=yF (st:=RQ.my) l44 c44 k44
 have Kg:iA K mg "law" RQ.my ["script"] fa _:=⟨Qi X G a44,U44,U44.binds (ps:=["script"]) λ_ _ _ _ _ _=>A9 λ_=>rfl⟩
 obtain⟨ca,hca⟩:∃ca:Str->Addr,ca "NoNumber"=x0/\ca "NoOrder"=x1/\ca "NoTurns"=x2:=⟨λs=>if s="NoNumber" then x0 else if s="NoOrder" then x1 else if s="NoTurns" then x2 else 0,by first |rfl |decide |simp,by first |rfl |decide |simp,by first |rfl |decide |simp⟩
 have iG:Exc K mg ca "NoNumber":=⟨by rw[hca.1];exact Qi X G m0,by rw[hca.1];exact e0⟩
 have jW:Exc K mg ca "NoOrder":=⟨by rw[hca.2.1];exact Qi X G m1,by rw[hca.2.1];exact e1⟩
 have jM:Exc K mg ca "NoTurns":=⟨by rw[hca.2.2];exact Qi X G m2,by rw[hca.2.2];exact e2⟩
 refine⟨PySem.W.fnOf "law" "law" (jk RQ.my) (df RQ.my) (ay RQ.my) .none kV44 dc44 pm44 an44 cd44 ct44,λs v=>.of_eq rfl,λbase _ _=>?_⟩
 have gf:=(RQ.tR (P:=l.prog) (w:=w) (base:=base) (ca:=ca) cn B).imp Fc
 have cg:=(RQ.uK (P:=l.prog) (w:=w) (base:=base) (ca:=ca) bw B gf).imp E9
 have n5:=(RQ.vm (P:=l.prog) (w:=w) (base:=base) (ca:=ca) iq B gf jv).imp Jc
 have yj:=RQ.oR (P:=l.prog) (w:=w) (base:=base) (ca:=ca) cx B cg
 have jS:=(RQ.oR (P:=l.prog) (w:=w) (base:=base) (ca:=ca) cx B cg).imp Jp
 have oh:=RQ.xh (P:=l.prog) (w:=w) (base:=base) (ca:=ca) ij B cg
 have kg:=RQ.ql (P:=l.prog) (w:=w) (base:=base) (ca:=ca) cU B
 have pW:=xO (P:=l.prog) (w:=w) (base:=base) (ca:=ca) jJ cU B
 have mH:=(RQ.uY (P:=l.prog) (w:=w) (base:=base) (ca:=ca) fY B).imp IS
 have mT:=(RQ.vc (P:=l.prog) (w:=w) (base:=base) (ca:=ca) fM B n5 jS pW mH).imp yb
 have aW:=(RQ.qe (P:=l.prog) (w:=w) (base:=base) (ca:=ca) aF B mT jW).imp E4
 have eY:=RQ.rS (P:=l.prog) (w:=w) (base:=base) (ca:=ca) bW B
 have qO:=RQ.xt (P:=l.prog) (w:=w) (base:=base) (ca:=ca) jH B
 have jB:=RQ.o8 (P:=l.prog) (w:=w) (base:=base) (ca:=ca) c8 B oh qO
 have rb:=RQ.yE (P:=l.prog) (w:=w) (base:=base) (ca:=ca) jT B aW jB
 have aL:=RQ.qj (P:=l.prog) (w:=w) (base:=base) (ca:=ca) ar B
 have bV:=RQ.pf (P:=l.prog) (w:=w) (base:=base) (ca:=ca) aZ B aL
 have iz:=RQ.vB (P:=l.prog) (w:=w) (base:=base) (ca:=ca) cK B bV aL
 have bS:=RQ.pe (P:=l.prog) (w:=w) (base:=base) (ca:=ca) a7 B aL
 have lu:=RQ.rM (P:=l.prog) (w:=w) (base:=base) (ca:=ca) eV B aW iz bS
 have pV:=RQ.xy (P:=l.prog) (w:=w) (base:=base) (ca:=ca) jG B bV aL
 have oD:=RQ.wV (P:=l.prog) (w:=w) (base:=base) (ca:=ca) iw B aW bS iz cg pV aL iG
 have lr:=RQ.rk (P:=l.prog) (w:=w) (base:=base) (ca:=ca) fj B bV aL
 have uW:=RQ.AO (P:=l.prog) (w:=w) (base:=base) (ca:=ca) lU B aW kg eY
 have oG:=RQ.vM (P:=l.prog) (w:=w) (base:=base) (ca:=ca) ig B yj eY
 have eS:=RQ.rZ (P:=l.prog) (w:=w) (base:=base) (ca:=ca) bZ B oG
 have eG:=RQ.uZ (P:=l.prog) (w:=w) (base:=base) (ca:=ca) b7 B
 have kf:=RQ.qW (P:=l.prog) (w:=w) (base:=base) (ca:=ca) dM B eS eG
 have om:=RQ.vJ (P:=l.prog) (w:=w) (base:=base) (ca:=ca) iu B aW kf
 have fO:=RQ.uP (P:=l.prog) (w:=w) (base:=base) (ca:=ca) cf B aL
 have lC:=RQ.rO (P:=l.prog) (w:=w) (base:=base) (ca:=ca) fg B fO
 have mL:=RQ.uR (P:=l.prog) (w:=w) (base:=base) (ca:=ca) fU B fO aL
 have ly:=RQ.rT (P:=l.prog) (w:=w) (base:=base) (ca:=ca) eZ B eG
 have iD:=RQ.tZ (P:=l.prog) (w:=w) (base:=base) (ca:=ca) dA B aW eS bS lC ly mL lr jM
 have lK:=RQ.rq (P:=l.prog) (w:=w) (base:=base) (ca:=ca) fm B
 have mM:=RQ.uB (P:=l.prog) (w:=w) (base:=base) (ca:=ca) gi B
 have mQ:=RQ.uf (P:=l.prog) (w:=w) (base:=base) (ca:=ca) fT B lK mM
 have bC:=RQ.rG (P:=l.prog) (w:=w) (base:=base) aU B
 have cv:=RQ.m9 (P:=l.prog) (w:=w) (base:=base) bt B bC
 have ju:=RQ.o9 (P:=l.prog) (w:=w) (base:=base) (ca:=ca) c7 B
 have kz:=RQ.qt (P:=l.prog) (w:=w) (base:=base) (ca:=ca) dF B ju bC cv
 have lG:=RQ.sd (P:=l.prog) (w:=w) (base:=base) (ca:=ca) fk B
 have h9:=RQ.qg (P:=l.prog) (w:=w) (base:=base) (ca:=ca) cS B
 have dN:=RQ.mO (P:=l.prog) (w:=w) (base:=base) (ca:=ca) bQ B
 have KR:=RQ.Gj (P:=l.prog) (w:=w) (base:=base) (ca:=ca) Kg B mQ lG uW lu oD iD dN rb om h9 kz bC cv
 exact gN.imp (sp:=Es K ca 1 Jo) KR Iy
def walk {l:PySem.W.OpenLaw}{q:Program}{loose:List Str}{XP:(Str->Option Value)->Heap->Prop}{YP:World->Heap->Prop}{d:DefRec}{K:Params->Frag}(hn:l.most=some 63)(hdf:d.params.defaults= [])(hi:PyProof.Rows.importsNone q=true)
  (hY:∀(w:World) (h:Heap),YP w h->(K w.params).In h)
  (F:∀(w:World) (mg:Str->Option Value) (fa:Addr) (h:Heap),(K w.params).In h->h.Ns mainGlobals mg->mg d.name=some (.ref fa)->
   ∃fd:FuncData,(∀(s:Shared) (u:Value),BindsTo s fd ⟨[u],[]⟩ [("script",u)])/\∀base:Heap,(K w.params).In base->base.Ns mainGlobals mg->gN l.prog w (K w.params) mg base (pw l.prog w) 8 fa fd ["script"] (y0 (K w.params))) :
  PySem.W.WalkO q loose XP YP l.row.toRowW d [] (λf vs=>PySem.call f vs):=
 L2.EJ (n:=63) (k:=8) (x:="script") (CX:=λw=>pw l.prog w) (sp:=λw=>y0 (K w.params)) hn (by decide) hdf hi ⟨rfl,by decide,by decide,rfl⟩ hY F (λ_ _ a ns hl _ hS=>⟨a,ns,rfl,hS,λ_ _=>rfl⟩) λ_ _ _ _ _ z=>by
  obtain⟨_,_,_,_,_,_,_,_,_,z⟩:=z
  exact z
end RO
namespace HD
noncomputable def vw:PySem.Program:=PySem.W.view PySem.Challenge.pw_rowsorder_k27_whole_together_or_a_ring [1,2,3,4,5,6,7,9,10,11,12,14,15,16,17,18,20,21,22,23,24,25,26,27,28,29,30,32,33,34,35,36,37,38,39,40,41,42,44,45,46,47,48,49,50,51,52,53,54]
def KJ:PySem.Challenge.rw_rowsorder_k27_whole_together_or_a_ring.wellSaid=true:=by kernel_rfl
end HD
local macro_rules | `(tactic|o_head $H)=>`(tactic| (
 refine PySem.W.holds_open (q:=HD.vw) (loose:=[]) (Xt:=λs=>PySem.W.xlAt HD.vw [] s && PySem.W.recOk (PySem.W.RowW.records _) s) (XP:=PySem.W.XL HD.vw []) (Yf:=PySem.W.Hook.obs $H) (Ya:=PySem.W.Hook.val $H) (YP:=PySem.W.Hook.says $H) (N:=4478) ?hl (PySem.W.Hook.of $H) (PySem.W.Hook.keeps $H) (λs e=>PySem.W.xl_of s (Bool.and_eq_true_iff.mp e).1) PySem.W.XL.keeps (by rfl) (by rfl) (by rfl) (λs e=>PySem.W.recFacts_of (Bool.and_eq_true_iff.mp e).2) (by rfl) (by first |assumption |decide +kernel) (by decide +kernel) ⟨rfl,rfl,rfl,rfl,rfl,by decide +kernel⟩ ?hw ?hc
 case hl=>exact HD.Ft (by kernel_rfl) (by kernel_rfl) (λs=>by kernel_rfl) (λw os=>by kernel_rfl)))
open PySem PySem.W PyProof.Rows L2
set_option maxRecDepth 100000 in
set_option maxHeartbeats 0 in
theorem PySem.Challenge.cw_rowsorder_k27_whole_together_or_a_ring_holds : PySem.Challenge.rw_rowsorder_k27_whole_together_or_a_ring.Holds := by
 w_on;(refine holds_law HD.KJ λKJ=>?_);k_head;(case hw=>w_witness2)
 k_fill
 refine RO.walk (l:=PySem.Challenge.rw_rowsorder_k27_whole_together_or_a_ring) rfl rfl ?hi (λw h Y=>PySem.W.kIn_of Y) ?F
 case hi=>kernel_rfl
 case F=>
  intro w mg fa h KX G hmg
  refine' RO.all_mk KX G hmg ?F1 ?F2 ?F3 ?F4 ?F5 ?F6 ?F7 ?F8 ?F9 ?F10 ?F11 ?F12 ?F13 ?F14 ?F15 ?F16 ?F17 ?F18 ?F19 ?F20 ?F21 ?F22 ?F23 ?F24 ?F25 ?F26 ?F27 ?F28 ?F29 ?F30 ?F31 ?F32 ?F33 ?F34 ?F35 ?F36 ?F37 ?F38 ?F39 ?F40 ?F41 ?F42 ?F43 ?a44 ?l44 ?c44 ?k44 ?zB ?yMOST_THINGS ?m0 ?e0 ?m1 ?e1 ?m2 ?e2
  case F1=>refine' bE KX G RO.yM ?a ?l ?c ?k;(case a=>k_is);(case l=>k_is);(case c=>k_is);(case k=>k_is)
  case F2=>refine' bE KX G RO.x8 ?a ?l ?c ?k;(case a=>k_is);(case l=>k_is);(case c=>k_is);(case k=>k_is)
  case F3=>refine' bE KX G RO.Aj ?a ?l ?c ?k;(case a=>k_is);(case l=>k_is);(case c=>k_is);(case k=>k_is)
  case F4=>refine' bE KX G RO.BD ?a ?l ?c ?k;(case a=>k_is);(case l=>k_is);(case c=>k_is);(case k=>k_is)
  case F5=>refine' bE KX G RO.AN ?a ?l ?c ?k;(case a=>k_is);(case l=>k_is);(case c=>k_is);(case k=>k_is)
  case F6=>refine' bE KX G RO.ug ?a ?l ?c ?k;(case a=>k_is);(case l=>k_is);(case c=>k_is);(case k=>k_is)
  case F7=>refine' bE KX G RO.B4 ?a ?l ?c ?k;(case a=>k_is);(case l=>k_is);(case c=>k_is);(case k=>k_is)
  case F8=>refine' bE KX G RO.yQ ?a ?l ?c ?k;(case a=>k_is);(case l=>k_is);(case c=>k_is);(case k=>k_is)
  case F9=>refine' bE KX G RO.xw ?a ?l ?c ?k;(case a=>k_is);(case l=>k_is);(case c=>k_is);(case k=>k_is)
  case F10=>refine' bE KX G RO.u9 ?a ?l ?c ?k;(case a=>k_is);(case l=>k_is);(case c=>k_is);(case k=>k_is)
  case F11=>refine' bE KX G RO.vA ?a ?l ?c ?k;(case a=>k_is);(case l=>k_is);(case c=>k_is);(case k=>k_is)
  case F12=>refine' bE KX G RO.DD ?a ?l ?c ?k;(case a=>k_is);(case l=>k_is);(case c=>k_is);(case k=>k_is)
  case F13=>refine' bE KX G RO.rH ?a ?l ?c ?k;(case a=>k_is);(case l=>k_is);(case c=>k_is);(case k=>k_is)
  case F14=>refine' bE KX G RO.BV ?a ?l ?c ?k;(case a=>k_is);(case l=>k_is);(case c=>k_is);(case k=>k_is)
  case F15=>refine' bE KX G RO.ud ?a ?l ?c ?k;(case a=>k_is);(case l=>k_is);(case c=>k_is);(case k=>k_is)
  case F16=>refine' bE KX G RO.rK ?a ?l ?c ?k;(case a=>k_is);(case l=>k_is);(case c=>k_is);(case k=>k_is)
  case F17=>refine' bE KX G RO.AM ?a ?l ?c ?k;(case a=>k_is);(case l=>k_is);(case c=>k_is);(case k=>k_is)
  case F18=>refine' bE KX G RO.rD ?a ?l ?c ?k;(case a=>k_is);(case l=>k_is);(case c=>k_is);(case k=>k_is)
  case F19=>refine' bE KX G RO.wI ?a ?l ?c ?k;(case a=>k_is);(case l=>k_is);(case c=>k_is);(case k=>k_is)
  case F20=>refine' bE KX G RO.Cz ?a ?l ?c ?k;(case a=>k_is);(case l=>k_is);(case c=>k_is);(case k=>k_is)
  case F21=>refine' bE KX G RO.AZ ?a ?l ?c ?k;(case a=>k_is);(case l=>k_is);(case c=>k_is);(case k=>k_is)
  case F22=>refine' bE KX G RO.vj ?a ?l ?c ?k;(case a=>k_is);(case l=>k_is);(case c=>k_is);(case k=>k_is)
  case F23=>refine' bE KX G RO.Gz ?a ?l ?c ?k;(case a=>k_is);(case l=>k_is);(case c=>k_is);(case k=>k_is)
  case F24=>refine' bE KX G RO.AL ?a ?l ?c ?k;(case a=>k_is);(case l=>k_is);(case c=>k_is);(case k=>k_is)
  case F25=>refine' bE KX G RO.xc ?a ?l ?c ?k;(case a=>k_is);(case l=>k_is);(case c=>k_is);(case k=>k_is)
  case F26=>refine' bE KX G RO.yz ?a ?l ?c ?k;(case a=>k_is);(case l=>k_is);(case c=>k_is);(case k=>k_is)
  case F27=>refine' bE KX G RO.u4 ?a ?l ?c ?k;(case a=>k_is);(case l=>k_is);(case c=>k_is);(case k=>k_is)
  case F28=>refine' bE KX G RO.Bo ?a ?l ?c ?k;(case a=>k_is);(case l=>k_is);(case c=>k_is);(case k=>k_is)
  case F29=>refine' bE KX G RO.yo ?a ?l ?c ?k;(case a=>k_is);(case l=>k_is);(case c=>k_is);(case k=>k_is)
  case F30=>refine' bE KX G RO.wU ?a ?l ?c ?k;(case a=>k_is);(case l=>k_is);(case c=>k_is);(case k=>k_is)
  case F31=>refine' bE KX G RO.yI ?a ?l ?c ?k;(case a=>k_is);(case l=>k_is);(case c=>k_is);(case k=>k_is)
  case F32=>refine' bE KX G RO.wB ?a ?l ?c ?k;(case a=>k_is);(case l=>k_is);(case c=>k_is);(case k=>k_is)
  case F33=>refine' bE KX G RO.yt ?a ?l ?c ?k;(case a=>k_is);(case l=>k_is);(case c=>k_is);(case k=>k_is)
  case F34=>refine' bE KX G RO.v3 ?a ?l ?c ?k;(case a=>k_is);(case l=>k_is);(case c=>k_is);(case k=>k_is)
  case F35=>refine' bE KX G RO.xY ?a ?l ?c ?k;(case a=>k_is);(case l=>k_is);(case c=>k_is);(case k=>k_is)
  case F36=>refine' bE KX G RO.xM ?a ?l ?c ?k;(case a=>k_is);(case l=>k_is);(case c=>k_is);(case k=>k_is)
  case F37=>refine' bE KX G RO.wL ?a ?l ?c ?k;(case a=>k_is);(case l=>k_is);(case c=>k_is);(case k=>k_is)
  case F38=>refine' bE KX G RO.pz ?a ?l ?c ?k;(case a=>k_is);(case l=>k_is);(case c=>k_is);(case k=>k_is)
  case F39=>refine' bE KX G RO.rQ ?a ?l ?c ?k;(case a=>k_is);(case l=>k_is);(case c=>k_is);(case k=>k_is)
  case F40=>refine' bE KX G RO.uX ?a ?l ?c ?k;(case a=>k_is);(case l=>k_is);(case c=>k_is);(case k=>k_is)
  case F41=>refine' bE KX G RO.wm ?a ?l ?c ?k;(case a=>k_is);(case l=>k_is);(case c=>k_is);(case k=>k_is)
  case F42=>refine' bE KX G RO.tJ ?a ?l ?c ?k;(case a=>k_is);(case l=>k_is);(case c=>k_is);(case k=>k_is)
  case F43=>refine' bE KX G RO.oq ?a ?l ?c ?k;(case a=>k_is);(case l=>k_is);(case c=>k_is);(case k=>k_is)
  case a44=>k_is
  case l44=>k_is
  case c44=>k_is
  case k44=>k_is
  case zB=>kernel_rfl
  case yMOST_THINGS=>k_is
  case m0=>k_is
  case e0=>kernel_rfl
  case m1=>k_is
  case e1=>kernel_rfl
  case m2=>k_is
  case e2=>kernel_rfl
end
