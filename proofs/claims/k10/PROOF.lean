import PyProof.Rows.All
import Wide.All
import OpenK.AllK
import Wide.FinOn
import Lean
import PyProof.EqAt
import PyProof.EqKinds
import PyProof.TupleCall
import PySem.SetOps
import PyProof.SetKind
import PyProof.TupleKey
import PyProof.DictKinds
import PyProof.Rows.SetFrom
import PyProof.WalksMore
import KE.KSortTup
import PyProof.CollectWalk
import PyProof.ExcArgsOwn
import PyProof.Rows.CountFlat
import PyProof.Rows.SeqMore2
import PyProof.Rows.FStr
import PyProof.Rows.StrWeight2
import PyProof.Rows.StrNews
import PyProof.StrLawsTight
import PyProof.ExcBaseAll.ValueError
import PyProof.ZipIter
import PyProof.CallFns
import PyProof.Draws
import PyProof.EnumMake
import PyProof.SetRoads
import PyProof.Rows.SortWalk
import PyProof.SeqI3
import PyProof.Rows.SortShell
import PyProof.Rows.Range3
import KE.KStateDown
import PyProof.Rows.SumAny
import PyProof.ListRange
import PyProof.Rows.BitMore
import PySem.Challenge.RW_rowsorder_k10_no_numbers_no_rows
set_option Elab.async false
set_option linter.all false
set_option maxRecDepth 100000
set_option maxHeartbeats 1000000
def NA:=@PySem.wpAny_bind
def NC:=@List.getElem?_eq_getElem
def ND:=@PySem.Heap.get?_push_of_some
def NF:=@PySem.wpAny_pure
def NG:=@if_pos
def NH:=@Nat.le_refl
def NI:=@List.mem_cons
def NJ:=@List.mem_cons_of_mem
def NK:=@decide_eq_true
def NL:=@if_neg
def NM:=@List.length_map
def NN:=@List.mem_cons_self
def NO:=@PySem.Heap.lt_size
def NP:=@List.getElem?_map
def NQ:=@PySem.Heap.get?_push_size
def NR:=@decide_eq_false
def NS:=@List.size_toArray
def NT:=@List.mem_map
def NU:=@List.mem_of_getElem?
def NV:=@List.getElem?_eq_some_iff
def NW:=@List.getElem?_set_self
def NX:=@List.getElem?_set_ne
def NY:=@Bool.false_ne_true
def NZ:=@Bool.false_eq_true
def N0:=@List.length_cons
def N3:=@Bool.and_eq_true
def N4:=@decide_eq_true_eq
def N5:=@Nat.lt_of_lt_of_le
def N6:=@List.mem_range
def N7:=@List.mem_append
def N8:=@PySem.sizeLine_eq
def N9:=@List.mem_singleton
def Oa:=@Int.toNat_natCast
def Ob:=@List.getD_eq_getElem?_getD
def Oc:=@List.mem_filter
def Od:=@Array.getElem?_eq_getElem
def Oe:=@List.length_append
def Of:=@Nat.ne_of_lt
def Og:=@List.nodup_cons
def Oh:=@Nat.zero_le
def Oi:=@List.not_mem_nil
def Oj:=@List.getElem?_append_right
def Ol:=@List.mem_iff_getElem
def Om:=@Nat.lt_irrefl
def Oo:=@List.mem_append_right
def Oq:=@List.map_cons
def Ot:=@Array.getD_eq_getD_getElem?
def Ou:=@if_false
def Ov:=@PySem.W.mg_of
def Ow:=@List.getElem?_append_left
def Ox:=@Bool.eq_iff_iff
def Oy:=@List.replicate_succ
def Oz:=@Nat.zero_add
def OA:=@PySem.W.kia_one
def OB:=@PySem.Heap.get?_update_self
def OC:=@Array.getElem?_eq_some_iff
def OD:=@PySem.wpAny_setState_of
def OE:=@PySem.F.called_set
def OF:=@List.all_eq_true
def OG:=@List.map_congr_left
def OH:=@PySem.wpAny_newObj_type
def OI:=@List.pairwise_map
def OJ:=@PyProof.Rows.slot_tuple_getitem
def OK:=@PySem.boot_len
def OL:=@List.length_set
def ON:=@Nat.lt_or_ge
def OO:=@List.map_append
def OP:=@List.length_take
def OQ:=@PySem.Heap.get?_update_other
def OR:=@if_true
def OS:=@PySem.wpAny_holding
def OT:=@Nat.le_trans
def OU:=@List.idxOf_lt_length_iff
def OV:=@PyProof.Rows.callWith_type1
def OW:=@List.mem_append_left
def OX:=@PySem.wpAny_mono
def OY:=@List.getElem_mem
def OZ:=@List.getElem?_range
def O0:=@List.length_singleton
def O1:=@PySem.wpAny_call_entry
def O2:=@List.Pairwise.imp_of_mem
def O3:=@or_false
def O4:=@PySem.Heap.size_push
def O5:=@Nat.mul_le_mul
def O6:=@List.getElem?_replicate
def O7:=@PySem.wpAny_truthy_bool
def O8:=@List.flatten_cons
def O9:=@PySem.codeAny_builtin
def Pa:=@List.toList_toArray
def Pb:=@List.take_of_length_le
def Pc:=@decide_eq_decide
def Pd:=@List.mem_filterMap
def Pe:=@List.length_replicate
def Pf:=@Array.getElem?_toList
def Pg:=@List.getElem?_eq_none
def Pj:=@List.mem_of_mem_take
def Pk:=@List.set_eq_of_length_le
def Pl:=@List.eq_of_mem_replicate
def Pn:=@Nat.eq_of_testBit_eq
def Po:=@PySem.Value.isInt_shape
def Pp:=@List.append_assoc
def Pq:=@Bool.not_eq_true'
def Pt:=@of_decide_eq_true
def Pu:=@PySem.wpAny_callSpecial?_slot
def Pw:=@PySem.F.plainAttrs_list
def Px:=@PySem.mem_of_lookup
def Py:=@PySem.wpAny_setField
def Pz:=@PySem.codeAny_mono
def PB:=@PyProof.Rows.F.plain_set_update_loop
def PD:=@List.map_map
def PF:=@PySem.wpAny_passesOwn
def PH:=@List.append_nil
def PJ:=@List.getElem?_toArray
def PK:=@List.length_filter_le
def PL:=@List.nodup_iff_pairwise_ne
def PM:=@List.take_add_one
def PN:=@Array.mem_toList_iff
def PQ:=@List.pairwise_iff_getElem
def PR:=@PySem.Around.under_plainId
def PU:=@PySem.wpAny_field
def PV:=@Nat.le_succ
def PX:=@List.nodup_nil
def PY:=@Option.isSome_iff_exists
def PZ:=@PySem.wpAny_typeOf
def P0:=@List.nodup_range
def P4:=@List.lookup_cons
def P5:=@Int.zero_add
def P6:=@Array.length_toList
def P7:=@Bool.not_true
def P8:=@List.any_cons
def P9:=@PySem.strLen_append
def Qa:=@PySem.wpAny_pyIter_tuple
def Qb:=@List.getElem_idxOf
def Qc:=@Array.getElem?_eq_none
def Qd:=@PySem.SeqAt.canLay_of_shaped
def Qe:=@PySem.wpAny_pyIter_list
def Qf:=@List.length_range
def Qg:=@PySem.call_meets
def Qh:=@PySem.wpAny_askSetting
def Qi:=@List.getElem?_mapIdx
def Qj:=@List.ext_getElem
def Qk:=@List.mem_of_mem_drop
def Ql:=@List.filterMap_cons
def Qm:=@PySem.wpAny_execs_nil
def Qn:=@List.length_nil
def Qo:=@List.foldl_cons
def Qp:=@List.drop_eq_getElem_cons
def Qq:=@Bool.or_eq_true
def Qr:=@PySem.wpAny_Call_Name_kw
def Qs:=@PySem.F.args_tuple_add_2
def Qt:=@List.length_erase_of_mem
def Qu:=@List.getElem_range
def Qv:=@PySem.Obj.data_mapFields
def Qw:=@PySem.AutoSeq1.wpAny_loadPart'
def Qx:=@PySem.isSubtype_type
def Qy:=@Nat.lt_trichotomy
def Qz:=@Array.getElem_mem
def QA:=@List.ext_getElem?
def QB:=@PySem.wpAny_pyIter_enum
def QC:=@List.idxOf_append
open List (of_mem_zip length_drop nil_append all_cons all_map set_set sum_cons)
open PySem.W (Frag)
open PySem.PyData (int)
section
set_option Elab.async false
namespace L2
open PySem PySem.Spec PyProof.Rows
abbrev Key:=Sum Int Str
def sQ:Key->Value->Bool
 | .inl k,v=>Value.isInt k v
 | .inr x,v=>Value.isStrOf x v
def LU (w:World):Key->Int
 | .inl k=>hashInt k
 | .inr x=>hashStr w x
theorem b8:∀{k:Key} {v:Value},sQ k v=true->(∃i t,k=Sum.inl i/\v=Value.int i t)\/(∃x t,k=Sum.inr x/\v=Value.str x t)
 | .inl i,v,h=>by
  obtain⟨t,e⟩:=Po (k:=i) (v:=v) h
  exact .inl ⟨i,t,rfl,e⟩
 | .inr x,v,h=>by
  obtain⟨t,e⟩:=Value.isStrOf_shape (x:=x) (v:=v) h
  exact .inr ⟨x,t,rfl,e⟩
def A9 (i:Int)(t:Tok):sQ (.inl i) (.int i t)=true:=by simp[sQ,Value.isInt]
def Aw (x:Str)(t:Tok):sQ (.inr x) (.str x t)=true:=by simp[sQ,Value.isStrOf]
def IG (a b:Int):decide ((Sum.inl a:Key)=Sum.inl b)=(a == b):=by
 by_cases e:a=b
 ·subst e;simp
 ·have h:¬(Sum.inl a:Key)=Sum.inl b:=λq=>e (Sum.inl.inj q)
  rw[NR h]
  exact (beq_eq_false_iff_ne.mpr e).symm
def Iw (a b:Str):decide ((Sum.inr a:Key)=Sum.inr b)=decide (a=b):=by
 by_cases e:a=b
 ·subst e;simp
 ·have h:¬(Sum.inr a:Key)=Sum.inr b:=λq=>e (Sum.inr.inj q)
  rw[NR h,NR e]
def IS (a:Int)(b:Str):decide ((Sum.inl a:Key)=Sum.inr b)=false:=NR (λq=>nomatch q)
def HH (a:Str)(b:Int):decide ((Sum.inr a:Key)=Sum.inl b)=false:=NR (λq=>nomatch q)
def eM (prog:Program)(w:World):PySem.KeyKind prog w Key where
 is:=sQ
 hash:=LU w
 inj:=λv a b ha hb=>by
  rcases b8 ha with⟨i,t,rfl,rfl⟩ | ⟨x,t,rfl,rfl⟩
  ·rcases b8 hb with⟨j,u,rfl,e⟩ | ⟨y,u,rfl,e⟩
   ·injection e with e1 _;rw[e1]
   ·exact nomatch e
  ·rcases b8 hb with⟨j,u,rfl,e⟩ | ⟨y,u,rfl,e⟩
   ·exact nomatch e
   ·injection e with e1 _;rw[e1]
 byValue:=λk v h=>by
  rcases b8 h with⟨i,t,rfl,rfl⟩ | ⟨x,t,rfl,rfl⟩ <;> rfl
 pyHash:=λhv h=>by
  rcases b8 hv with⟨i,t,rfl,rfl⟩ | ⟨x,t,rfl,rfl⟩
  ·exact wpAny_pyHash_int h
  ·exact wpAny_pyHash_str h
 eqBool:=λhu hv h=>by
  rcases b8 hu with⟨i,t,rfl,rfl⟩ | ⟨x,t,rfl,rfl⟩
  ·rcases b8 hv with⟨j,u,rfl,rfl⟩ | ⟨y,u,rfl,rfl⟩
   ·rw[IG] at h;exact wpAny_eqBool_int h
   ·rw[IS] at h;exact SeqAt.EqAt.int_str i t y u _ _ _ _ h
  ·rcases b8 hv with⟨j,u,rfl,rfl⟩ | ⟨y,u,rfl,rfl⟩
   ·rw[HH] at h;exact SeqAt.EqAt.str_int x t j u _ _ _ _ h
   ·rw[Iw] at h;exact wpAny_eqBool_str h
 «strs»:=λk x t v h=>by
  rcases b8 h with⟨i,u,rfl,e⟩ | ⟨y,u,rfl,e⟩
  ·exact nomatch e
  ·injection e with e1 _
   subst e1
   cases v <;> rfl
def vL (prog:Program)(w:World)(i:Int)(t:Tok):(eM prog w).is (.inl i) (.int i t)=true:=A9 i t
def wV (prog:Program)(w:World)(x:Str)(t:Tok):(eM prog w).is (.inr x) (.str x t)=true:=Aw x t
inductive V where
 |non |bl (b:Bool) |int (i:Int) |str (x:Str) |byt (b:Array UInt8) |flt (b:UInt64) |ref (a:Addr) |ty (n:String)
 deriving DecidableEq
def RelV:V->Value->Prop
 | .non,u=>u=Value.none
 | .bl b,u=>u=Value.bool b
 | .int i,u=>∃t,u=Value.int i t
 | .str x,u=>∃t,u=Value.str x t
 | .byt b,u=>∃t,u=Value.bytes b t
 | .flt b,u=>∃t,u=Value.float b t
 | .ref a,u=>u=Value.ref a
 | .ty n,u=>u=Value.type n
abbrev Vals:List V->List Value->Prop:=Paired RelV
def Vals.length {xs:List V}{us:List Value}(r:Vals xs us):xs.length=us.length:=Paired.length r
theorem Vals.get:∀{xs:List V} {us:List Value} {i:Nat} {x:V},Vals xs us->xs[i]? =some x->∃u,us[i]? =some u/\RelV x u
 |_,_,_,_,.nil,e=>by simp at e
 |_,_,0,_,.cons r _,e=>by simp at e;subst e;exact⟨_,rfl,r⟩
 |_,_,i + 1,x,.cons _ t,e=>by
  obtain⟨u,h1,h2⟩:=Vals.get (i:=i) (x:=x) t (by simpa using e)
  exact⟨u,by simpa using h1,h2⟩
theorem Vals.set {x:V}{u:Value}(r:RelV x u):∀{xs:List V} {us:List Value} (i:Nat),Vals xs us->Vals (xs.set i x) (us.set i u)
 |_,_,_,.nil=>.nil
 |_,_,0,.cons _ t=>.cons r t
 |_,_,i + 1,.cons q t=>.cons q (Vals.set r i t)
theorem Vals.append:∀{xs ys:List V} {us ws:List Value},Vals xs us->Vals ys ws->Vals (xs ++ ys) (us ++ ws)
 |_,_,_,_,.nil,s=>s
 |_,_,_,_,.cons r t,s=>.cons r (Vals.append t s)
theorem Vals.take:∀{xs:List V} {us:List Value} (n:Nat),Vals xs us->Vals (xs.take n) (us.take n)
 |_,_,0,_=>.nil
 |_,_,_ + 1,.nil=>.nil
 |_,_,n + 1,.cons r t=>.cons r (Vals.take n t)
theorem Vals.drop:∀{xs:List V} {us:List Value} (n:Nat),Vals xs us->Vals (xs.drop n) (us.drop n)
 |_,_,0,r=>r
 |_,_,_ + 1,.nil=>.nil
 |_,_,n + 1,.cons _ t=>Vals.drop n t
def IT:Option V->Option Value->Prop
 |some v,some u=>RelV v u
 |none,none=>True
 |_,_=>False
def KV {κ:Type}:List (κ×V)->List (κ×Value)->Prop:=Paired λ(p:κ×V) (q:κ×Value)=>p.1=q.1/\RelV p.2 q.2
def kV:Key->V
 | .inl i=>.int i
 | .inr x=>.str x
inductive HO where
 |lst (xs:List V)
 |tup (xs:List V)
 |dK (kvs:List (Key×V)) |dT (kvs:List (List Key×V))
 |set (S:Int->Bool) (n:Nat)
 |ins (C dx:Addr) (fs:List (Str×V))
 |own (x:Addr)
 |xd (fs:List (Str×V))
 |met (f x:Addr)
 |eB (lo hi:Int)
 |bt (o:Obj) (u:HO)
 |tbl (ps:Array Value)
 |ext (φ:Heap->Prop)
abbrev Hp:=Addr->Option HO
def upd (H:Hp)(a:Addr)(o:HO):Hp:=λb=>if b=a then some o else H b
def au {H:Hp}{a:Addr}{o:HO}:upd H a o a=some o:=by unfold upd;rw[NG rfl]
def aB {H:Hp}{a b:Addr}{o:HO}(h:b≠a):upd H a o b=H b:=by unfold upd;rw[NL h]
def Fq {H:Hp}{a:Addr}{o u:HO}:upd (upd H a o) a u=upd H a u:=by
 funext b;unfold upd;split <;> rfl
def Hh {H:Hp}{a b:Addr}{o u:HO}(h:H a=some o)(h':H b=some u)(d:o≠u):a≠b:=by
 intro e;subst e;rw[h] at h';exact d (Option.some.inj h')
def aL {H:Hp}{a b:Addr}{o:HO}(h:H a=some o)(h':H b=none):a≠b:=by
 intro e;subst e;rw[h] at h';cases h'
section
variable (P:Program)(w:World)
def qp (h:Heap)(a:Addr)(items:Array Value):Prop:=∃o,h.get? a=some o/\o.cls=.type "tuple"/\∃n,o.data=.seq items n/\o.dict=none
def qp.isTup {h:Heap}{a:Addr}{items:Array Value}(x:qp h a items):IsTup h a items:=let ⟨o,e,c,n,d,_⟩:=x;⟨o,e,c,n,d⟩
def qp.new (h:Heap)(items:Array Value):qp (h.push {cls:=.type "tuple",data:=.seq items}) h.objs.size items:=⟨_,NQ _ rfl,rfl,_,rfl,rfl⟩
def bN (H:Hp)(h:Heap)(a:Addr):HO->Prop
 | .lst xs=>xs.length<=sizeLine/\∃(its:List Value) (n:Nat),Vals xs its/\h.get? a=some {cls:=.type "list",data:=.seq its.toArray n}
 | .tup xs=>xs.length<=sizeLine/\∃its:List Value,Vals xs its/\qp h a its.toArray
 | .dK kvs=>kvs.length<=sizeLine/\(a == sysModules)=false/\∃vs,KV kvs vs/\h.DictOf (eM P w) a vs
 | .dT kvs=>kvs.length<=sizeLine/\(a == sysModules)=false/\∃xs:List (List Key×Addr×Value),
   Paired (λ(p:List Key×V) (q:List Key×Addr×Value)=>p.1=q.1/\H q.2.1=some (.tup (p.1.map kV))/\RelV p.2 q.2.2) kvs xs/\
   ∃o es ep,h.get? a=some o/\o.ExactDict/\o.data=.dict es ep/\es.toList=xs.map (entryOfKey (tupleKind (eM P w)))/\(xs.map (·.1)).Nodup
 | .set S n=>h.SetOf (intKind P w) a S n
 | .ins C dx fs=>H dx=some (.own a)/\fs.length<=1000/\dx≠a/\h.get? a=some (PySem.W.instObj C dx)/\
   ∃mA,h.Ns1 dx mA/\(∀f,IT (fs.lookup f) (mA f))/\PySem.Within mA (fs.map (·.1))
 | .own _=>∃o,h.get? a=some o
 | .xd fs=>∃mA,h.Ns1 a mA/\∀f,IT (fs.lookup f) (mA f)
 | .eB lo hi=>∃t u v,h.get? a=some {cls:=.type "range",data:=.fields #[.int lo t,.int hi u,.int 1 v]}
 | .bt o u=>h.get? a=some o/\bN H h a u
 | .tbl ps=>h.get? a=some {cls:=.none,data:=.fields ps}
 | .met f x=>h.get? a=some (PySem.W.methodObj (.ref f) (.ref x))
 | .ext φ=>φ h/\(∃o,h.get? a=some o)/\∀h1 h2:Heap,φ h1->(∀o,h1.get? a=some o->h2.get? a=some o)->φ h2
def kc (H:Hp)(h:Heap):Prop:=∀a o,H a=some o->bN P w H h a o
end
section
variable {P:Program}{w:World}{H H':Hp}{h h':Heap}{a:Addr}{o:HO}
theorem bN.lt (x:bN P w H h a o):a < h.objs.size:=by
 cases o with
 |lst xs=>obtain⟨_,_,_,_,e⟩:=x;exact NO e
 |tup xs=>obtain⟨_,_,_,p⟩:=x;exact p.isTup.lt
 |dK kvs=>obtain⟨_,_,_,_,o,_,_,e,_⟩:=x;exact NO e
 |dT kvs=>obtain⟨_,_,_,_,o,_,_,e,_⟩:=x;exact NO e
 |set S n=>obtain⟨o,_,_,_,e,_⟩:=x;exact NO e
 |ins C dx fs=>obtain⟨_,_,_,e,_⟩:=x;exact NO e
 |own y=>obtain⟨_,e⟩:=x;exact NO e
 |xd fs=>obtain⟨_,⟨_,_,_,e,_⟩,_⟩:=x;exact NO e
 |eB lo hi=>obtain⟨_,_,_,e⟩:=x;exact NO e
 |bt ob u=>obtain⟨e,_⟩:=x;exact NO e
 |tbl ps=>exact NO (show h.get? a=some _ from x)
 |met f y=>exact NO (show h.get? a=some _ from x)
 |ext φ=>obtain⟨_,⟨_,e⟩,_⟩:=x;exact NO e
theorem Paired.mapP {α β:Type}{F G:α->β->Prop}:∀{l₁:List α} {l₂:List β},Paired F l₁ l₂->(∀a b,F a b->G a b)->Paired G l₁ l₂
 |_,_,.nil,_=>.nil
 |_,_,.cons r t,f=>.cons (f _ _ r) (Paired.mapP t f)
theorem bN.stay (x:bN P w H h a o)(k:∀b u,(b=a\/H b=some (.own a))->h.get? b=some u->h'.get? b=some u)
  (ho:∀b,H b=some (.own a)->H' b=some (.own a)) (ht:∀b xs,H b=some (.tup xs)->H' b=some (.tup xs)):bN P w H' h' a o:=by
 induction o with
 |lst xs=>obtain⟨z,its,n,r,e⟩:=x;exact⟨z,its,n,r,k _ _ (.inl rfl) e⟩
 |tup xs=>obtain⟨z,its,r,ob,e,c⟩:=x;exact⟨z,its,r,ob,k _ _ (.inl rfl) e,c⟩
 |dK kvs=>obtain⟨z,y,vs,r,ob,es,ep,e,c⟩:=x;exact⟨z,y,vs,r,ob,es,ep,k _ _ (.inl rfl) e,c⟩
 |dT kvs=>
  obtain⟨z,y,xs,r,ob,es,ep,e,c⟩:=x
  exact⟨z,y,xs,Paired.mapP r λp q z=>⟨z.1,ht _ _ z.2.1,z.2.2⟩,ob,es,ep,k _ _ (.inl rfl) e,c⟩
 |set S n=>obtain⟨ob,es,ep,t,e,c⟩:=x;exact⟨ob,es,ep,t,k _ _ (.inl rfl) e,c⟩
 |ins C dx fs=>
  obtain⟨d,z,ne,e,mA,⟨od,es,ep,e2,c⟩,r⟩:=x
  exact⟨ho _ d,z,ne,k _ _ (.inl rfl) e,mA,⟨od,es,ep,k _ _ (.inr d) e2,c⟩,r⟩
 |own y=>obtain⟨ob,e⟩:=x;exact⟨ob,k _ _ (.inl rfl) e⟩
 |xd fs=>obtain⟨mA,⟨od,es,ep,e,c⟩,r⟩:=x;exact⟨mA,⟨od,es,ep,k _ _ (.inl rfl) e,c⟩,r⟩
 |eB lo hi=>obtain⟨t,u,v,e⟩:=x;exact⟨t,u,v,k _ _ (.inl rfl) e⟩
 |bt ob u ih=>obtain⟨e,q⟩:=x;exact⟨k _ _ (.inl rfl) e,ih q⟩
 |tbl ps=>
  have e:h.get? a=some {cls:=.none,data:=.fields ps}:=x
  show h'.get? a=some {cls:=.none,data:=.fields ps}
  exact k a _ (.inl rfl) e
 |met f y=>
  have e:h.get? a=some (PySem.W.methodObj (.ref f) (.ref y)):=x
  show h'.get? a=some (PySem.W.methodObj (.ref f) (.ref y))
  exact k a _ (.inl rfl) e
 |ext φ=>obtain⟨p,⟨o,e⟩,st⟩:=x;exact⟨st _ _ p λo q=>k _ _ (.inl rfl) q,⟨o,k _ _ (.inl rfl) e⟩,st⟩
def kc.lt (x:kc P w H h)(e:H a=some o):a < h.objs.size:=(x a o e).lt
theorem kc.fresh (x:kc P w H h)(e:h.objs.size<=a):H a=none:=by
 cases q:H a with
 |none=>rfl
 |some u=>exact absurd (N5 (x.lt q) e) (Om _)
def kc.kept (x:kc P w H h)(k:∀b u,h.get? b=some u->h'.get? b=some u):kc P w H h':=λa o e=>
 (x a o e).stay (λb u _ q=>k b u q) (λ_ q=>q) λ_ _ q=>q
def kc.laid (x:kc P w H h)(k:∀b u,h.get? b=some u->h'.get? b=some u)(hp:h.objs.size<=a)(new:bN P w (upd H a o) h' a o):kc P w (upd H a o) h':=λb u e=>by
 have hn:=x.fresh hp
 by_cases hb:b=a
 ·subst hb;rw[au] at e;cases e;exact new
 ·rw[aB hb] at e
  exact (x b u e).stay (λc v _ q=>k c v q) (λc q=>by rw[aB (aL q hn)];exact q) λc xs q=>by rw[aB (aL q hn)];exact q
end
def Rd (H:Hp)(a:Addr)(u:HO):Prop:=H a=some u\/∃o,H a=some (.bt o u)
def Rd.ok {P:Program}{w:World}{H:Hp}{h:Heap}{a:Addr}{u:HO}(r:Rd H a u)(x:kc P w H h):bN P w H h a u:=by
 rcases r with r | ⟨o,r⟩
 ·exact x a u r
 ·obtain⟨_,q⟩:=x a _ r
  exact q
def J9:Option HO->Prop
 |some (.lst _)=>True
 |some (.dK _)=>True
 |some (.dT _)=>True
 |some (.set _ _)=>True
 |some (.ins _ _ _)=>True
 |some (.ext _)=>True
 |_=>False
section
variable {P:Program}{w:World}{H:Hp}{h h':Heap}{x e:Addr}{o':HO}
def kc.write (ok:kc P w H h)(mu:J9 (H x))(he:e=x\/H e=some (.own x))(k:∀b u,b≠e->h.get? b=some u->h'.get? b=some u)(heo:∃u,h'.get? e=some u)
  (new:bN P w (upd H x o') h' x o'):kc P w (upd H x o') h':=λb u q=>by
 have nown:∀c y,H c=some (.own y)->c≠x:=λc y r z=>by subst z;rw[r] at mu;exact mu
 have ntup:∀c xs,H c=some (.tup xs)->c≠x:=λc xs r z=>by subst z;rw[r] at mu;exact mu
 by_cases hb:b=x
 ·subst hb;rw[au] at q;cases q;exact new
 ·rw[aB hb] at q
  by_cases hbe:b=e
  ·have q':H b=some (.own x):=by
    rcases he with z |z
    ·exact absurd (hbe.trans z) hb
    ·rw[hbe];exact z
   rw[q] at q';cases q'
   obtain⟨v,hv⟩:=heo
   exact⟨v,by rw[hbe];exact hv⟩
  ·refine (ok b u q).stay (λc v hc r=>k c v ?_ r) (λc r=>by rw[aB (nown c b r)];exact r) λc xs r=>by rw[aB (ntup c xs r)];exact r
   rcases hc with rfl |hc
   ·exact hbe
   ·rintro rfl
    rcases he with z |z
    ·exact nown c b hc z
    ·rw[hc] at z;cases z;exact hb rfl
end
structure Un (fs ex:List Addr)(H H':Hp)(h h':Heap):Prop where
 keep:∀b o,h.get? b=some o->H b=none->b∉fs->b∉ex->h'.get? b=some o
 slot:∀b o,h.get? b=some o->H b=none->b∈fs->b∉ex->∃sl,h'.get? b=some {o with slots:=sl}
 free:∀b o,h.get? b=some o->H b=none->b∉ex->H' b=none
 there:∀b o,h.get? b=some o->b∉ex->∃o',h'.get? b=some o'
 tups:∀b xs,H b=some (.tup xs)->H' b=some (.tup xs)
 frzs:∀b o u,H b=some (.bt o u)->H' b=some (.bt o u)
 tbls:∀b ps,H b=some (.tbl ps)->∃more,H' b=some (.tbl (ps ++ more))
section
variable {fs fs' ex ex':List Addr}{H H1 H2:Hp}{h h1 h2 h':Heap}{a x e:Addr}{o:HO}
def Un.any (u:Un fs ex H H1 h h1){b:Addr}{ob:Obj}(q:h.get? b=some ob)(n:H b=none)(hx:b∉ex):∃sl,h1.get? b=some {ob with slots:=sl}:=by
 by_cases hb:b∈fs
 ·exact u.slot b ob q n hb hx
 ·exact⟨ob.slots,u.keep b ob q n hb hx⟩
def Un.kept (k:∀b u,h.get? b=some u->h'.get? b=some u):Un fs ex H H h h':=
 ⟨λb ob q _ _ _=>k b ob q,λb ob q _ _ _=>⟨ob.slots,k b ob q⟩,λ_ _ _ n _=>n,λb ob q _=>⟨ob,k b ob q⟩,λ_ _ q=>q,λ_ _ _ q=>q,λ_ ps q=>⟨#[],by rw[q];simp⟩⟩
def Un.refl:Un fs ex H H h h:=Un.kept λ_ _ q=>q
def Un.laid (k:∀b u,h.get? b=some u->h'.get? b=some u)(hp:h.objs.size<=a)(hn:H a=none):Un fs ex H (upd H a o) h h' where
 keep:=λb u q _ _ _=>k b u q
 slot:=λb u q _ _ _=>⟨u.slots,k b u q⟩
 free:=λb u q n _=>by rw[aB (Of (N5 (NO q) hp))];exact n
 there:=λb u q _=>⟨u,k b u q⟩
 tups:=λb xs q=>by rw[aB (aL q hn)];exact q
 frzs:=λb u xs q=>by rw[aB (aL q hn)];exact q
 tbls:=λb ps q=>⟨#[],by rw[aB (aL q hn),q];simp⟩
def Un.write (mu:J9 (H x))(he:e=x\/H e=some (.own x))(k:∀b u,b≠e->h.get? b=some u->h'.get? b=some u)(heo:∃u,h'.get? e=some u):Un fs ex H (upd H x o) h h':=by
 have hx:∀b,H b=none->b≠x:=λb n z=>by subst z;rw[n] at mu;exact mu
 have hb:∀b,H b=none->b≠e:=λb n z=>by
  subst z
  rcases he with r |r
  ·exact hx b n r
  ·rw[n] at r;cases r
 have hm:∀b u,H b=some u->¬J9 (some u)->b≠x:=λb u q nm z=>by subst z;rw[q] at mu;exact nm mu
 refine⟨λb u q n _ _=>k b u (hb b n) q,λb u q n _ _=>⟨u.slots,k b u (hb b n) q⟩,λb u q n _=>by rw[aB (hx b n)];exact n,λb u q _=>?_,
  λb xs q=>by rw[aB (hm b _ q λz=>z)];exact q,λb u xs q=>by rw[aB (hm b _ q λz=>z)];exact q,λb ps q=>⟨#[],by rw[aB (hm b _ q λz=>z),q];simp⟩⟩
 by_cases hbe:b=e
 ·subst hbe;exact heo
 ·exact⟨u,k b u hbe q⟩
end
def LD (h:Heap)(H:Hp):List Addr:=(List.range h.objs.size).filter λa=>(H a).isSome
def tu (h:Heap)(H:Hp):Heap:=PySem.W.hideAll h (LD h H)
def As (h:Heap)(H:Hp):(tu h H).objs.size=h.objs.size:=PySem.W.hideAll_size _ _
def DH {h:Heap}{H:Hp}{b:Addr}{o:Obj}(e:h.get? b=some o)(n:H b=none):(tu h H).get? b=some o:=
 PySem.W.hideAll_get _ e λhm=>by
  have q:(H b).isSome=true:=(Oc.mp hm).2
  rw[n] at q;simp at q
theorem E1 {h:Heap}{H:Hp}{b:Addr}{o:Obj}(e:(tu h H).get? b=some o):h.get? b=some o/\H b=none:=by
 have e':h.get? b=some o:=PySem.W.of_hideAll (LD h H) e
 refine⟨e',?_⟩
 cases q:H b with
 |none=>rfl
 |some x=>
  have hm:b∈LD h H:=Oc.mpr ⟨N6.mpr (NO e'),by simp[q]⟩
  have z:(tu h H).get? b=none:=PySem.W.hideAll_none (LD h H) hm
  rw[z] at e;cases e
def FZ (g h:Heap)(L:Addr):List (Addr×Obj):=(List.range h.objs.size).filterMap λa=>if a=L\/(g.get? a).isSome=true then none else (h.get? a).map λo=>(a,o)
def rest (g h:Heap)(L d:Addr):List (Addr×Obj):=(FZ g h L).filter λp=>decide (p.1≠d)
structure Mod (K:Frag)(mg:Str->Option Value)(base:Heap):Prop where
 kin:K.In base
 glob:base.Ns mainGlobals mg
 blt:∃mb,base.Ns builtinsNs mb/\∀x:Str,x≠"__name__"->mb x=bootBuiltins x
 nolimit:base.NoLimit
 sys:∃mm,base.Ns sysModules mm
structure Cx where
 prog:Program
 w:World
 K:Frag
 mg:Str->Option Value
 base:Heap
 A:Around
 N:List Str
 s₀:Shared
 H₀:Hp
 env:Env
 outer:List Env
 stack:List Env
 ex:List Addr
 fn:Str->Bool
 calm:Bool
 pn:List (Addr×Obj)
 xe:Value->Shared->Prop
def eO (l:List Env):List Addr:=l.filterMap (·.frame)
abbrev Cx.fs (X:Cx):List Addr:=eO X.outer
def xm (sc:Scope)(x:Str):Prop:=sc.names.lookup x=some .local\/sc.names.lookup x=some .cell\/sc.names.lookup x=some .free
def Loc (sc:Scope)(x:Str):Prop:=sc.names.lookup x=some .local\/sc.names.lookup x=some .cell
def Look (env:Env)(h:Heap)(m:Str->Option Value)(x:Str)(u:Value):Prop:=
 (env.kindOf x=some .local/\m x=some u)\/((env.kindOf x=some .cell\/env.kindOf x=some .free)/\∃c,env.cells.lookup x=some c/\h.IsCell c (some u))
structure Cx.Ok (X:Cx):Prop where
 mod:Mod X.K X.mg X.base
 kind:X.env.scope.kind=.function
 glob:X.env.globals=mainGlobals
 blt:X.env.builtins=builtinsNs
 above:X.s₀.heap.objs.size<=X.env.locals
 inj:∀x y c,X.env.cells.lookup x=some c->X.env.cells.lookup y=some c->x=y
 has:∀x,(X.env.kindOf x=some .cell\/X.env.kindOf x=some .free)->∃c,X.env.cells.lookup x=some c
 cab:∀x c,X.fn x=true->X.env.cells.lookup x=some c->X.s₀.heap.objs.size<=c
 hd:X.calm=true->X.A.handled=none
 frames:X.A.frames=some X.stack
 stk:X.stack=X.outer\/(X.stack=X.env :: X.outer/\X.env.frame=some X.env.locals)
 exf:∀b∈X.ex,b≠X.env.locals/\∀x c,X.env.cells.lookup x=some c->c≠b
 bs:∀b o,X.base.get? b=some o->X.s₀.heap.get? b=some o/\X.H₀ b=none
 bsz:X.base.objs.size<=X.s₀.heap.objs.size
 noex:∀b o,X.base.get? b=some o->b∉X.ex
 exfs:∀b∈X.ex,b∉X.fs
 funs:X.s₀.heap.FunFrames X.base X.outer
 frf:∀b∈X.fs,X.H₀ b=none
structure Inv (X:Cx)(pins:List (Addr×Obj))(σ:List (Option V))(H:Hp)(s:Shared):Prop where
 ok:X.Ok
 os:s.os=X.s₀.os
 bare:AllBare s.gens
 base:Un X.fs X.ex X.H₀ H X.s₀.heap s.heap
 loc:∃m,s.heap.Ns X.env.locals m/\∀(i:Nat) (x:Str) (v:V),X.N[i]? =some x->σ[i]? =some (some v)->xm X.env.scope x->∃u,RelV v u/\Look X.env s.heap m x u
 cell:∀x c,X.env.cells.lookup x=some c->∃v,s.heap.IsCell c v
 free:H X.env.locals=none
 freeC:∀x c,X.env.cells.lookup x=some c->H c=none
 pin:∀p∈X.pn ++ pins,s.heap.get? p.1=some p.2/\H p.1=none/\p.1≠X.env.locals/\p.1∉X.fs/\∀v,p.2.data≠.cell v
 hok:kc X.prog X.w H s.heap
 len:σ.length=X.N.length
section
variable {X:Cx}{pins:List (Addr×Obj)}{σ:List (Option V)}{H H':Hp}{s:Shared}{h':Heap}
def Cx.Ok.nofr (ok:X.Ok){b:Addr}{o:Obj}(e:X.base.get? b=some o):b∉X.fs:=λhb=>by
 have:=(ok.funs.mem hb).1
 rw[e] at this;cases this
def Inv.bs (I:Inv X pins σ H s):∀b o,X.base.get? b=some o->s.heap.get? b=some o/\H b=none:=λb o e=>
 ⟨I.base.keep b o (I.ok.bs b o e).1 (I.ok.bs b o e).2 (I.ok.nofr e) (I.ok.noex b o e),I.base.free b o (I.ok.bs b o e).1 (I.ok.bs b o e).2 (I.ok.noex b o e)⟩
def Inv.bk (I:Inv X pins σ H s):∀b o,X.base.get? b=some o->s.heap.get? b=some o:=λb o e=>(I.bs b o e).1
def Inv.mod (I:Inv X pins σ H s):Mod X.K X.mg X.base:=I.ok.mod
def Inv.kIn (I:Inv X pins σ H s):X.K.In s.heap:=I.ok.mod.kin.keeps I.bk
def Inv.lt (I:Inv X pins σ H s):X.env.locals < s.heap.objs.size:=let ⟨_,hn,_⟩:=I.loc;hn.lt
def Inv.sz (I:Inv X pins σ H s):X.s₀.heap.objs.size<=s.heap.objs.size:=OT I.ok.above (Nat.le_of_lt I.lt)
def Inv.nofs (I:Inv X pins σ H s){a:Addr}(h:s.heap.objs.size<=a):a∉X.fs:=λhb=>by
 obtain⟨_,o,ho,_⟩:=I.ok.funs.mem hb
 exact absurd (N5 (NO ho) (OT I.sz h)) (Om _)
def Inv.cne (I:Inv X pins σ H s):∀x c,X.env.cells.lookup x=some c->c≠X.env.locals:=λx c e z=>by
 obtain⟨v,o,ho,hd⟩:=I.cell x c e
 obtain⟨m,⟨o',es,ep,ho',hd',_⟩,_⟩:=I.loc
 rw[z,ho'] at ho;cases ho;rw[hd'] at hd;cases hd
def Inv.funs (I:Inv X pins σ H s):s.heap.FunFrames X.base X.outer:=by
 have all:∀(l:List Env),(∀b∈eO l,b∈X.fs)->X.s₀.heap.FunFrames X.base l->s.heap.FunFrames X.base l:=by
  intro l
  induction l with
  |nil=>intro _ _;trivial
  |cons env r ih=>
   intro hs hl
   obtain⟨hk,⟨L,o,hf,hn,ho,hd⟩,hr⟩:=hl
   have hL:L∈X.fs:=hs L (by unfold eO;rw[Ql,hf];exact NN)
   obtain⟨sl,e⟩:=I.base.slot L o ho (I.ok.frf L hL) hL λz=>I.ok.exfs L z hL
   exact⟨hk,⟨L,_,hf,hn,e,hd⟩,ih (λb hb=>hs b (by unfold eO;rw[Ql,hf];exact NJ _ hb)) hr⟩
 exact all X.outer (λ_ hb=>hb) I.ok.funs
def Inv.stack (I:Inv X pins σ H s):s.heap.FunFrames X.base X.stack:=by
 rcases I.ok.stk with e | ⟨e,hf⟩
 ·rw[e];exact I.funs
 ·rw[e]
  obtain⟨m,hn,_⟩:=I.loc
  refine .cons (by rw[I.ok.kind];decide) hf hn ?_ I.funs
  exact Heap.get?_none_of_le (OT I.ok.bsz I.ok.above)
def Inv.stkSub (I:Inv X pins σ H s):∀b∈eO X.stack,b∈X.env.locals :: X.fs:=λb hb=>by
 rcases I.ok.stk with e | ⟨e,hf⟩
 ·rw[e] at hb;exact NJ _ hb
 ·rw[e] at hb
  unfold eO at hb
  rw[Ql,hf] at hb
  exact hb
def Inv.stkFree (I:Inv X pins σ H s):∀b∈eO X.stack,H b=none:=λb hb=>by
 rcases NI.mp (I.stkSub b hb) with e |hb
 ·rw[e];exact I.free
 ·obtain⟨_,o,ho,_⟩:=I.ok.funs.mem hb
  exact I.base.free b o ho (I.ok.frf b hb) λz=>I.ok.exfs b z hb
def Inv.step {g':Array GenState}{t':Nat}{d':Drawn}{ch:List Addr}(I:Inv X pins σ H s)
  (hch:∀b∈ch,(b∈X.ex\/X.s₀.heap.objs.size<=b)/\b≠X.env.locals/\(∀x c,X.env.cells.lookup x=some c->c≠b)/\∀p∈X.pn ++ pins,p.1≠b)
  (keep:∀b o,b≠X.env.locals->b∉X.fs->b∉ch->s.heap.get? b=some o->H b=none->h'.get? b=some o)
  (slot:∀b o,b≠X.env.locals->b∈X.fs->b∉ch->s.heap.get? b=some o->H b=none->∃sl,h'.get? b=some {o with slots:=sl}) (free:∀b o,b∉ch->s.heap.get? b=some o->H b=none->H' b=none)
  (there:∀b o,b∉ch->s.heap.get? b=some o->∃o',h'.get? b=some o')
  (tups:∀b xs,H b=some (.tup xs)->H' b=some (.tup xs)) (frzs:∀b o u,H b=some (.bt o u)->H' b=some (.bt o u)) (tbls:∀b ps,H b=some (.tbl ps)->∃more,H' b=some (.tbl (ps ++ more)))
  (ns:∀m,s.heap.Ns X.env.locals m->h'.Ns X.env.locals m) (hok:kc X.prog X.w H' h') (hg:AllBare g') :
  Inv X pins σ H' {s with heap:=h',gens:=g',drawn:=d',toks:=t'}:=by
 have neL:∀b o,X.s₀.heap.get? b=some o->b≠X.env.locals:=λb o e=>Of (N5 (NO e) I.ok.above)
 have neC:∀b o,X.s₀.heap.get? b=some o->b∉X.ex->b∉ch:=λb o e hx hb=>by
  rcases (hch b hb).1 with z |z
  ·exact hx z
  ·exact absurd (N5 (NO e) z) (Om _)
 have cellK:∀x c,X.env.cells.lookup x=some c->∀v,s.heap.IsCell c v->h'.IsCell c v:=λx c e v ⟨o,ho,hd⟩=>by
  have nch:c∉ch:=λz=>(hch c z).2.2.1 x c e rfl
  by_cases hc:c∈X.fs
  ·obtain⟨sl,q⟩:=slot c o (I.cne x c e) hc nch ho (I.freeC x c e)
   exact⟨_,q,hd⟩
  ·exact⟨o,keep c o (I.cne x c e) hc nch ho (I.freeC x c e),hd⟩
 refine⟨I.ok,I.os,hg,⟨λb o e n hb hx=>?_,λb o e n hb hx=>?_,λb o e n hx=>?_,λb o e hx=>?_,λb xs e=>tups b xs (I.base.tups b xs e),λb o xs e=>frzs b o xs (I.base.frzs b o xs e),λb ps e=>?_⟩,?_,λx c e=>?_,?_,λx c e=>?_,λp hp=>?_,hok,I.len⟩
 ·exact keep b o (neL b o e) hb (neC b o e hx) (I.base.keep b o e n hb hx) (I.base.free b o e n hx)
 ·obtain⟨sl,e1⟩:=I.base.slot b o e n hb hx
  obtain⟨sl',e2⟩:=slot b _ (neL b o e) hb (neC b o e hx) e1 (I.base.free b o e n hx)
  exact⟨sl',e2⟩
 ·obtain⟨o',e1⟩:=I.base.there b o e hx
  exact free b o' (neC b o e hx) e1 (I.base.free b o e n hx)
 ·obtain⟨o',e1⟩:=I.base.there b o e hx
  exact there b o' (neC b o e hx) e1
 ·obtain⟨m1,e1⟩:=I.base.tbls b ps e
  obtain⟨m2,e2⟩:=tbls b _ e1
  exact⟨m1 ++ m2,by rw[e2,Array.append_assoc]⟩
 ·obtain⟨m,hn,hl⟩:=I.loc
  refine⟨m,ns m hn,λi x v e1 e2 e3=>?_⟩
  obtain⟨u,r,l⟩:=hl i x v e1 e2 e3
  refine⟨u,r,?_⟩
  rcases l with l | ⟨k,c,e,z⟩
  ·exact .inl l
  ·exact .inr ⟨k,c,e,cellK x c e _ z⟩
 ·obtain⟨v,z⟩:=I.cell x c e
  exact⟨v,cellK x c e v z⟩
 ·obtain⟨m,⟨o,_,_,ho,_⟩,_⟩:=I.loc
  exact free _ o (λz=>(hch _ z).2.1 rfl) ho I.free
 ·obtain⟨v,o,ho,hd⟩:=I.cell x c e
  exact free c o (λz=>(hch c z).2.2.1 x c e rfl) ho (I.freeC x c e)
 ·obtain⟨e,n,ne,nf,d⟩:=I.pin p hp
  have nch:p.1∉ch:=λz=>(hch p.1 z).2.2.2 p hp rfl
  exact⟨keep p.1 p.2 ne nf nch e n,free p.1 p.2 nch e n,ne,nf,d⟩
def Inv.un {t':Nat}(I:Inv X pins σ H s)(u:Un X.fs [] H H' s.heap h')(hok:kc X.prog X.w H' h'):Inv X pins σ H' {s with heap:=h',toks:=t'}:=by
 obtain⟨m,⟨o,es,ep,ho,r⟩,_⟩:=id I.loc
 obtain⟨sl,hL⟩:=u.any ho I.free (by simp)
 exact I.step (g':=s.gens) (d':=s.drawn) (ch:=[]) (λ_ z=>nomatch z) (λb o _ hb _ e n=>u.keep b o e n hb (by simp)) (λb o _ hb _ e n=>u.slot b o e n hb (by simp)) (λb o _ e n=>u.free b o e n (by simp)) (λb o _ e=>u.there b o e (by simp)) u.tups u.frzs u.tbls (λm' hm=>by
  obtain⟨o',es',ep',ho',r'⟩:=hm
  rw[ho] at ho';cases ho'
  exact⟨_,es',ep',hL,r'⟩) hok I.bare
def Inv.call {g':Array GenState}{t':Nat}{d':Drawn}{ch:List Addr}(I:Inv X pins σ H s)(u:Un (eO X.stack) ch H H' s.heap h')(hok:kc X.prog X.w H' h')(hg:AllBare g')
  (hch:∀b∈ch,(b∈X.ex\/X.s₀.heap.objs.size<=b)/\b≠X.env.locals/\(∀x c,X.env.cells.lookup x=some c->c≠b)/\∀p∈X.pn ++ pins,p.1≠b) :
  Inv X pins σ H' {s with heap:=h',gens:=g',drawn:=d',toks:=t'}:=by
 obtain⟨m,⟨o,es,ep,ho,r⟩,_⟩:=id I.loc
 obtain⟨sl,hL⟩:=u.any ho I.free λz=>(hch _ z).2.1 rfl
 exact I.step (ch:=ch) hch (λb o hL hb hc e n=>u.keep b o e n (λz=>(NI.mp (I.stkSub b z)).elim hL hb) hc) (λb o _ _ hc e n=>u.any e n hc) (λb o hc e n=>u.free b o e n hc) (λb o hc e=>u.there b o e hc) u.tups u.frzs u.tbls (λm' hm=>by
  obtain⟨o',es',ep',ho',r'⟩:=hm
  rw[ho] at ho';cases ho'
  exact⟨_,es',ep',hL,r'⟩) hok hg
def Inv.turned {t':Nat}{it:Addr}(I:Inv X pins σ H s)(k:∀b o,b≠it->s.heap.get? b=some o->h'.get? b=some o)(hn:H it=none)(hL:it≠X.env.locals)
  (h1:it∈X.ex\/X.s₀.heap.objs.size<=it) (h2:∀x c,X.env.cells.lookup x=some c->c≠it) (h3:∀p∈X.pn ++ pins,p.1≠it):Inv X pins σ H {s with heap:=h',toks:=t'}:=by
 have nit:∀b u,H b=some u->b≠it:=λb u e z=>by rw[z,hn] at e;cases e
 refine I.step (g':=s.gens) (d':=s.drawn) (ch:=[it]) (λb hb=>?_) (λb o _ _ hc e _=>k b o (λz=>hc (by simp[z])) e) (λb o _ _ hc e _=>⟨o.slots,k b o (λz=>hc (by simp[z])) e⟩) (λ_ _ _ _ n=>n)
  (λb o hc e=>⟨o,k b o (λz=>hc (by simp[z])) e⟩) (λ_ _ e=>e) (λ_ _ _ e=>e) (λb ps e=>⟨#[],by rw[e];simp⟩) (λm hm=>?_) (λb u e=>?_) I.bare
 ·have e:b=it:=by simpa using hb
  subst e
  exact⟨h1,hL,h2,h3⟩
 ·obtain⟨o,es,ep,ho,r⟩:=hm
  exact⟨o,es,ep,k _ o (Ne.symm hL) ho,r⟩
 ·refine (I.hok b u e).stay (λc v hc q=>k c v ?_ q) (λ_ q=>q) λ_ _ q=>q
  rcases hc with z |z
  ·rw[z];exact nit b u e
  ·exact nit c _ z
def Inv.tok (I:Inv X pins σ H s)(t:Nat):Inv X pins σ H {s with toks:=t}:=I.un (h':=s.heap) (t':=t) Un.refl I.hok
def Inv.kept {t':Nat}(I:Inv X pins σ H s)(k:∀b u,s.heap.get? b=some u->h'.get? b=some u):Inv X pins σ H {s with heap:=h',toks:=t'}:=I.un (Un.kept k) (I.hok.kept k)
def Inv.laid {a:Addr}{o:HO}{t':Nat}(I:Inv X pins σ H s)(k:∀b u,s.heap.get? b=some u->h'.get? b=some u)(hp:s.heap.objs.size<=a)(new:bN X.prog X.w (upd H a o) h' a o) :
  Inv X pins σ (upd H a o) {s with heap:=h',toks:=t'}:=I.un (Un.laid k hp (I.hok.fresh hp)) (I.hok.laid k hp new)
def Inv.write {x e:Addr}{o:HO}{t':Nat}(I:Inv X pins σ H s)(mu:J9 (H x))(he:e=x\/H e=some (.own x))(k:∀b u,b≠e->s.heap.get? b=some u->h'.get? b=some u)(heo:∃u,h'.get? e=some u)
  (new:bN X.prog X.w (upd H x o) h' x o):Inv X pins σ (upd H x o) {s with heap:=h',toks:=t'}:=I.un (Un.write mu he k heo) (I.hok.write mu he k heo new)
def Inv.pins_of {pins':List (Addr×Obj)}(I:Inv X pins σ H s)(h:∀p∈pins',s.heap.get? p.1=some p.2/\H p.1=none/\p.1≠X.env.locals/\p.1∉X.fs/\∀v,p.2.data≠.cell v):Inv X pins' σ H s:=
 ⟨I.ok,I.os,I.bare,I.base,I.loc,I.cell,I.free,I.freeC,λp hp=>(N7.mp hp).elim (λz=>I.pin p (OW _ z)) (h p),I.hok,I.len⟩
def pH {N:List Str}(hN:N.Nodup){i j:Nat}{x:Str}(a:N[i]? =some x)(b:N[j]? =some x):i=j:=by
 obtain⟨h1,e1⟩:=NV.mp a
 obtain⟨h2,e2⟩:=NV.mp b
 exact (List.getElem_inj hN).mp (e1.trans e2.symm)
def so {M:Model}{A:Around}{E:Value->Shared->Prop}{i:Nat}{x:Str}{v:V}{u:Value}{Q:Unit->Shared->Prop}(I:Inv X pins σ H s)(hN:X.N.Nodup)(hi:X.N[i]? =some x)(hx:Loc X.env.scope x)(r:RelV v u)
  (h:∀s',Inv X pins (σ.set i (some v)) H s'->(∃a,Heap.SameBut a s.heap s'.heap/\(a=X.env.locals\/X.env.cells.lookup x=some a))->Q () s') (hf:X.fn x=true\/X.env.scope.names.lookup x=some .local:=by first |exact .inl rfl |exact .inr rfl |assumption):wpAny M A (storeName X.env x u) Q E s:=by
 obtain⟨m,hn,hl⟩:=id I.loc
 have hcls:(X.env.scope.kind == .class || (X.env.scope.kind == .module && X.env.locals != X.env.globals))=false:=by rw[I.ok.kind];rfl
 have hiσ:i < σ.length:=by rw[I.len];exact (NV.mp hi).1
 have cne:=I.cne
 have tracked:∀{a:Addr} {h':Heap},(∃o,s.heap.get? a=some o/\H a=none)->Heap.SameBut a s.heap h'->kc X.prog X.w H h':=λ{a h'} ha hs b ob e=>by
  obtain⟨_,_,hfree⟩:=ha
  refine (I.hok b ob e).stay (λc w' hc q=>(hs.2 c ?_).trans q) (λ_ q=>q) λ_ _ q=>q
  rintro rfl
  rcases hc with rfl |hc
  ·rw[hfree] at e;cases e
  ·rw[hfree] at hc;cases hc
 rcases hx with hk |hk
 ·refine wpAny_storeName_local hk hn (λh' hn' hs=>?_) hcls
  obtain⟨oL,_,_,hoL,_⟩:=id hn
  refine h _ ⟨I.ok,I.os,I.bare,⟨λb o e n hb hx=>?_,λb o e n hb hx=>?_,I.base.free,λb o e hx=>?_,I.base.tups,I.base.frzs,I.base.tbls⟩,⟨_,hn',λj y v' e1 e2 e3=>?_⟩,λy c e=>?_,I.free,I.freeC,λp hp=>?_,tracked ⟨oL,hoL,I.free⟩ hs,by simpa using I.len⟩ ⟨_,hs,.inl rfl⟩
  ·exact (hs.2 b (Of (N5 (NO e) I.ok.above))).trans (I.base.keep b o e n hb hx)
  ·obtain⟨sl,e1⟩:=I.base.slot b o e n hb hx
   exact⟨sl,(hs.2 b (Of (N5 (NO e) I.ok.above))).trans e1⟩
  ·obtain⟨o',e1⟩:=I.base.there b o e hx
   exact⟨o',(hs.2 b (Of (N5 (NO e) I.ok.above))).trans e1⟩
  ·by_cases hj:j=i
   ·subst hj
    rw[hi] at e1;cases e1
    rw[NW hiσ] at e2
    cases e2
    exact⟨u,r,.inl ⟨hk,by simp⟩⟩
   ·rw[NX (Ne.symm hj)] at e2
    obtain⟨u',r',q⟩:=hl j y v' e1 e2 e3
    refine⟨u',r',?_⟩
    rcases q with⟨k,e⟩ | ⟨k,c,e,z⟩
    ·refine .inl ⟨k,?_⟩
     have:y≠x:=λe=>hj (pH hN e1 (e▸hi))
     simp[this,e]
    ·exact .inr ⟨k,c,e,z.sameBut hs (cne y c e)⟩
  ·obtain⟨w',z⟩:=I.cell y c e
   exact⟨w',z.sameBut hs (cne y c e)⟩
  ·obtain⟨e,n,ne,nf,d⟩:=I.pin p hp
   exact⟨(hs.2 p.1 ne).trans e,n,ne,nf,d⟩
 ·have hfn:X.fn x=true:=by
   rcases hf with z |z
   ·exact z
   ·rw[z] at hk;cases hk
  obtain⟨c,hc⟩:=I.ok.has x (.inl hk)
  obtain⟨w',z⟩:=I.cell x c hc
  refine wpAny_storeName_cell I.ok.kind hk hc z (λh' hc' hs=>?_)
  obtain⟨oc,hoc,hocd⟩:=id z
  refine h {s with heap:=h'} ⟨I.ok,I.os,I.bare,⟨λb o e n hb hx=>?_,λb o e n hb hx=>?_,I.base.free,λb o e hx=>?_,I.base.tups,I.base.frzs,I.base.tbls⟩,⟨m,hn.sameBut hs (Ne.symm (cne x c hc)),λj y v' e1 e2 e3=>?_⟩,λy c' e=>?_,I.free,I.freeC,λp hp=>?_,tracked ⟨oc,hoc,I.freeC x c hc⟩ hs,by simpa using I.len⟩ ⟨c,hs,.inr hc⟩
  ·exact (hs.2 b (Of (N5 (NO e) (I.ok.cab x c hfn hc)))).trans (I.base.keep b o e n hb hx)
  ·obtain⟨sl,e1⟩:=I.base.slot b o e n hb hx
   exact⟨sl,(hs.2 b (Of (N5 (NO e) (I.ok.cab x c hfn hc)))).trans e1⟩
  ·obtain⟨o',e1⟩:=I.base.there b o e hx
   exact⟨o',(hs.2 b (Of (N5 (NO e) (I.ok.cab x c hfn hc)))).trans e1⟩
  ·by_cases hj:j=i
   ·subst hj
    rw[hi] at e1;cases e1
    rw[NW hiσ] at e2
    cases e2
    exact⟨u,r,.inr ⟨.inl hk,c,hc,hc'⟩⟩
   ·rw[NX (Ne.symm hj)] at e2
    obtain⟨u',r',q⟩:=hl j y v' e1 e2 e3
    refine⟨u',r',?_⟩
    rcases q with q | ⟨k,c',e,z'⟩
    ·exact .inl q
    ·refine .inr ⟨k,c',e,z'.sameBut hs ?_⟩
     rintro rfl
     exact hj (pH hN e1 (I.ok.inj _ _ _ e hc▸hi))
  ·by_cases hcc:c'=c
   ·subst hcc;exact⟨_,hc'⟩
   ·obtain⟨w2,z2⟩:=I.cell y c' e
    exact⟨w2,z2.sameBut hs hcc⟩
  ·obtain⟨e,n,ne,nf,d⟩:=I.pin p hp
   refine⟨(hs.2 p.1 ?_).trans e,n,ne,nf,d⟩
   intro q
   rw[q,hoc] at e
   have q':oc=p.2:=Option.some.inj e
   exact d w' (by rw[<-q'];exact hocd)
def mw {M:Model}{A:Around}{E:Value->Shared->Prop}{i:Nat}{x:Str}{v:V}{u:Value}{Q:Unit->Shared->Prop}(I:Inv X pins σ H s)(hN:X.N.Nodup)(hi:X.N[i]? =some x)(hx:Loc X.env.scope x)(r:RelV v u)
  (h:∀s',Inv X pins (σ.set i (some v)) H s'->Q () s') (hf:X.fn x=true\/X.env.scope.names.lookup x=some .local:=by first |exact .inl rfl |exact .inr rfl |assumption):wpAny M A (storeName X.env x u) Q E s:=
 so I hN hi hx r (λs' I' _=>h s' I') hf
def Inv.call' {s':Shared}{ch:List Addr}(I:Inv X pins σ H s)(ho:s'.os=s.os)(u:Un (eO X.stack) ch H H' s.heap s'.heap)(hok:kc X.prog X.w H' s'.heap)(hg:AllBare s'.gens)
  (hch:∀b∈ch,(b∈X.ex\/X.s₀.heap.objs.size<=b)/\b≠X.env.locals/\(∀x c,X.env.cells.lookup x=some c->c≠b)/\∀p∈X.pn ++ pins,p.1≠b):Inv X pins σ H' s':=by
 obtain⟨h',g',d',t',o'⟩:=s'
 have e:o'=s.os:=ho
 subst e
 exact I.call (g':=g') (t':=t') (d':=d') u hok hg hch
end
abbrev XK:=Value->Option Addr->Hp->Prop
abbrev St:=List (Option V)
abbrev VK:=V->Hp->Prop
abbrev TE:=St->Hp->VK->Prop
abbrev TT:=St->Hp->(Bool->Hp->Prop)->Prop
abbrev TA:=St->Hp->(List V->Hp->Prop)->Prop
structure Ends where
 nx:St->Hp->Prop
 rt:VK
 bk:St->Hp->Prop:=λ_ _=>False
 ct:St->Hp->Prop:=λ_ _=>False
abbrev TS:=Ends->St->Hp->Prop
def EP (X:Cx)(pins:List (Addr×Obj))(σ:St)(Q:VK)(u:Value)(s':Shared):Prop:=∃v H',Inv X pins σ H' s'/\RelV v u/\Q v H'
def TP (X:Cx)(pins:List (Addr×Obj))(σ:St)(Q:Bool->Hp->Prop)(b:Bool)(s':Shared):Prop:=∃H',Inv X pins σ H' s'/\Q b H'
def AP (X:Cx)(pins:List (Addr×Obj))(σ:St)(Q:List V->Hp->Prop)(us:List Value)(s':Shared):Prop:=∃vs H',Inv X pins σ H' s'/\Vals vs us/\Q vs H'
def SP (X:Cx)(pins:List (Addr×Obj))(D:Ends)(f:Flow)(s':Shared):Prop:=
 match f with
 | .next=>∃σ' H',Inv X pins σ' H' s'/\D.nx σ' H'
 | .brk=>∃σ' H',Inv X pins σ' H' s'/\D.bk σ' H'
 | .cont=>∃σ' H',Inv X pins σ' H' s'/\D.ct σ' H'
 | .ret u=>∃v σ' H',Inv X pins σ' H' s'/\RelV v u/\D.rt v H'
def PE (X:Cx)(e:Expr)(t:TE):Prop:=
 ∀(pins:List (Addr×Obj)) (s:Shared) (σ:St) (H:Hp) (Q:VK),Inv X pins σ H s->t σ H Q->wpAny (model X.prog X.w) X.A (eval e X.env) (EP X pins σ Q) X.xe s
def PT (X:Cx)(e:Expr)(t:TT):Prop:=
 ∀(pins:List (Addr×Obj)) (s:Shared) (σ:St) (H:Hp) (Q:Bool->Hp->Prop),Inv X pins σ H s->t σ H Q->wpAny (model X.prog X.w) X.A (isTrue e X.env (eval e X.env)) (TP X pins σ Q) X.xe s
def PW (X:Cx)(e:Expr)(t:TT):Prop:=
 ∀(whole:Sem Value) (pins:List (Addr×Obj)) (s:Shared) (σ:St) (H:Hp) (Q:Bool->Hp->Prop),Inv X pins σ H s->t σ H Q->wpAny (model X.prog X.w) X.A (isTrue e X.env whole) (TP X pins σ Q) X.xe s
def PW.pt {X:Cx}{e:Expr}{t:TT}(h:PW X e t):PT X e t:=h _
def PA (X:Cx)(es:List Expr)(t:TA):Prop:=
 ∀(pos:Pos) (pins:List (Addr×Obj)) (s:Shared) (σ:St) (H:Hp) (Q:List V->Hp->Prop),Inv X pins σ H s->t σ H Q->wpAny (model X.prog X.w) X.A (spliced (backTo pos (starEach es X.env))) (AP X pins σ Q) X.xe s
def PS (X:Cx)(st:Stmt)(t:TS):Prop:=
 ∀(pins:List (Addr×Obj)) (s:Shared) (σ:St) (H:Hp) (D:Ends),Inv X pins σ H s->t D σ H->wpAny (model X.prog X.w) X.A (exec st X.env) (SP X pins D) X.xe s
def oP (X:Cx)(st:List Stmt)(t:TS):Prop:=
 ∀(pins:List (Addr×Obj)) (s:Shared) (σ:St) (H:Hp) (D:Ends),Inv X pins σ H s->t D σ H->wpAny (model X.prog X.w) X.A (execs st X.env) (SP X pins D) X.xe s
def cx {α:Type}{t:Sem α}{Q Q':α->Shared->Prop}{M:Model}{A:Around}{E:Value->Shared->Prop}{s:Shared}(h:wpAny M A t Q E s)(hQ:∀a s,Q a s->Q' a s):wpAny M A t Q' E s:=OX h hQ λ_ _ x=>x
section
variable {X:Cx}
def bin {a b:Expr}{ta tb:TE}(ha:PE X a ta)(hb:PE X b tb){pins:List (Addr×Obj)}{s:Shared}{σ:St}{H:Hp}{R:V->V->Hp->Prop}(I:Inv X pins σ H s)(h:ta σ H λx H1=>tb σ H1 λy H2=>R x y H2)
  {α:Type} {Q:α->Shared->Prop} {f:Value->Value->Sem α}
  (hf:∀v u s2 x y H2,Inv X pins σ H2 s2->RelV x v->RelV y u->R x y H2->wpAny (model X.prog X.w) X.A (f v u) Q X.xe s2) :
  wpAny (model X.prog X.w) X.A (eval a X.env) (λv s₁=>wpAny (model X.prog X.w) X.A (eval b X.env) (λu s₂=>wpAny (model X.prog X.w) X.A (f v u) Q X.xe s₂) X.xe s₁) X.xe s:=by
 refine cx (ha pins s σ H _ I h) λv s1 ⟨x,H1,I1,r1,q1⟩=>?_
 refine cx (hb pins s1 σ H1 _ I1 q1) λu s2 ⟨y,H2,I2,r2,q2⟩=>?_
 exact hf v u s2 x y H2 I2 r1 r2 q2
def Fu (i:Nat):TE:=λσ H Q=>∃v,σ[i]? =some (some v)/\Q v H
def tC (v:V):TE:=λ_ H Q=>Q v H
def iX {i:Nat}{x:Str}{pos:Pos}(hN:X.N[i]? =some x)(hv:xm X.env.scope x)(hd:(x == ("__debug__":Str))=false:=by decide)(hcd:(x == ("__classdict__":Str))=false:=by decide):PE X (.Name x pos) (Fu i):=by
 intro pins s σ H Q I h
 obtain⟨v,e,h⟩:=h
 obtain⟨m,hn,hl⟩:=I.loc
 obtain⟨u,r,l⟩:=hl i x v hN e hv
 have fin:EP X pins σ Q u s:=⟨v,H,I,r,h⟩
 rcases l with⟨hk,hm⟩ | ⟨hk,c,hc,hcell⟩
 ·exact wpAny_Name (wpAny_loadName_local I.ok.kind hk hn hm fin) hd
 ·rcases hk with hk |hk
  ·exact wpAny_Name (wpAny_loadName_cell I.ok.kind hk hc hcell fin) hd
  ·exact wpAny_Name (wpAny_loadName_free I.ok.kind hk hc hcell fin hcd) hd
def pY {i j pos}:PE X (.Constant (.int i) j pos) (tC (.int i)):=λ_ _ _ H _ I h=>wpAny_Constant_int ⟨.int i,H,I.tok _,⟨_,rfl⟩,h⟩
def sO {b j pos}:PE X (.Constant (.bool b) j pos) (tC (.bl b)):=λ_ _ _ H _ I h=>Constant_bool ⟨.bl b,H,I,rfl,h⟩
def II {j pos}:PE X (.Constant .none j pos) (tC .non):=λ_ _ _ H _ I h=>Constant_none ⟨.non,H,I,rfl,h⟩
def qI {x j pos}:PE X (.Constant (.str x) j pos) (tC (.str x)):=λ_ _ _ H _ I h=>Calls.Constant_str ⟨.str x,H,I.tok _,⟨_,rfl⟩,h⟩
def Gl (X:Cx)(x:Str):Prop:=X.env.kindOf x=some .globalImplicit
def mZ {E:Value->Shared->Prop}{pins:List (Addr×Obj)}{s:Shared}{σ:St}{H:Hp}{x:Str}{u:Value}{pos:Pos}{Q:Value->Shared->Prop}(I:Inv X pins σ H s)(hg:Gl X x)(hm:X.mg x=some u)(h:Q u s)
  (hd:(x == ("__debug__":Str))=false:=by decide):wpAny (model X.prog X.w) X.A (eval (.Name x pos) X.env) Q E s:=
 Calls.Name_function_global I.ok.kind hg (Calls.loadGlobal_global (by rw[I.ok.glob];exact I.mod.glob.keeps I.bk) hm h) hd
def kH {E:Value->Shared->Prop}{pins:List (Addr×Obj)}{s:Shared}{σ:St}{H:Hp}{x:Str}{u:Value}{pos:Pos}{Q:Value->Shared->Prop}(I:Inv X pins σ H s)(hg:Gl X x)(hm:X.mg x=none)(hv:bootBuiltins x=some u)(h:Q u s)
  (hn:x≠"__name__":=by decide) (hd:(x == ("__debug__":Str))=false:=by decide):wpAny (model X.prog X.w) X.A (eval (.Name x pos) X.env) Q E s:=by
 obtain⟨mb,h1,h2⟩:=I.mod.blt
 exact Calls.Name_function_global I.ok.kind hg (Calls.loadGlobal_builtin (by rw[I.ok.glob];exact I.mod.glob.keeps I.bk) hm (by rw[I.ok.blt];exact h1.keeps I.bk) ((h2 x hn).trans hv) h) hd
def cO {x:Str}{v:V}{u:Value}{pos:Pos}(hg:Gl X x)(hm:X.mg x=some u)(r:RelV v u)(hd:(x == ("__debug__":Str))=false:=by decide):PE X (.Name x pos) (tC v):=
 λ_ _ _ H _ I h=>mZ I hg hm ⟨v,H,I,r,h⟩ hd
def zr {x:Str}{v:V}{u:Value}{pos:Pos}(hg:Gl X x)(hm:X.mg x=none)(hv:bootBuiltins x=some u)(r:RelV v u)(hn:x≠"__name__":=by decide)(hd:(x == ("__debug__":Str))=false:=by decide):PE X (.Name x pos) (tC v):=
 λ_ _ _ H _ I h=>kH I hg hm hv ⟨v,H,I,r,h⟩ hn hd
variable {a b:Expr}{ta tb:TE}{pos:Pos}
def PC (X:Cx)(op:CmpOp)(a b:Expr)(t:TE):Prop:=
 ∀(pins:List (Addr×Obj)) (s:Shared) (σ:St) (H:Hp) (Q:VK),Inv X pins σ H s->t σ H Q->
  wpAny (model X.prog X.w) X.A (eval a X.env) (λv s₁=>wpAny (model X.prog X.w) X.A (eval b X.env) (λu s₂=>wpAny (model X.prog X.w) X.A (compareOp op v u) (EP X pins σ Q) X.xe s₂) X.xe s₁) X.xe s
def C1 (b:Expr){op:CmpOp}(h:op≠.In)(h2:op≠.NotIn):behindInMarks op b=false:=by
 have e1:(op == CmpOp.In)=false:=by cases op <;> first |rfl |exact absurd rfl h
 have e2:(op == CmpOp.NotIn)=false:=by cases op <;> first |rfl |exact absurd rfl h2
 cases b <;> simp[behindInMarks,e1,e2]
def tB (t:TE):TT:=λσ H Q=>t σ H λx H1=>∃c,x=.bl c/\Q c H1
def MP {op:CmpOp}{t:TE}(h:PC X op a b t)(h1:behindInMarks op b=false:=by first |exact C1 _ (by decide) (by decide) |rfl):PT X (.Compare a [op] [b] pos) (tB t):=by
 intro pins s σ H Q I hw
 refine wpAny_isTrue_Compare1 (cx (h pins s σ H _ I hw) λv s1 h1=>cx h1 λu s2 h2=>cx h2 λc s3 ⟨x,H1,I1,r1,q1⟩=>?_) h1
 obtain⟨d,rfl,q⟩:=q1
 cases r1
 exact O7 ⟨H1,I1,q⟩
def qG {e:Expr}{t:TE}(h:PE X e t)(he:∀whole,isTrue e X.env whole=(do let v <-whole;standAt e.pos;holding [v] (truthy v)):=by intro _;rfl):PT X e (tB t):=by
 intro pins s σ H Q I hw
 refine isTrue_plain (cx (h pins s σ H _ I hw) λv s1 ⟨x,H1,I1,r1,q1⟩=>?_) (he _)
 obtain⟨d,rfl,q⟩:=q1
 cases r1
 exact O7 ⟨H1,I1,q⟩
variable {tA tB':TT}{rest:List Expr}
def LS (t u:TT):TT:=λσ H Q=>t σ H λc H1=>if c=true then u σ H1 Q else Q false H1
def Nk (t u:TT):TT:=λσ H Q=>t σ H λc H1=>if c=true then Q true H1 else u σ H1 Q
def LL (t:TT):TT:=λσ H Q=>t σ H λc H1=>Q (!c) H1
theorem zH (ha:PT X a tA):PW X (.BoolOp .And [a] pos) tA:=by
 intro wh pins s σ H Q I h
 refine isTrue_and (cx (ha pins s σ H Q I h) λc s1 e=>?_)
 cases c with
 |true=>exact isTrue_and_nil e
 |false=>exact e
theorem Es (ha:PT X a tA):PW X (.BoolOp .Or [a] pos) tA:=by
 intro wh pins s σ H Q I h
 refine isTrue_or (cx (ha pins s σ H Q I h) λc s1 e=>?_)
 cases c with
 |false=>exact isTrue_or_nil e
 |true=>exact e
theorem CV (ha:PT X a tA)(hb:PW X (.BoolOp .And (b :: rest) pos) tB'):PW X (.BoolOp .And (a :: b :: rest) pos) (LS tA tB'):=by
 intro wh pins s σ H Q I h
 refine isTrue_and (cx (ha pins s σ H _ I h) λc s1 ⟨H1,I1,q1⟩=>?_)
 cases c with
 |true=>exact hb wh pins s1 σ H1 Q I1 q1
 |false=>exact⟨H1,I1,q1⟩
theorem Hl (ha:PT X a tA)(hb:PW X (.BoolOp .Or (b :: rest) pos) tB'):PW X (.BoolOp .Or (a :: b :: rest) pos) (Nk tA tB'):=by
 intro wh pins s σ H Q I h
 refine isTrue_or (cx (ha pins s σ H _ I h) λc s1 ⟨H1,I1,q1⟩=>?_)
 cases c with
 |true=>exact⟨H1,I1,q1⟩
 |false=>exact hb wh pins s1 σ H1 Q I1 q1
def xh (ha:PT X a tA):PT X (.UnaryOp .Not a pos) (LL tA):=by
 intro pins s σ H Q I h
 exact isTrue_not (ha pins s σ H (λc H1=>Q (!c) H1) I h)
def Ln (ta tb:TE):TE:=λσ H Q=>ta σ H λx H1=>∃c,x=.bl c/\if c=true then tb σ H1 Q else Q (.bl false) H1
def Ld (ta:TE):TE:=λσ H Q=>ta σ H λx H1=>∃c,x=.bl c/\Q (.bl (!c)) H1
def Jt {op}{t:TE}(h:PE X a t):PE X (.BoolOp op [a] pos) t:=λpins s σ H Q I hw=>BoolOp_one (h pins s σ H Q I hw)
theorem Jb (ha:PE X a ta)(hb:PE X (.BoolOp .And (b :: rest) pos) tb):PE X (.BoolOp .And (a :: b :: rest) pos) (Ln ta tb):=by
 intro pins s σ H Q I h
 refine BoolOp_and (cx (ha pins s σ H _ I h) λv s1 ⟨x,H1,I1,r1,q1⟩=>?_)
 obtain⟨c,rfl,q1⟩:=q1
 cases r1
 refine O7 ?_
 cases c with
 |true=>exact hb pins s1 σ H1 Q I1 q1
 |false=>exact⟨.bl false,H1,I1,rfl,q1⟩
def Ic (ha:PE X a ta):PE X (.UnaryOp .Not a pos) (Ld ta):=by
 intro pins s σ H Q I h
 refine UnaryOp_ (cx (ha pins s σ H _ I h) λv s1 ⟨x,H1,I1,r1,q1⟩=>?_)
 obtain⟨c,rfl,q1⟩:=q1
 cases r1
 exact not_of (O7 ⟨.bl (!c),H1,I1,rfl,q1⟩)
end
def fj (K:Frag)(H:Hp)(a:Addr)(xs:List V):Prop:=
 Rd H a (.lst xs)\/
  ∃(o:Obj) (its:Array Value) (n:Nat),K.lookup a=some o/\o.cls=.type "list"/\o.dict=none/\o.data=.seq its n/\its.size<=sizeLine/\Vals xs its.toList
def dU (K:Frag)(H:Hp)(a:Addr)(xs:List V):Prop:=
 Rd H a (.tup xs)\/
  ∃(o:Obj) (its:Array Value) (n:Nat),K.lookup a=some o/\o.cls=.type "tuple"/\o.data=.seq its n/\its.size<=sizeLine/\Vals xs its.toList/\o.dict=none
def Me:Value->Option V
 | .none=>some .non
 | .bool b=>some (.bl b)
 | .int i _=>some (.int i)
 | .str x _=>some (.str x)
 | .bytes b _=>some (.byt b)
 | .float b _=>some (.flt b)
 | .ref a=>some (.ref a)
 | .type n=>some (.ty n)
 |_=>none
theorem RelV.abs {x:V}{u:Value}(r:RelV x u):Me u=some x:=by
 cases x with
 |non=>cases r;rfl
 |bl _=>cases r;rfl
 |int _=>obtain⟨t,rfl⟩:=r;rfl
 |str _=>obtain⟨t,rfl⟩:=r;rfl
 |byt _=>obtain⟨t,rfl⟩:=r;rfl
 |flt _=>obtain⟨t,rfl⟩:=r;rfl
 |ref _=>cases r;rfl
 |ty _=>cases r;rfl
def RelV.inj {x y:V}{u:Value}(r:RelV x u)(q:RelV y u):x=y:=Option.some.inj (r.abs.symm.trans q.abs)
theorem Vals.inj:∀{xs ys:List V} {us:List Value},Vals xs us->Vals ys us->xs=ys
 |_,_,_,.nil,.nil=>rfl
 |_,_,_,.cons r t,.cons r' t'=>by rw[r.inj r',Vals.inj t t']
section
variable {X:Cx}{pins:List (Addr×Obj)}{σ:St}{H:Hp}{s:Shared}{a:Addr}{xs ys:List V}
def Inv.list (I:Inv X pins σ H s)(h:fj X.K H a xs):∃its:List Value,Vals xs its/\PlainL s.heap a its.toArray/\xs.length<=sizeLine:=by
 rcases h with h | ⟨o,its,n,hk,hc,hd,hs,hz,r⟩
 ·obtain⟨z,its,n,r,e⟩:=h.ok I.hok
  exact⟨its,r,⟨_,n,e,rfl,rfl,rfl⟩,z⟩
 ·refine⟨its.toList,r,⟨o,n,I.kIn a o hk,hc,hd,by simpa using hs⟩,?_⟩
  have e:=r.length
  simp only[P6] at e
  omega
def Inv.tuple (I:Inv X pins σ H s)(h:dU X.K H a xs):∃its:List Value,Vals xs its/\IsTup s.heap a its.toArray/\xs.length<=sizeLine:=by
 rcases h with h | ⟨o,its,n,hk,hc,hs,hz,r,_⟩
 ·obtain⟨z,its,r,p⟩:=h.ok I.hok
  exact⟨its,r,p.isTup,z⟩
 ·refine⟨its.toList,r,⟨o,I.kIn a o hk,hc,n,by simpa using hs⟩,?_⟩
  have e:=r.length
  simp only[P6] at e
  omega
def Inv.list_inj (I:Inv X pins σ H s)(h:fj X.K H a xs)(h':fj X.K H a ys):xs=ys:=by
 obtain⟨its,r,⟨o,n,e,_,_,d⟩,_⟩:=I.list h
 obtain⟨its',r',⟨o',n',e',_,_,d'⟩,_⟩:=I.list h'
 rw[e] at e';cases e'
 rw[d] at d'
 injection d' with d1 _
 have:its=its':=by simpa using congrArg Array.toList d1
 subst this
 exact r.inj r'
def Inv.tuple_inj (I:Inv X pins σ H s)(h:dU X.K H a xs)(h':dU X.K H a ys):xs=ys:=by
 obtain⟨its,r,⟨o,e,_,n,d⟩,_⟩:=I.tuple h
 obtain⟨its',r',⟨o',e',_,n',d'⟩,_⟩:=I.tuple h'
 rw[e] at e';cases e'
 rw[d] at d'
 injection d' with d1 _
 have:its=its':=by simpa using congrArg Array.toList d1
 subst this
 exact r.inj r'
end
abbrev Cx.wish (X:Cx)(E:Value->Shared->Prop):Cx:={X with xe:=E}
abbrev Cx.nox (X:Cx):Cx:=X.wish λ_ _=>False
def Cx.Ok.wish {X:Cx}(ok:X.Ok)(E:Value->Shared->Prop):(X.wish E).Ok:=
 ⟨ok.mod,ok.kind,ok.glob,ok.blt,ok.above,ok.inj,ok.has,ok.cab,ok.hd,ok.frames,ok.stk,ok.exf,ok.bs,ok.bsz,ok.noex,ok.exfs,ok.funs,ok.frf⟩
def Cx.Ok.unwish {X:Cx}{E:Value->Shared->Prop}(ok:(X.wish E).Ok):X.Ok:=
 ⟨ok.mod,ok.kind,ok.glob,ok.blt,ok.above,ok.inj,ok.has,ok.cab,ok.hd,ok.frames,ok.stk,ok.exf,ok.bs,ok.bsz,ok.noex,ok.exfs,ok.funs,ok.frf⟩
section
variable {X:Cx}{pins:List (Addr×Obj)}{σ:St}{H:Hp}{s:Shared}{E:Value->Shared->Prop}
def Inv.wish (I:Inv X pins σ H s)(E:Value->Shared->Prop):Inv (X.wish E) pins σ H s:=⟨I.ok.wish E,I.os,I.bare,I.base,I.loc,I.cell,I.free,I.freeC,I.pin,I.hok,I.len⟩
def Inv.unwish (I:Inv (X.wish E) pins σ H s):Inv X pins σ H s:=⟨I.ok.unwish,I.os,I.bare,I.base,I.loc,I.cell,I.free,I.freeC,I.pin,I.hok,I.len⟩
theorem SP.unwish {D:Ends}{f:Flow}{s':Shared}(h:SP (X.wish E) pins D f s'):SP X pins D f s':=by
 cases f with
 |next=>obtain⟨σ',H',I,q⟩:=h;exact⟨σ',H',I.unwish,q⟩
 |brk=>obtain⟨σ',H',I,q⟩:=h;exact⟨σ',H',I.unwish,q⟩
 |cont=>obtain⟨σ',H',I,q⟩:=h;exact⟨σ',H',I.unwish,q⟩
 |ret u=>obtain⟨v,σ',H',I,r,q⟩:=h;exact⟨v,σ',H',I.unwish,r,q⟩
def oP.nox {st:List Stmt}{t:TS}(h:oP X.nox st t):oP X st t:=λpins s σ H D I hw=>
 OX (h pins s σ H D (I.wish _) hw) (λ_ _ q=>q.unwish) λ_ _ z=>False.elim z
end
section
variable {X:Cx}{st:Stmt}{rest:List Stmt}{t u:TS}{e:Expr}{te:TE}{pos:Pos}
def KL:TS:=λD σ H=>D.nx σ H
def Ma (t u:TS):TS:=λD σ H=>t {D with nx:=u D} σ H
def o7:oP X [] KL:=λ_ _ σ H _ I h=>Qm ⟨σ,H,I,h⟩
theorem cz (h1:PS X st t)(h2:oP X rest u):oP X (st :: rest) (Ma t u):=by
 intro pins s σ H D I h
 refine wpAny_execs_cons (cx (h1 pins s σ H {D with nx:=u D} I h) λf s1 q=>?_)
 cases f with
 |next=>
  obtain⟨σ',H',I',q⟩:=q
  exact h2 pins s1 σ' H' D I' q
 |ret v=>exact q
 |brk=>exact q
 |cont=>exact q
theorem dE (h1:PS X st t):oP X [st] t:=by
 intro pins s σ H D I h
 refine wpAny_execs_cons (cx (h1 pins s σ H D I h) λf s1 q=>?_)
 cases f with
 |next=>exact Qm q
 |ret v=>exact q
 |brk=>exact q
 |cont=>exact q
def Inv.quiet {pins:List (Addr×Obj)}{σ:St}{H:Hp}{s:Shared}(I:Inv X pins σ H s):interactive X.env=false:=by simp[interactive,I.ok.kind]
def Lo (te:TE):TS:=λD σ H=>te σ H λ_ H1=>D.nx σ H1
def tG (he:PE X e te)(hs:swapsWith e none pos.line X.env=pure false:=by rfl):PS X (.Expr e pos) (Lo te):=by
 intro pins s σ H D I h
 exact wpAny_Expr_any (cx (he pins s σ H _ I h) λv s1 ⟨x,H1,I1,r1,q1⟩=>⟨σ,H1,I1,q1⟩) I.quiet hs
def L7 (te:TE):TS:=λD σ H=>te σ H D.rt
def i0 (he:PE X e te):PS X (.Return (some e) pos) (L7 te):=by
 intro pins s σ H D I h
 exact wpAny_Return_some (cx (he pins s σ H _ I h) λv s1 ⟨x,H1,I1,r1,q1⟩=>⟨x,σ,H1,I1,r1,q1⟩)
def LZ (c:TT)(t u:TS):TS:=λD σ H=>c σ H λb H1=>if b=true then t D σ H1 else u D σ H1
theorem zO {c:Expr}{a b:List Stmt}{tc:TT}(hc:PT X c tc)(ha:oP X a t)(hb:oP X b u):PS X (.If c a b pos) (LZ tc t u):=by
 intro pins s σ H D I h
 refine wpAny_If (cx (hc pins s σ H _ I h) λd s1 ⟨H1,I1,q1⟩=>?_)
 cases d with
 |true=>exact ha pins s1 σ H1 D I1 q1
 |false=>exact hb pins s1 σ H1 D I1 q1
end
abbrev TG:=V->St->Hp->(St->Hp->Prop)->Prop
abbrev Jr:=List V->St->Hp->(St->Hp->Prop)->Prop
def PG (X:Cx)(target:Expr)(t:TG):Prop:=
 ∀(pins:List (Addr×Obj)) (s:Shared) (σ:St) (H:Hp) (v:V) (u:Value) (Q:St->Hp->Prop),Inv X pins σ H s->RelV v u->t v σ H Q->
  wpAny (model X.prog X.w) X.A (assign target X.env u) (λ_ s'=>∃σ' H',Inv X pins σ' H' s'/\Q σ' H') X.xe s
def Lu (X:Cx)(ts:List Expr)(t:Jr):Prop:=
 ∀(pins:List (Addr×Obj)) (s:Shared) (σ:St) (H:Hp) (vs:List V) (us:List Value) (Q:St->Hp->Prop),Inv X pins σ H s->Vals vs us->t vs σ H Q->
  wpAny (model X.prog X.w) X.A (assignInOrder ((assignEach ts X.env).map (·.2)) us) (λ_ s'=>∃σ' H',Inv X pins σ' H' s'/\Q σ' H') X.xe s
abbrev Jy:=V->V->V->Hp->(Hp->Prop)->Prop
def tI (X:Cx)(t:Jy):Prop:=
 ∀(pins:List (Addr×Obj)) (s:Shared) (σ:St) (H:Hp) (o i v:V) (ov iv u:Value) (Q:Hp->Prop),Inv X pins σ H s->RelV o ov->RelV i iv->RelV v u->t o i v H Q->
  wpAny (model X.prog X.w) X.A (setItem ov iv u) (λ_ s'=>∃H',Inv X pins σ H' s'/\Q H') X.xe s
section
variable {X:Cx}{pos:Pos}
def lE (i:Nat):TG:=λv σ H Q=>Q (σ.set i (some v)) H
def cP {i:Nat}{x:Str}(hN:X.N.Nodup)(hi:X.N[i]? =some x)(hx:Loc X.env.scope x)(hf:X.fn x=true\/X.env.scope.names.lookup x=some .local:=by first |exact .inl rfl |exact .inr rfl |assumption):PG X (.Name x pos) (lE i):=by
 intro pins s σ H v u Q I r h
 exact wpAny_assign_Name (mw I hN hi hx r (λs' I'=>⟨_,H,I',h⟩) hf)
def Gh:Jr:=λvs σ H Q=>vs= []/\Q σ H
def pJ (t:TG)(u:Jr):Jr:=λvs σ H Q=>∃v r,vs=v :: r/\t v σ H λσ' H'=>u r σ' H' Q
def mr:Lu X [] Gh:=by
 intro pins s σ H vs us Q I r h
 obtain⟨e,h⟩:=h
 subst e
 cases r
 exact assignInOrder_nil ⟨σ,H,I,h⟩
theorem dA {e:Expr}{es:List Expr}{t:TG}{u:Jr}(h1:PG X e t)(h2:Lu X es u)
  (hs:(assignEach (e :: es) X.env).map (·.2)=assign e X.env :: (assignEach es X.env).map (·.2):=by rfl):Lu X (e :: es) (pJ t u):=by
 intro pins s σ H vs us Q I r h
 obtain⟨v,vr,e1,h⟩:=h
 subst e1
 cases r with
 |cons r rr=>
  rw[hs]
  refine assignInOrder_cons (cx (h1 pins s σ H _ _ _ I r h) λ_ s1 ⟨σ1,H1,I1,q1⟩=>?_)
  exact h2 pins s1 σ1 H1 _ _ Q I1 rr q1
def Gu (K:Frag)(n:Nat)(t:Jr):TG:=λv σ H Q=>∃a xs,v=.ref a/\dU K H a xs/\xs.length=n/\t xs σ H Q
def qj {es:List Expr}{k:Nat}{t:Jr}{n:Nat}(hc:X.calm=true)(h:Lu X es t)
  (hn:(assignEach es X.env).length=n:=by rfl) (hst:(assignEach es X.env).findIdx? (·.1)=none:=by rfl):PG X (.Tuple es k pos) (Gu X.K n t):=by
 intro pins s σ H v u Q I r hw
 obtain⟨a,xs,e1,hq,hl,hw⟩:=hw
 subst e1
 cases r
 obtain⟨its,rv,ht,hz⟩:=I.tuple hq
 refine assign_Tuple_tuple (I.ok.hd hc) ht (by simp[hn,<-hl,rv.length]) hst λh' hx=>?_
 have I1:Inv X pins σ H {s with heap:=h'}:=I.kept (t':=s.toks) λb o e=>hx b o (Of (NO e)) e
 exact h pins _ σ H xs _ Q I1 (by simpa using rv) hw
def Mp (to ti:TE)(t:Jy):TG:=λv σ H Q=>to σ H λo H1=>ti σ H1 λi H2=>t o i v H2 λH3=>Q σ H3
def tw {o i:Expr}{to ti:TE}{t:Jy}(ho:PE X o to)(hi:PE X i ti)(hs:tI X t)
  (ha:∀v,assign (.Subscript o i pos) X.env v=(do
   let ov <-holding [v] (eval o X.env)
   let iv <-holding [v,ov] (eval i X.env)
   standAt pos
   holding [v,ov,iv] (setItem ov iv v)
   release [v,ov,iv] []):=by intro _;rfl):PG X (.Subscript o i pos) (Mp to ti t):=by
 intro pins s σ H v u Q I r h
 rw[ha]
 refine NA (OS (cx (ho pins s σ H _ I h) λov s1 ⟨x,H1,I1,r1,q1⟩=>?_))
 refine NA (OS (cx (hi pins s1 σ H1 _ I1 q1) λiv s2 ⟨y,H2,I2,r2,q2⟩=>?_))
 refine NA (wpAny_standAt (NA (OS (cx (hs pins s2 σ H2 x y v ov iv u _ I2 r1 r2 r q2) λ_ s3 ⟨H3,I3,q3⟩=>?_))))
 exact wpAny_release ⟨σ,H3,I3,q3⟩
def Kj (te:TE)(g:TG):TS:=λD σ H=>te σ H λx H1=>g x σ H1 D.nx
def qc {tg e:Expr}{te:TE}{g:TG}(he:PE X e te)(hg:PG X tg g)(hs:swapsWithSole [tg] e pos.line X.env=pure false:=by rfl)(hw:swappedStores [tg] e X.env=pure none:=by rfl)
  (h1:(assignEach [tg] X.env).map (·.2)= [assign tg X.env]:=by rfl):PS X (.Assign [tg] e pos) (Kj te g):=by
 intro pins s σ H D I h
 refine wpAny_Assign_stores (cx (he pins s σ H _ I h) λv s1 ⟨x,H1,I1,r1,q1⟩=>?_) hs hw
 rw[h1]
 exact cx (hg pins s1 σ H1 x v _ I1 r1 q1) λ_ s2 q=>q
def jt {i:Nat}{x:Str}{e:Expr}{te:TE}{pos':Pos}(hN:X.N.Nodup)(hi:X.N[i]? =some x)(hx:Loc X.env.scope x)(he:PE X e te)(hs:swapsWith e (some (.Name x pos')) pos.line X.env=pure false:=by rfl)(hf:X.fn x=true\/X.env.scope.names.lookup x=some .local:=by first |exact .inl rfl |exact .inr rfl |assumption) :
  PS X (.Assign [.Name x pos'] e pos) (Kj te (lE i)):=by
 intro pins s σ H D I h
 refine wpAny_Assign_Name (cx (he pins s σ H _ I h) λv s1 ⟨y,H1,I1,r1,q1⟩=>?_) hs
 exact mw I1 hN hi hx r1 (λs2 I2=>⟨_,H1,I2,q1⟩) hf
end
section
variable {X:Cx}{pos:Pos}
def HC (c:TT)(tb:TS):TS:=λD σ H=>∃W:Nat->St->Hp->Prop,(∃m,W m σ H)/\∀m σ H,W m σ H->
 c σ H λb H1=>if b=true then ∃N:St->Hp->Prop,(∀σ' H',N σ' H'->∃m',m' < m/\W m' σ' H')/\tb {D with nx:=N,ct:=N,bk:=D.nx} σ H1 else D.nx σ H1
theorem D8 {c:Expr}{body:List Stmt}{tc:TT}{tb:TS}(hp:PassesOwn (model X.prog X.w) X.A X.env X.xe)(hc:PT X c tc)(hb:oP X body tb):PS X (.While c body [] pos) (HC tc tb):=by
 intro pins s σ H D I h
 obtain⟨W,⟨m0,w0⟩,turn⟩:=h
 refine wpAny_While (codeAny_whileLoop (λn s'=>∃σ' H',Inv X pins σ' H' s'/\W n σ' H') ?_ m0 ⟨σ,H,I,w0⟩)
 rintro n s1 ⟨σ1,H1,I1,w1⟩
 refine PF hp (cx (hc pins s1 σ1 H1 _ I1 (turn n σ1 H1 w1)) λb s2 ⟨H2,I2,q2⟩=>?_)
 cases b with
 |true=>
  obtain⟨N,hN,q2⟩:=q2
  rw[NG rfl]
  refine PF hp (cx (hb pins s2 σ1 H2 _ I2 q2) λf s3 q3=>?_)
  cases f with
  |next=>
   obtain⟨σ3,H3,I3,n3⟩:=q3
   obtain⟨m',hm,w3⟩:=hN σ3 H3 n3
   exact⟨m',hm,σ3,H3,I3,w3⟩
  |cont=>
   obtain⟨σ3,H3,I3,n3⟩:=q3
   obtain⟨m',hm,w3⟩:=hN σ3 H3 n3
   exact⟨m',hm,σ3,H3,I3,w3⟩
  |brk=>exact q3
  |ret v=>exact q3
 |false=>
  rw[NL NY]
  exact Qm ⟨σ1,H2,I2,q2⟩
end
structure It where
 go:Nat->Hp->Prop
 yld:Nat->Hp->V->Hp->Prop
 stop:Nat->Hp->Prop
def nI (X:Cx)(pins:List (Addr×Obj))(H:Hp)(b:Addr):Prop:=
 H b=none/\b≠X.env.locals/\b∉X.fs/\(b∈X.ex\/X.s₀.heap.objs.size<=b)/\(∀x c,X.env.cells.lookup x=some c->c≠b)/\∀p∈X.pn ++ pins,p.1≠b
def Inv.fpOk {X:Cx}{pins:List (Addr×Obj)}{σ:St}{H H':Hp}{s:Shared}{b:Addr}(I:Inv X pins σ H s)(hb:s.heap.objs.size<=b)(hn:H' b=none):nI X pins H' b:=by
 refine⟨hn,Nat.ne_of_gt (N5 I.lt hb),I.nofs hb,.inr (OT I.sz hb),λx c e z=>?_,λp hp z=>?_⟩
 ·obtain⟨v,q⟩:=I.cell x c e
  exact absurd (N5 q.lt (by rw[z];exact hb)) (Om _)
 ·exact absurd (N5 (NO (I.pin p hp).1) (by rw[z];exact hb)) (Om _)
structure Turn (P:Program)(w:World)(K:Frag)(tg:Expr)(J:It)(fp:List Addr)(it:Addr)(tn:Nat->Heap->Prop):Prop where
 mem:it∈fp
 obj:∀i h,tn i h->∀b∈fp,∃o,h.get? b=some o/\∀v,o.data≠.cell v
 keep:∀i h h',tn i h->(∀b∈fp,∀o,h.get? b=some o->h'.get? b=some o)->tn i h'
 item:∀(X:Cx),X.prog=P->X.w=w->X.K=K->X.calm=true->∀(i:Nat) (pins:List (Addr×Obj)) (s:Shared) (σ:St) (H:Hp) (E:Value->Shared->Prop),Inv X pins σ H s->(∀b∈fp,nI X pins H b)->tn i s.heap->J.go i H->
  wpAny (model P w) X.A (pyNext (.ref it)) (λr s1=>∃u,r=some u/\
   wpAny (model P w) X.A (letOwnedTupleGo tg (.ref it) u) (λ_ s2=>∃x H',Inv X pins σ H' s2/\RelV x u/\J.yld i H x H'/\tn (i + 1) s2.heap/\∀b∈fp,H' b=none) E s1) E s
 done:∀(X:Cx),X.prog=P->X.w=w->X.K=K->X.calm=true->∀(i:Nat) (pins:List (Addr×Obj)) (s:Shared) (σ:St) (H:Hp) (E:Value->Shared->Prop),Inv X pins σ H s->(∀b∈fp,nI X pins H b)->tn i s.heap->J.stop i H->
  wpAny (model P w) X.A (pyNext (.ref it)) (λr s1=>r=none/\Inv X pins σ H s1) E s
 self:∀(A:Around) (i:Nat) (s:Shared) (Q:Value->Shared->Prop) (E:Value->Shared->Prop),tn i s.heap->Q (.ref it) s->wpAny (model P w) A (pyIter (.ref it)) Q E s
abbrev TI:=St->Hp->(It->Hp->Prop)->Prop
def LN (X:Cx)(pins:List (Addr×Obj))(σ:St)(tg:Expr)(R:It->Hp->Prop)(itv:Value)(s2:Shared):Prop:=
 ∃(it:Addr) (fp:List Addr) (tn:Nat->Heap->Prop) (J:It) (H':Hp),itv=.ref it/\Inv X pins σ H' s2/\Turn X.prog X.w X.K tg J fp it tn/\tn 0 s2.heap/\(∀b∈fp,nI X pins H' b)/\R J H'
def PI (X:Cx)(tg iter:Expr)(wi:TI):Prop:=
 ∀(pins:List (Addr×Obj)) (s:Shared) (σ:St) (H:Hp) (R:It->Hp->Prop),Inv X pins σ H s->wi σ H R->
  wpAny (model X.prog X.w) X.A (eval iter X.env) (λv s1=>wpAny (model X.prog X.w) X.A (pyIter v) (LN X pins σ tg R) X.xe s1) X.xe s
def Aa {M:Model}{A:Around}{E:Value->Shared->Prop}{s:Shared}{tg:Expr}{it:Addr}{u:Value}{o:Obj}{n:String}{vs:Array Value}{Q:Unit->Shared->Prop}(ho:s.heap.get? it=some o)(hc:o.cls=.type n)(hd:o.data=.fields vs)
  (hn: ["enumerate","zip","dict_itemiterator","dict_reverseitemiterator","odict_iterator","itertools.zip_longest","itertools.pairwise"].contains n=false) (hQ:Q () s):wpAny M A (letOwnedTupleGo tg (.ref it) u) Q E s:=by
 unfold letOwnedTupleGo
 cases tg <;> first
  |exact NF hQ
  | (cases u <;> first
    |exact NF hQ
    | (refine NA (wpAny_load ho ?_)
       rw[hc,hd]
       show wpAny M A (if (["enumerate","zip","dict_itemiterator","dict_reverseitemiterator","odict_iterator","itertools.zip_longest","itertools.pairwise"].contains n && vs[0]? == some (rawInt _))=true then _ else _) Q E s
       rw[NL (by intro h;rw[hn,Bool.false_and] at h;cases h)]
       exact NF hQ))
def A2 (K:Frag)(a:Addr):It:=
 ⟨λi H=>∃xs x,fj K H a xs/\xs[i]? =some x,λi H x H'=>H'=H/\∀xs,fj K H a xs->xs[i]? =some x,λi H=>∃xs,fj K H a xs/\xs.length<=i⟩
def GL (K:Frag)(a:Addr):It:=
 ⟨λi H=>∃xs x,dU K H a xs/\xs[i]? =some x,λi H x H'=>H'=H/\∀xs,dU K H a xs->xs[i]? =some x,λi H=>∃xs,dU K H a xs/\xs.length<=i⟩
def BC (lo:Int)(n:Nat):It:=⟨λi _=>i < n,λi H x H'=>H'=H/\x=.int (lo + i),λi _=>n<=i⟩
def nM {P:Program}{w:World}{K:Frag}{tg:Expr}(a it:Addr):Turn P w K tg (A2 K a) [it] it (λi h=>h.IsListIter it a i) where
 mem:=by simp
 obj:=λi h st b hb=>by
  have e:b=it:=by simpa using hb
  subst e
  obtain⟨o,e,c,d⟩:=st
  exact⟨o,e,λv z=>by rw[d] at z;cases z⟩
 keep:=λi h h' st k=>st.at λo e=>k it (by simp) o e
 item:=by
  intro X hP hw hK hc i pins s σ H E I hf st hg
  subst hP hw hK
  obtain⟨xs,x,hq,hx⟩:=hg
  obtain⟨its,rv,p,hz⟩:=I.list hq
  obtain⟨u,hu,ru⟩:=rv.get hx
  obtain⟨f0,f1,f2,f3,f4,f5⟩:=hf it (by simp)
  refine wpAny_pyNext_list_item st p.isList (x:=u) (by simpa using hu) λh' st' sb=>?_
  have I1:Inv X pins σ H {s with heap:=h'}:=I.turned (t':=s.toks) (λb o hb e=>(sb.2 b hb).trans e) f0 f1 f3 f4 f5
  obtain⟨o,e,c,d⟩:=id st'
  exact⟨u,rfl,Aa (s:={s with heap:=h'}) e c d (by decide) ⟨x,H,I1,ru,⟨rfl,λys hy=>by rw[I.list_inj hy hq];exact hx⟩,st',λb hb=>(hf b hb).1⟩⟩
 done:=by
  intro X hP hw hK hc i pins s σ H E I hf st hg
  subst hP hw hK
  obtain⟨xs,hq,hx⟩:=hg
  obtain⟨its,rv,p,hz⟩:=I.list hq
  obtain⟨f0,f1,f2,f3,f4,f5⟩:=hf it (by simp)
  have hl:=rv.length
  exact wpAny_pyNext_list_end (I.ok.hd hc) st p.isList (by simp;omega) λh' eb=>⟨rfl,I.turned (t':=s.toks) (λb o hb e=>eb b o hb e) f0 f1 f3 f4 f5⟩
 self:=λ_ _ _ _ _ st h=>wpAny_pyIter_listiter st h
def pE {P:Program}{w:World}{K:Frag}{tg:Expr}(a it:Addr):Turn P w K tg (GL K a) [it] it (λi h=>h.IsTupleIter it a i) where
 mem:=by simp
 obj:=λi h st b hb=>by
  have e:b=it:=by simpa using hb
  subst e
  obtain⟨o,e,c,d⟩:=st
  exact⟨o,e,λv z=>by rw[d] at z;cases z⟩
 keep:=λi h h' st k=>st.at λo e=>k it (by simp) o e
 item:=by
  intro X hP hw hK hc i pins s σ H E I hf st hg
  subst hP hw hK
  obtain⟨xs,x,hq,hx⟩:=hg
  obtain⟨its,rv,p,hz⟩:=I.tuple hq
  obtain⟨u,hu,ru⟩:=rv.get hx
  obtain⟨f0,f1,f2,f3,f4,f5⟩:=hf it (by simp)
  refine wpAny_pyNext_tuple_item st (show s.heap.IsTuple a its.toArray from p) (x:=u) (by simpa using hu) λh' st' sb=>?_
  have I1:Inv X pins σ H {s with heap:=h'}:=I.turned (t':=s.toks) (λb o hb e=>(sb.2 b hb).trans e) f0 f1 f3 f4 f5
  obtain⟨o,e,c,d⟩:=id st'
  exact⟨u,rfl,Aa (s:={s with heap:=h'}) e c d (by decide) ⟨x,H,I1,ru,⟨rfl,λys hy=>by rw[I.tuple_inj hy hq];exact hx⟩,st',λb hb=>(hf b hb).1⟩⟩
 done:=by
  intro X hP hw hK hc i pins s σ H E I hf st hg
  subst hP hw hK
  obtain⟨xs,hq,hx⟩:=hg
  obtain⟨its,rv,p,hz⟩:=I.tuple hq
  obtain⟨f0,f1,f2,f3,f4,f5⟩:=hf it (by simp)
  have hl:=rv.length
  exact wpAny_pyNext_tuple_end (I.ok.hd hc) st (show s.heap.IsTuple a its.toArray from p) (by simp;omega) λh' eb=>⟨rfl,I.turned (t':=s.toks) (λb o hb e=>eb b o hb e) f0 f1 f3 f4 f5⟩
 self:=λ_ _ _ _ _ st h=>wpAny_pyIter_tupleiter st h
def yh {P:Program}{w:World}{K:Frag}{tg:Expr}(it:Addr)(lo:Int)(n:Nat):Turn P w K tg (BC lo n) [it] it (λi h=>IsRangeIter h it (lo + (i:Nat) * 1) ((n:Int) - (i:Nat)) 1) where
 mem:=by simp
 obj:=λi h st b hb=>by
  have e:b=it:=by simpa using hb
  subst e
  exact⟨_,st,λv z=>by
   have z':Data.fields _=Data.cell v:=z
   cases z'⟩
 keep:=λi h h' st k=>k it (by simp) _ st
 item:=by
  intro X hP hw hK hc i pins s σ H E I hf st hg
  subst hP hw hK
  obtain⟨f0,f1,f2,f3,f4,f5⟩:=hf it (by simp)
  have W:=Walks.range (prog:=X.prog) (w:=X.w) (I.ok.hd hc) it lo 1 n
  refine W.item i s _ _ hg st λv h' tk hv st' kk=>?_
  obtain⟨t,rfl⟩:=hv
  have I1:Inv X pins σ H {s with heap:=h',toks:=tk}:=I.turned (λb o hb e=>kk b o (by simpa using hb) e) f0 f1 f3 f4 f5
  refine⟨_,rfl,Aa (s:={s with heap:=h',toks:=tk}) (n:="range_iterator") st' rfl rfl (by decide) ⟨.int (lo + i),H,I1,⟨t,?_⟩,⟨rfl,rfl⟩,st',λb hb=>(hf b hb).1⟩⟩
  rw[Int.mul_one]
 done:=by
  intro X hP hw hK hc i pins s σ H E I hf st hg
  subst hP hw hK
  obtain⟨f0,f1,f2,f3,f4,f5⟩:=hf it (by simp)
  exact wpAny_pyNext_range_end (I.ok.hd hc) st (by have:n<=i:=hg;omega) λh' eb=>⟨rfl,I.turned (t':=s.toks) (λb o hb e=>eb b o hb e) f0 f1 f3 f4 f5⟩
 self:=λ_ _ _ _ _ st h=>wpAny_pyIter_rangeiter st h
section
variable {X:Cx}{tg:Expr}
def Kd (K:Frag)(tl:TE):TI:=λσ H R=>tl σ H λx H1=>∃a,x=.ref a/\(∃xs,fj K H1 a xs)/\R (A2 K a) H1
def zm {l:Expr}{tl:TE}(hl:PE X l tl):PI X tg l (Kd X.K tl):=by
 intro pins s σ H R I h
 refine cx (hl pins s σ H _ I h) λv s1 ⟨x,H1,I1,r1,q1⟩=>?_
 obtain⟨a,e,⟨xs,hq⟩,q⟩:=q1
 subst e
 cases r1
 obtain⟨its,rv,p,hz⟩:=I1.list hq
 refine Qe p.isList ?_
 refine⟨s1.heap.objs.size,[s1.heap.objs.size],_,_,H1,rfl,I1.kept (t':=s1.toks) λb o e=>ND _ e,nM a _,⟨_,NQ _ rfl,rfl,rfl⟩,λb hb=>?_,q⟩
 have e:b=s1.heap.objs.size:=by simpa using hb
 subst e
 exact I1.fpOk (NH _) (I1.hok.fresh (NH _))
def vO {pins:List (Addr×Obj)}{σ:St}{H:Hp}{s:Shared}{R:It->Hp->Prop}{E:Value->Shared->Prop}{lo hi:Int}{t u v:Tok}{tk:Nat}(I:Inv X pins σ H s)(h1: -(2 ^ 62)<=lo)(h2:lo < 2 ^ 62)(h3: -(2 ^ 62)<=hi)(h4:hi < 2 ^ 62)
  (q:R (BC lo (hi - lo).toNat) H):wpAny (model X.prog X.w) X.A (pyIter (.ref s.heap.objs.size)) (LN X pins σ tg R) E {s with heap:=s.heap.push {cls:=.type "range",data:=.fields #[.int lo t,.int hi u,.int 1 v]},toks:=tk}:=by
 refine wpAny_pyIter_range (IsRange.new ..) (small_one h1 h2 h3 h4) ?_
 have I1:Inv X pins σ H {s with heap:=s.heap.push {cls:=.type "range",data:=.fields #[.int lo t,.int hi u,.int 1 v]},toks:=tk}:=I.kept λb o e=>ND _ e
 refine⟨(s.heap.push {cls:=.type "range",data:=.fields #[.int lo t,.int hi u,.int 1 v]}).objs.size,[(s.heap.push {cls:=.type "range",data:=.fields #[.int lo t,.int hi u,.int 1 v]}).objs.size],_,_,H,rfl,
  I1.kept (t':=tk) λb o e=>ND _ e,yh _ lo (hi - lo).toNat,?_,λb hb=>?_,q⟩
 ·have e1:lo + ((0:Nat):Int) * 1=lo:=by simp
  have e2:(((hi - lo).toNat:Nat):Int) - ((0:Nat):Int)=Builtin.Range.rangeSize lo hi 1:=by rw[rangeSize_one];split <;> omega
  show IsRangeIter _ _ (lo + ((0:Nat):Int) * 1) ((((hi - lo).toNat:Nat):Int) - ((0:Nat):Int)) 1
  rw[e1,e2]
  exact NQ _ rfl
 ·have e:b=(s.heap.push {cls:=.type "range",data:=.fields #[.int lo t,.int hi u,.int 1 v]}).objs.size:=by simpa using hb
  subst e
  exact I1.fpOk (NH _) (I1.hok.fresh (NH _))
def JO (ta:TA):TI:=λσ H R=>ta σ H λvs H1=>∃j:Int,vs= [.int j]/\ -(2 ^ 62)<=j/\j < 2 ^ 62/\R (BC 0 j.toNat) H1
def K7 (ta:TA):TI:=λσ H R=>ta σ H λvs H1=>∃i j:Int,vs= [.int i,.int j]/\(-(2 ^ 62)<=i/\i < 2 ^ 62/\ -(2 ^ 62)<=j/\j < 2 ^ 62)/\R (BC i (j - i).toNat) H1
theorem lh {a:Expr}{ta:TA}{p pos:Pos}(hg:Gl X "range")(hm:X.mg "range"=none)(ha:PA X [a] ta)(hs:starEach [a] X.env= [(false,eval a X.env)]:=by rfl):PI X tg (.Call (.Name "range" p) [a] [] pos) (JO ta):=by
 intro pins s σ H R I h
 refine Call_ (kH I hg hm boot_range (OV (cx (ha pos pins s σ H _ I h) λus s1 ⟨vs,H1,I1,r1,q1⟩=>?_) hs rfl))
 obtain⟨j,e,q1,q2,q⟩:=q1
 subst e
 cases r1 with
 |cons r rr=>
  cases rr
  obtain⟨t,rfl⟩:=r
  exact call_range_1 (vO I1 (by omega) (by omega) q1 q2 (by simpa using q))
theorem AY {a b:Expr}{ta:TA}{p pos:Pos}(hg:Gl X "range")(hm:X.mg "range"=none)(ha:PA X [a,b] ta)(hs:starEach [a,b] X.env= [(false,eval a X.env),(false,eval b X.env)]:=by rfl)(hs2:starEach [b] X.env= [(false,eval b X.env)]:=by rfl) :
  PI X tg (.Call (.Name "range" p) [a,b] [] pos) (K7 ta):=by
 intro pins s σ H R I h
 refine Call_ (kH I hg hm boot_range (OV (cx (ha pos pins s σ H _ I h) λus s1 ⟨vs,H1,I1,r1,q1⟩=>?_) (by rw[hs,hs2]) (by rw[hs2];rfl)))
 obtain⟨i,j,e,⟨q1,q2,q3,q4⟩,q⟩:=q1
 subst e
 cases r1 with
 |cons r rr=>
  cases rr with
  |cons r' rr=>
   cases rr
   obtain⟨t,rfl⟩:=r
   obtain⟨t',rfl⟩:=r'
   exact call_range_2 (vO I1 q1 q2 q3 q4 q)
def Ms (wi:TI)(g:TG)(tb:TS):TS:=λD σ H=>wi σ H λJ H1=>∃W:Nat->Nat->St->Hp->Prop,(∃m,W 0 m σ H1)/\∀i m σ H,W i m σ H->
 (J.stop i H/\D.nx σ H)\/(J.go i H/\∃N:St->Hp->Prop,(∀σ' H',N σ' H'->∃m',m' < m/\W (i + 1) m' σ' H')/\∀x H',J.yld i H x H'->g x σ H' λσ2 H2=>tb {D with nx:=N,ct:=N,bk:=D.nx} σ2 H2)
def pX (fp:List Addr)(h:Heap):List (Addr×Obj):=fp.filterMap λb=>(h.get? b).map λo=>(b,o)
def jF {fp:List Addr}{h:Heap}{b:Addr}{o:Obj}(hb:b∈fp)(e:h.get? b=some o):(b,o)∈pX fp h:=Pd.mpr ⟨b,hb,by rw[e];rfl⟩
theorem Af {fp:List Addr}{h:Heap}{p:Addr×Obj}(hp:p∈pX fp h):p.1∈fp/\h.get? p.1=some p.2:=by
 obtain⟨b,hb,e⟩:=Pd.mp hp
 cases q:h.get? b with
 |none=>rw[q] at e;cases e
 |some o=>
  rw[q] at e
  have e':(b,o)=p:=Option.some.inj e
  subst e'
  exact⟨hb,q⟩
def Inv.pinned {pins:List (Addr×Obj)}{σ:St}{H:Hp}{s:Shared}{fp:List Addr}(I:Inv X pins σ H s)(hf:∀b∈fp,nI X pins H b)(ho:∀b∈fp,∃o,s.heap.get? b=some o/\∀v,o.data≠.cell v):Inv X (pins ++ pX fp s.heap) σ H s:=
 I.pins_of λp hp=>(N7.mp hp).elim (λz=>I.pin p (Oo _ z)) λz=>by
  obtain⟨hb,e⟩:=Af z
  obtain⟨f0,f1,f2,_⟩:=hf p.1 hb
  obtain⟨o,e',d⟩:=ho p.1 hb
  rw[e] at e';cases e'
  exact⟨e,f0,f1,f2,d⟩
def Inv.unpinned {pins pl:List (Addr×Obj)}{σ:St}{H:Hp}{s:Shared}(I:Inv X (pins ++ pl) σ H s):Inv X pins σ H s:=I.pins_of λp hp=>I.pin p (Oo _ (OW _ hp))
def uQ {iter:Expr}{body:List Stmt}{wi:TI}{g:TG}{tb:TS}{pos:Pos}(hp:PassesOwn (model X.prog X.w) X.A X.env X.xe)(hc:X.calm=true)(hi:PI X tg iter wi)(hg:PG X tg g)(hb:oP X body tb)
  (hs:∀x,foldedSetIterable iter X.env x=pure x:=by intro _;rfl):PS X (.For tg iter body [] pos) (Ms wi g tb):=by
 intro pins s σ H D I h
 refine wpAny_For (cx (hi pins s σ H _ I h) λv s1 h1=>cx h1 λitv s2 h2=>?_) hs
 obtain⟨it,fp,tn,J,H2,e,I2,T,st2,f2,W,⟨m0,w0⟩,turn⟩:=h2
 subst e
 have stat:∀{H':Hp},(∀b∈fp,H' b=none)->∀b∈fp,nI X pins H' b:=λhn b hb=>⟨hn b hb,(f2 b hb).2⟩
 refine codeAny_forLoop_any (λn s'=>∃i σ' H',Inv X pins σ' H' s'/\tn i s'.heap/\(∀b∈fp,H' b=none)/\W i n σ' H') ?_ m0 ⟨0,σ,H2,I2,st2,λb hb=>(f2 b hb).1,w0⟩
 rintro n s3 ⟨i,σ3,H3,I3,st3,fr3,w3⟩
 rcases turn i n σ3 H3 w3 with⟨stop,qn⟩ | ⟨go,N,hN,step⟩
 ·refine PF hp (cx (T.done X rfl rfl rfl hc i pins s3 σ3 H3 X.xe I3 (stat fr3) st3 stop) λr s4 ⟨hr,I4⟩=>?_)
  subst hr
  exact Qm ⟨σ3,H3,I4,qn⟩
 ·refine PF hp (cx (T.item X rfl rfl rfl hc i pins s3 σ3 H3 X.xe I3 (stat fr3) st3 go) λr s4 ⟨u,hr,h4⟩=>?_)
  subst hr
  refine PF hp (cx h4 λ_ s5 ⟨x,H5,I5,r5,y5,st5,fr5⟩=>?_)
  have I5':=I5.pinned (stat fr5) (T.obj _ _ st5)
  refine PF hp (cx (hg _ s5 σ3 H5 x u _ I5' r5 (step x H5 y5)) λ_ s6 ⟨σ6,H6,I6,q6⟩=>?_)
  refine PF hp (cx (hb _ s6 σ6 H6 _ I6 q6) λf s7 q7=>?_)
  have again:∀{σ7:St} {H7:Hp},Inv X (pins ++ pX fp s5.heap) σ7 H7 s7->N σ7 H7->∃m,m < n/\∃i σ' H',Inv X pins σ' H' s7/\tn i s7.heap/\(∀b∈fp,H' b=none)/\W i m σ' H':=λ{σ7 H7} I7 n7=>by
   obtain⟨m',hm,w7⟩:=hN σ7 H7 n7
   refine⟨m',hm,i + 1,σ7,H7,I7.unpinned,T.keep _ _ _ st5 λb hb o e=>(I7.pin (b,o) (Oo _ (Oo _ (jF hb e)))).1,λb hb=>?_,w7⟩
   obtain⟨o,e,d⟩:=T.obj _ _ st5 b hb
   exact (I7.pin (b,o) (Oo _ (Oo _ (jF hb e)))).2.1
  cases f with
  |next=>obtain⟨σ7,H7,I7,n7⟩:=q7;exact again I7 n7
  |cont=>obtain⟨σ7,H7,I7,n7⟩:=q7;exact again I7 n7
  |brk=>obtain⟨σ7,H7,I7,q7⟩:=q7;exact⟨σ7,H7,I7.unpinned,q7⟩
  |ret v=>obtain⟨x7,σ7,H7,I7,r7,q7⟩:=q7;exact⟨x7,σ7,H7,I7.unpinned,r7,q7⟩
end
def vg {K:Frag}{a:Addr}{xs:List V}{g:TG}{tb:TS}{D:Ends}{σ:St}{H:Hp}(Pv:Nat->St->Hp->Prop)(h0:Pv 0 σ H)(hl:∀i σ H,i<=xs.length->Pv i σ H->fj K H a xs)
  (hs:∀i x σ H,xs[i]? =some x->Pv i σ H->g x σ H λσ2 H2=>tb {D with nx:=Pv (i + 1),ct:=Pv (i + 1),bk:=D.nx} σ2 H2) (hd:∀σ H,Pv xs.length σ H->D.nx σ H) :
  ∃W:Nat->Nat->St->Hp->Prop,(∃m,W 0 m σ H)/\∀i m σ H,W i m σ H->
   ((A2 K a).stop i H/\D.nx σ H)\/((A2 K a).go i H/\∃N:St->Hp->Prop,(∀σ' H',N σ' H'->∃m',m' < m/\W (i + 1) m' σ' H')/\∀x H',(A2 K a).yld i H x H'->g x σ H' λσ2 H2=>tb {D with nx:=N,ct:=N,bk:=D.nx} σ2 H2):=by
 refine⟨λi m σ H=>m=xs.length - i/\i<=xs.length/\Pv i σ H,⟨xs.length,by simp,Oh _,h0⟩,?_⟩
 rintro i m σ H ⟨rfl,hi,p⟩
 have q:=hl i σ H hi p
 by_cases hlt:i < xs.length
 ·refine .inr ⟨⟨xs,xs[i],q,by simp[hlt]⟩,Pv (i + 1),λσ' H' p'=>⟨xs.length - (i + 1),by omega,rfl,hlt,p'⟩,λx H' y=>?_⟩
  obtain⟨e,y⟩:=y
  subst e
  exact hs i x σ _ (y xs q) p
 ·have e:i=xs.length:=by omega
  subst e
  exact .inl ⟨⟨xs,q,NH _⟩,hd σ H p⟩
def EI {K:Frag}{a:Addr}{xs:List V}{g:TG}{tb:TS}{D:Ends}{σ:St}{H:Hp}(Pv:Nat->St->Hp->Prop)(h0:Pv 0 σ H)(hl:∀i σ H,i<=xs.length->Pv i σ H->dU K H a xs)
  (hs:∀i x σ H,xs[i]? =some x->Pv i σ H->g x σ H λσ2 H2=>tb {D with nx:=Pv (i + 1),ct:=Pv (i + 1),bk:=D.nx} σ2 H2) (hd:∀σ H,Pv xs.length σ H->D.nx σ H) :
  ∃W:Nat->Nat->St->Hp->Prop,(∃m,W 0 m σ H)/\∀i m σ H,W i m σ H->
   ((GL K a).stop i H/\D.nx σ H)\/((GL K a).go i H/\∃N:St->Hp->Prop,(∀σ' H',N σ' H'->∃m',m' < m/\W (i + 1) m' σ' H')/\∀x H',(GL K a).yld i H x H'->g x σ H' λσ2 H2=>tb {D with nx:=N,ct:=N,bk:=D.nx} σ2 H2):=by
 refine⟨λi m σ H=>m=xs.length - i/\i<=xs.length/\Pv i σ H,⟨xs.length,by simp,Oh _,h0⟩,?_⟩
 rintro i m σ H ⟨rfl,hi,p⟩
 have q:=hl i σ H hi p
 by_cases hlt:i < xs.length
 ·refine .inr ⟨⟨xs,xs[i],q,by simp[hlt]⟩,Pv (i + 1),λσ' H' p'=>⟨xs.length - (i + 1),by omega,rfl,hlt,p'⟩,λx H' y=>?_⟩
  obtain⟨e,y⟩:=y
  subst e
  exact hs i x σ _ (y xs q) p
 ·have e:i=xs.length:=by omega
  subst e
  exact .inl ⟨⟨xs,q,NH _⟩,hd σ H p⟩
def AQ {lo:Int}{n:Nat}{g:TG}{tb:TS}{D:Ends}{σ:St}{H:Hp}(Pv:Nat->St->Hp->Prop)(h0:Pv 0 σ H)
  (hs:∀i σ H,i < n->Pv i σ H->g (.int (lo + i)) σ H λσ2 H2=>tb {D with nx:=Pv (i + 1),ct:=Pv (i + 1),bk:=D.nx} σ2 H2) (hd:∀σ H,Pv n σ H->D.nx σ H) :
  ∃W:Nat->Nat->St->Hp->Prop,(∃m,W 0 m σ H)/\∀i m σ H,W i m σ H->
   ((BC lo n).stop i H/\D.nx σ H)\/((BC lo n).go i H/\∃N:St->Hp->Prop,(∀σ' H',N σ' H'->∃m',m' < m/\W (i + 1) m' σ' H')/\∀x H',(BC lo n).yld i H x H'->g x σ H' λσ2 H2=>tb {D with nx:=N,ct:=N,bk:=D.nx} σ2 H2):=by
 refine⟨λi m σ H=>m=n - i/\i<=n/\Pv i σ H,⟨n,by simp,Oh _,h0⟩,?_⟩
 rintro i m σ H ⟨rfl,hi,p⟩
 by_cases hlt:i < n
 ·refine .inr ⟨hlt,Pv (i + 1),λσ' H' p'=>⟨n - (i + 1),by omega,rfl,hlt,p'⟩,λx H' y=>?_⟩
  obtain⟨e,y⟩:=y
  subst e y
  exact hs i σ _ hlt p
 ·have e:i=n:=by omega
  subst e
  exact .inl ⟨NH _,hd σ H p⟩
abbrev R2:=V->V->Hp->VK->Prop
def kg (X:Cx)(f:Value->Value->Sem Value)(r:R2):Prop:=
 ∀(pins:List (Addr×Obj)) (s:Shared) (σ:St) (H:Hp) (x y:V) (v u:Value) (Q:VK),Inv X pins σ H s->RelV x v->RelV y u->r x y H Q->
  wpAny (model X.prog X.w) X.A (f v u) (EP X pins σ Q) X.xe s
def Lq (X:Cx)(f:Value->Sem Value)(r:V->Hp->VK->Prop):Prop:=
 ∀(pins:List (Addr×Obj)) (s:Shared) (σ:St) (H:Hp) (x:V) (v:Value) (Q:VK),Inv X pins σ H s->RelV x v->r x H Q->
  wpAny (model X.prog X.w) X.A (f v) (EP X pins σ Q) X.xe s
def cB (X:Cx)(f:Value)(r:List V->Hp->VK->Prop):Prop:=
 ∀(pins:List (Addr×Obj)) (s:Shared) (σ:St) (H:Hp) (xs:List V) (us:List Value) (Q:VK),Inv X pins σ H s->Vals xs us->r xs H Q->
  wpAny (model X.prog X.w) X.A (call f us) (EP X pins σ Q) X.xe s
def Mi (X:Cx)(r:V->Hp->(Bool->Hp->Prop)->Prop):Prop:=
 ∀(pins:List (Addr×Obj)) (s:Shared) (σ:St) (H:Hp) (x:V) (v:Value) (Q:Bool->Hp->Prop),Inv X pins σ H s->RelV x v->r x H Q->
  wpAny (model X.prog X.w) X.A (truthy v) (TP X pins σ Q) X.xe s
def LI (r:R2)(ta tb:TE):TE:=λσ H Q=>ta σ H λx H1=>tb σ H1 λy H2=>r x y H2 Q
def Nh (r:V->Hp->VK->Prop)(ta:TE):TE:=λσ H Q=>ta σ H λx H1=>r x H1 Q
def rI (C:Int->Int->Prop)(g:Int->Int->V):R2:=λx y H Q=>∃i j,x=.int i/\y=.int j/\C i j/\Q (g i j) H
def tL (g:Int->Int->V):R2:=λx y H Q=>∃i j,x=.int i/\y=.int j/\Q (g i j) H
def rU (g:Int->V):V->Hp->VK->Prop:=λx H Q=>∃i,x=.int i/\Q (g i) H
section
variable {X:Cx}{a b c:Expr}{ta tb tc:TE}{pos:Pos}
def HB (ha:PE X a ta)(hb:PE X b tb){pins:List (Addr×Obj)}{s:Shared}{σ:St}{H:Hp}{R:V->V->Hp->Prop}(I:Inv X pins σ H s)
  (h:ta σ H λx H1=>tb σ H1 λy H2=>R x y H2) {Q:Value->Shared->Prop} {f:Value->Value->Sem Value}
  (hf:∀v u s2 x y H2,Inv X pins σ H2 s2->RelV x v->RelV y u->R x y H2->wpAny (model X.prog X.w) X.A (f v u) Q X.xe s2) :
  wpAny (model X.prog X.w) X.A (eval a X.env) (λv s₁=>wpAny (model X.prog X.w) X.A (eval b X.env) (λu s₂=>wpAny (model X.prog X.w) X.A (f v u) Q X.xe s₂) X.xe s₁) X.xe s:=by
 refine cx (ha pins s σ H _ I h) λv s1 ⟨x,H1,I1,r1,q1⟩=>?_
 refine cx (hb pins s1 σ H1 _ I1 q1) λu s2 ⟨y,H2,I2,r2,q2⟩=>?_
 exact hf v u s2 x y H2 I2 r1 r2 q2
def oB {op:Operator}{r:R2}(ho:kg X (binaryOp op) r)(ha:PE X a ta)(hb:PE X b tb):PE X (.BinOp a op b pos) (LI r ta tb):=by
 intro pins s σ H Q I h
 exact wpAny_BinOp (HB ha hb I h λv u s2 x y H2 I2 rx ry q=>ho pins s2 σ H2 x y v u Q I2 rx ry q)
def K2 {op:UnaryOp}{r:V->Hp->VK->Prop}(ho:Lq X (unaryOp op) r)(ha:PE X a ta):PE X (.UnaryOp op a pos) (Nh r ta):=by
 intro pins s σ H Q I h
 exact UnaryOp_ (cx (ha pins s σ H _ I h) λv s1 ⟨x,H1,I1,r1,q1⟩=>ho pins s1 σ H1 x v Q I1 r1 q1)
def JP {f:Value->Value->Sem Value}{C:Int->Int->Prop}{g:Int->Int->Int}
  (rule:∀(i j:Int) (t u:Tok) (s:Shared) (Q:Value->Shared->Prop) (E:Value->Shared->Prop),C i j->Q (.int (g i j) s.toks) {s with toks:=s.toks + 1}->wpAny (model X.prog X.w) X.A (f (.int i t) (.int j u)) Q E s) :
  kg X f (rI C λi j=>.int (g i j)):=by
 intro pins s σ H x y v u Q I rx ry h
 obtain⟨i,j,rfl,rfl,hc,q⟩:=h
 obtain⟨t,rfl⟩:=rx
 obtain⟨t',rfl⟩:=ry
 exact rule i j t t' s _ _ hc ⟨.int (g i j),H,I.tok _,⟨_,rfl⟩,q⟩
def Fd {f:Value->Value->Sem Value}{g:Int->Int->Int}
  (rule:∀(i j:Int) (t u:Tok) (s:Shared) (Q:Value->Shared->Prop) (E:Value->Shared->Prop),Q (.int (g i j) s.toks) {s with toks:=s.toks + 1}->wpAny (model X.prog X.w) X.A (f (.int i t) (.int j u)) Q E s) :
  kg X f (tL λi j=>.int (g i j)):=by
 intro pins s σ H x y v u Q I rx ry h
 obtain⟨i,j,rfl,rfl,q⟩:=h
 obtain⟨t,rfl⟩:=rx
 obtain⟨t',rfl⟩:=ry
 exact rule i j t t' s _ _ ⟨.int (g i j),H,I.tok _,⟨_,rfl⟩,q⟩
def Fe {f:Value->Value->Sem Value}{g:Int->Int->Bool}
  (rule:∀(i j:Int) (t u:Tok) (s:Shared) (Q:Value->Shared->Prop) (E:Value->Shared->Prop),Q (.bool (g i j)) s->wpAny (model X.prog X.w) X.A (f (.int i t) (.int j u)) Q E s) :
  kg X f (tL λi j=>.bl (g i j)):=by
 intro pins s σ H x y v u Q I rx ry h
 obtain⟨i,j,rfl,rfl,q⟩:=h
 obtain⟨t,rfl⟩:=rx
 obtain⟨t',rfl⟩:=ry
 exact rule i j t t' s _ _ ⟨.bl (g i j),H,I,rfl,q⟩
def ES (i j:Int):Prop:=0 < j/\j < 1073741824
def DY (i j:Int):Prop:=0<=j/\j<=1000000/\i.natAbs < 2 ^ 64
def Dv (i j:Int):Prop:=(-(2 ^ 64) < i/\i < 2 ^ 64)\/(-(2 ^ 64) < j/\j < 2 ^ 64)
def Dv.ok {i j:Int}(h:Dv i j):IntMulOk i j:=by
 rcases h with⟨h1,h2⟩ | ⟨h1,h2⟩
 ·exact .of_left (intBits_le_64 h1 h2)
 ·exact .of_right (intBits_le_64 h1 h2)
def iW:kg X (binaryOp .Add) (tL λi j=>.int (i + j)):=Fd λ_ _ _ _ _ _ _ q=>add_int q
def pV:kg X (binaryOp .Sub) (tL λi j=>.int (i - j)):=Fd λ_ _ _ _ _ _ _ q=>sub_int q
def kB:kg X (binaryOp .Mult) (rI Dv λi j=>.int (i * j)):=JP λ_ _ _ _ _ _ _ hc q=>mul_int q hc.ok
def mX:kg X (binaryOp .FloorDiv) (rI ES λi j=>.int (i / j)):=JP λi j _ _ _ _ _ hc q=>by
 have h1:(0:Int) < j:=hc.1
 have h2:j < 1073741824:=hc.2
 exact floordiv_int (by omega) (by rw[Int.fdiv_eq_ediv_of_nonneg i (by omega)];exact q) (.inl (PyProof.noPylong_small (by omega)))
def lL:kg X (binaryOp .Mod) (rI (λ_ j=>0 < j) λi j=>.int (i % j)):=JP λi j _ _ _ _ _ hc q=>by
 have h1:(0:Int) < j:=hc
 exact mod_int' (by omega) (by rw[Int.fmod_eq_emod_of_nonneg i (by omega)];exact q)
def De:kg X (binaryOp .Pow) (rI DY λi j=>.int (i ^ j.toNat)):=JP λ_ _ _ _ _ _ _ hc q=>pow_int_small hc.1 hc.2.1 hc.2.2 q
def Em:kg X (binaryOp .LShift) (rI DY λi j=>.int (i * 2 ^ j.toNat)):=JP λ_ _ _ _ _ _ _ hc q=>lshift_int_small hc.1 hc.2.1 hc.2.2 q
def IZ:kg X (binaryOp .BitAnd) (tL λi j=>.int (Builtin.bitAnd i j)):=Fd λ_ _ _ _ _ _ _ q=>and_int q
def JU:kg X (binaryOp .BitOr) (tL λi j=>.int (Builtin.bitOr i j)):=Fd λ_ _ _ _ _ _ _ q=>or_int q
def Nf {f:Value->Sem Value}{g:Int->Int}
  (rule:∀(i:Int) (t:Tok) (s:Shared) (Q:Value->Shared->Prop) (E:Value->Shared->Prop),Q (.int (g i) s.toks) {s with toks:=s.toks + 1}->wpAny (model X.prog X.w) X.A (f (.int i t)) Q E s) :
  Lq X f (rU λi=>.int (g i)):=by
 intro pins s σ H x v Q I rx h
 obtain⟨i,rfl,q⟩:=h
 obtain⟨t,rfl⟩:=rx
 exact rule i t s _ _ ⟨.int (g i),H,I.tok _,⟨_,rfl⟩,q⟩
def oi:Lq X (unaryOp .USub) (rU λi=>.int (-i)):=Nf λ_ _ _ _ _ q=>neg_int q
end
def MI:V->V->Bool
 | .non,.non=>true | .non,.int _=>true | .int _,.non=>true | .non,.bl _=>true | .bl _,.non=>true | .non,.str _=>true | .str _,.non=>true
 | .int _,.int _=>true | .bl _,.bl _=>true | .str _,.str _=>true | .byt _,.byt _=>true
 | .int _,.str _=>true | .str _,.int _=>true | .bl _,.str _=>true | .str _,.bl _=>true
 |_,_=>false
def Nq:R2:=λx y H Q=>MI x y=true/\Q (.bl (!decide (x=y))) H
def FP {i j:Int}:decide (V.int i=V.int j)=(i == j):=by
 rw[Ox]
 simp
def HE {i j:Bool}:decide (V.bl i=V.bl j)=(i == j):=by
 rw[Ox]
 simp
def E9 {i j:Str}:decide (V.str i=V.str j)=(i == j):=by
 rw[Ox]
 simp
def FT {i j:Array UInt8}:decide (V.byt i=V.byt j)=(i.toList == j.toList):=by
 rw[Ox]
 cases i
 cases j
 simp
section
variable {X:Cx}{a b c:Expr}{ta tb tc:TE}{pos:Pos}
def dI {pins:List (Addr×Obj)}{σ:St}{H:Hp}{s:Shared}{Q:VK}{k k':Bool}(I:Inv X pins σ H s)(q:Q (.bl k) H)(e:k=k'):EP X pins σ Q (.bool k') s:=by
 subst e
 exact⟨.bl k,H,I,rfl,q⟩
theorem Kb:kg X (compareOp .NotEq) Nq:=by
 intro pins s σ H x y v u Q I rx ry h
 obtain⟨hs,q⟩:=h
 cases x with
 |non=>
  cases rx
  cases y with
  |non=>cases ry;exact PySem.EqNone.ne_none_none (dI I q (by simp))
  |bl j=>cases ry;exact PySem.EqNone.ne_none_bool (dI I q (by simp))
  |int j=>obtain⟨t',rfl⟩:=ry;exact PySem.EqNone.ne_none_int (dI I q (by simp))
  |str j=>obtain⟨t',rfl⟩:=ry;exact PySem.EqNone.ne_none_str (dI I q (by simp))
  |_=>exact absurd (show false=true from hs) NY
 |bl i=>
  cases rx
  cases y with
  |non=>cases ry;exact PySem.EqNone.ne_bool_none (dI I q (by simp))
  |bl j=>cases ry;exact ne_bool (dI I q (congrArg not HE))
  |str j=>obtain⟨t',rfl⟩:=ry;exact PySem.EqMixed.ne_bool_str (dI I q (by simp))
  |_=>exact absurd (show false=true from hs) NY
 |int i=>
  obtain⟨t,rfl⟩:=rx
  cases y with
  |non=>cases ry;exact PySem.EqNone.ne_int_none (dI I q (by simp))
  |int j=>obtain⟨t',rfl⟩:=ry;exact ne_int (dI I q (congrArg not FP))
  |str j=>obtain⟨t',rfl⟩:=ry;exact PySem.EqMixed.ne_int_str (dI I q (by simp))
  |_=>exact absurd (show false=true from hs) NY
 |str i=>
  obtain⟨t,rfl⟩:=rx
  cases y with
  |non=>cases ry;exact PySem.EqNone.ne_str_none (dI I q (by simp))
  |bl j=>cases ry;exact PySem.EqMixed.ne_str_bool (dI I q (by simp))
  |int j=>obtain⟨t',rfl⟩:=ry;exact PySem.EqMixed.ne_str_int (dI I q (by simp))
  |str j=>obtain⟨t',rfl⟩:=ry;exact ne_str (dI I q (congrArg not E9))
  |_=>exact absurd (show false=true from hs) NY
 |byt i=>
  obtain⟨t,rfl⟩:=rx
  cases y with
  |byt j=>obtain⟨t',rfl⟩:=ry;exact PySem.W.ne_bytes (dI I q (congrArg not FT))
  |_=>exact absurd (show false=true from hs) NY
 |_=>cases y <;> exact absurd (show false=true from hs) NY
def wc:kg X (compareOp .Lt) (tL λi j=>.bl (decide (i < j))):=Fe λ_ _ _ _ _ _ _ q=>lt_int q
def Ct:kg X (compareOp .LtE) (tL λi j=>.bl (decide (i<=j))):=Fe λ_ _ _ _ _ _ _ q=>le_int q
def KR:kg X (compareOp .Gt) (tL λi j=>.bl (decide (j < i))):=Fe λ_ _ _ _ _ _ _ q=>gt_int q
def Kl:kg X (compareOp .GtE) (tL λi j=>.bl (decide (j<=i))):=Fe λ_ _ _ _ _ _ _ q=>ge_int q
def bw (b:Expr){op:CmpOp}(h:op≠.In:=by decide)(h2:op≠.NotIn:=by decide):behindInMarks op b=false:=by
 have e1:(op == CmpOp.In)=false:=by cases op <;> first |rfl |exact absurd rfl h
 have e2:(op == CmpOp.NotIn)=false:=by cases op <;> first |rfl |exact absurd rfl h2
 cases b <;> simp[behindInMarks,e1,e2]
def FG {op:CmpOp}{r:R2}(ho:kg X (compareOp op) r)(ha:PE X a ta)(hb:PE X b tb)(hm:behindInMarks op b=false):PE X (.Compare a [op] [b] pos) (LI r ta tb):=by
 intro pins s σ H Q I h
 exact wpAny_Compare1 (HB ha hb I h λv u s2 x y H2 I2 rx ry q=>ho pins s2 σ H2 x y v u Q I2 rx ry q) hm
def Kc (t:TE):TT:=λσ H Q=>t σ H λx H'=>∃k,x=.bl k/\Q k H'
def zw {op:CmpOp}{r:R2}(ho:kg X (compareOp op) r)(ha:PE X a ta)(hb:PE X b tb)(hm:behindInMarks op b=false):PT X (.Compare a [op] [b] pos) (Kc (LI r ta tb)):=by
 intro pins s σ H Q I h
 refine wpAny_isTrue_Compare1 (cx (ha pins s σ H _ I h) λv s1 ⟨x,H1,I1,r1,q1⟩=>cx (hb pins s1 σ H1 _ I1 q1) λu s2 ⟨y,H2,I2,r2,q2⟩=>
  cx (ho pins s2 σ H2 x y v u _ I2 r1 r2 q2) λc s3 ⟨z,H3,I3,r3,k,e,q3⟩=>?_) hm
 subst e
 cases r3
 exact O7 ⟨H3,I3,q3⟩
def IJ (r r':R2)(ta tb tc:TE):TE:=λσ H Q=>ta σ H λx H1=>tb σ H1 λy H2=>r x y H2 λz H3=>∃k,z=.bl k/\
 (if k=true then tc σ H3 λw' H4=>r' y w' H4 Q else Q (.bl false) H3)
theorem Cu {op op':CmpOp}{r r':R2}(ho:kg X (compareOp op) r)(ho':kg X (compareOp op') r')(ha:PE X a ta)(hb:PE X b tb)(hc:PE X c tc)
  (hm:lastMarks [op,op'] [b,c]=false:=by with_unfolding_all rfl):PE X (.Compare a [op,op'] [b,c] pos) (IJ r r' ta tb tc):=by
 intro pins s σ H Q I h
 refine Compare_chain (cx (ha pins s σ H _ I h) λv s1 ⟨x,H1,I1,r1,q1⟩=>chain_link (cx (hb pins s1 σ H1 _ I1 q1) λu s2 ⟨y,H2,I2,r2,q2⟩=>
  cx (ho pins s2 σ H2 x y v u _ I2 r1 r2 q2) λd s3 ⟨z,H3,I3,r3,k,e,q3⟩=>?_)) hm
 subst e
 cases r3
 refine O7 ?_
 cases k with
 |false=>exact ite_ff ⟨.bl false,H3,I3,rfl,q3⟩
 |true=>exact ite_tt (chain_last (cx (hc pins s3 σ H3 _ I3 q3) λw' s4 ⟨z',H4,I4,r4,q4⟩=>ho' pins s4 σ H4 y z' u w' Q I4 r2 r4 q4))
def J0 (K:Frag)(x:V)(H:Hp)(k:Bool):Prop:=
 match x with
 | .non=>k=false
 | .bl b=>k=b
 | .int i=>k=(i != 0)
 | .str y=>y.length<=sizeLine/\k=((y.length:Int) != 0)
 | .byt y=>y.size<=sizeLine/\k=((y.size:Int) != 0)
 | .ref p=>(∃xs,fj K H p xs/\k= !xs.isEmpty)\/(∃xs,dU K H p xs/\k= !xs.isEmpty)\/∃kvs,H p=some (.dK kvs)/\k= !kvs.isEmpty
 |_=>False
def yI {κ:Type}{kvs:List (κ×V)}{vs:List (κ×Value)}(r:KV kvs vs):(!vs.isEmpty)= !kvs.isEmpty:=by
 cases r <;> rfl
def pU {xs:List V}{its:List Value}(r:Vals xs its):(!its.toArray.isEmpty)= !xs.isEmpty:=by
 cases r <;> simp
def nX:(sizeLine:Nat) < 2 ^ 63:=by rw[N8];decide
theorem HN:Mi X (λx H Q=>∃k,J0 X.K x H k/\Q k H):=by
 intro pins s σ H x v Q I rx h
 obtain⟨k,e,q⟩:=h
 have hl:=nX
 have hs:sizeLine=16777216:=N8
 cases x with
 |non=>
  cases rx
  have e':k=false:=e
  subst e'
  exact truthy_none ⟨H,I,q⟩
 |bl b=>
  cases rx
  have e':k=b:=e
  subst e'
  exact O7 ⟨H,I,q⟩
 |int i=>
  obtain⟨t,rfl⟩:=rx
  have e':k=(i != 0):=e
  subst e'
  exact PySem.P.truthy_int ⟨H,I,q⟩
 |str y=>
  obtain⟨t,rfl⟩:=rx
  obtain⟨hy,e'⟩:y.length<=sizeLine/\k=((y.length:Int) != 0):=e
  subst e'
  exact PySem.P.truthy_str (by omega) ⟨H,I.tok _,q⟩
 |byt y=>
  obtain⟨t,rfl⟩:=rx
  obtain⟨hy,e'⟩:y.size<=sizeLine/\k=((y.size:Int) != 0):=e
  subst e'
  exact PySem.W.truthy_bytes (by omega) ⟨H,I.tok _,q⟩
 |ref p=>
  cases rx
  have e':(∃xs,fj X.K H p xs/\k= !xs.isEmpty)\/(∃xs,dU X.K H p xs/\k= !xs.isEmpty)\/∃kvs,H p=some (.dK kvs)/\k= !kvs.isEmpty:=e
  rcases e' with⟨xs,hx,e'⟩ | ⟨xs,hx,e'⟩ | ⟨kvs,hx,e'⟩
  ·subst e'
   obtain⟨its,r,pl,hz⟩:=I.list hx
   have hlen:=r.length
   exact wpAny_truthy_list pl.isList (by simp only[NS];omega) ⟨H,I.tok _,by rw[pU r];exact q⟩
  ·subst e'
   obtain⟨its,r,pl,hz⟩:=I.tuple hx
   have hlen:=r.length
   exact truthy_tuple pl (by simp only[NS];omega) ⟨H,I.tok _,by rw[pU r];exact q⟩
  ·subst e'
   obtain⟨hz,hS,vs,r,m⟩:kvs.length<=sizeLine/\(p == sysModules)=false/\∃vs,KV kvs vs/\s.heap.DictOf (eM X.prog X.w) p vs:=I.hok p _ hx
   have hlen:kvs.length=vs.length:=Paired.length r
   exact wpAny_truthy_dict hS m (by omega) ⟨H,I.tok _,by rw[yI r];exact q⟩
 |_=>exact (show False from e).elim
def Co (ha:PE X a ta)(he:∀whole,isTrue a X.env whole=(do let v <-whole;standAt a.pos;holding [v] (truthy v))) :
  PT X a (λσ H Q=>ta σ H λx H'=>∃k,J0 X.K x H' k/\Q k H'):=by
 intro pins s σ H Q I h
 exact isTrue_plain (cx (ha pins s σ H _ I h) λv s1 ⟨x,H1,I1,r1,q1⟩=>HN pins s1 σ H1 x v Q I1 r1 q1) (he _)
theorem vals1 {x:V}{us:List Value}(r:Vals [x] us):∃u,us= [u]/\RelV x u:=by
 cases r with
 |cons r1 r2=>cases r2;exact⟨_,rfl,r1⟩
theorem vals2 {x y:V}{us:List Value}(r:Vals [x,y] us):∃u w',us= [u,w']/\RelV x u/\RelV y w':=by
 cases r with
 |cons r1 r2=>
  cases r2 with
  |cons r3 r4=>cases r4;exact⟨_,_,rfl,r1,r3⟩
def DC:cB X (.builtin "abs") (λxs H Q=>∃i,xs= [.int i]/\Q (.int (if i < 0 then -i else i)) H):=by
 intro pins s σ H xs us Q I r h
 obtain⟨i,rfl,q⟩:=h
 obtain⟨u,rfl,t,rfl⟩:=vals1 r
 exact call_abs_int λu tk=>⟨.int (if i < 0 then -i else i),H,I.tok _,⟨_,rfl⟩,q⟩
def Bq (hc:X.calm=true):cB X (.builtin "max") (λxs H Q=>∃i j,xs= [.int i,.int j]/\Q (.int (if j > i then j else i)) H):=by
 intro pins s σ H xs us Q I r h
 obtain⟨i,j,rfl,q⟩:=h
 obtain⟨u,w',rfl,⟨t,rfl⟩,⟨t',rfl⟩⟩:=vals2 r
 refine max_two_ints (I.ok.hd hc) λh' tk k=>⟨_,H,I.kept k,?_,q⟩
 by_cases hj:j > i
 ·rw[NG hj,NG hj];exact⟨_,rfl⟩
 ·rw[NL hj,NL hj];exact⟨_,rfl⟩
def Bu (hc:X.calm=true):cB X (.builtin "min") (λxs H Q=>∃i j,xs= [.int i,.int j]/\Q (.int (if j < i then j else i)) H):=by
 intro pins s σ H xs us Q I r h
 obtain⟨i,j,rfl,q⟩:=h
 obtain⟨u,w',rfl,⟨t,rfl⟩,⟨t',rfl⟩⟩:=vals2 r
 refine min_two_ints (I.ok.hd hc) λh' tk k=>⟨_,H,I.kept k,?_,q⟩
 by_cases hj:j < i
 ·rw[NG hj,NG hj];exact⟨_,rfl⟩
 ·rw[NL hj,NL hj];exact⟨_,rfl⟩
def Kr (K:Frag)(x:V)(H:Hp)(n:Nat):Prop:=
 match x with
 | .str y=>y.length<=sizeLine/\n=y.length
 | .byt y=>y.size<=sizeLine/\n=y.size
 | .ref p=>(∃xs,fj K H p xs/\n=xs.length)\/∃xs,dU K H p xs/\n=xs.length
 |_=>False
theorem cA:cB X (.builtin "len") (λxs H Q=>∃x n,xs= [x]/\Kr X.K x H n/\Q (.int n) H):=by
 intro pins s σ H xs us Q I r h
 obtain⟨x,n,rfl,e,q⟩:=h
 obtain⟨u,rfl,rx⟩:=vals1 r
 have hl:=nX
 have hs:sizeLine=16777216:=N8
 cases x with
 |str y=>
  obtain⟨t,rfl⟩:=rx
  obtain⟨hy,e'⟩:y.length<=sizeLine/\n=y.length:=e
  subst e'
  exact len_str (by omega) ⟨.int _,H,I.tok _,⟨_,rfl⟩,q⟩
 |byt y=>
  obtain⟨t,rfl⟩:=rx
  obtain⟨hy,e'⟩:y.size<=sizeLine/\n=y.size:=e
  subst e'
  exact PySem.W.len_bytes (by omega) ⟨.int _,H,I.tok _,⟨_,rfl⟩,q⟩
 |ref p=>
  cases rx
  have e':(∃xs,fj X.K H p xs/\n=xs.length)\/∃xs,dU X.K H p xs/\n=xs.length:=e
  rcases e' with⟨xs,hx,e'⟩ | ⟨xs,hx,e'⟩
  ·subst e'
   obtain⟨its,r',pl,hz⟩:=I.list hx
   have hlen:=r'.length
   exact Calls.call_len_list pl.isList (by simp only[NS];omega) ⟨.int xs.length,H,I.tok _,⟨_,by simp only[NS];rw[hlen]⟩,q⟩
  ·subst e'
   obtain⟨its,r',pl,hz⟩:=I.tuple hx
   have hlen:=r'.length
   exact len_tuple pl (by simp only[NS];omega) ⟨.int xs.length,H,I.tok _,⟨_,by simp only[NS];rw[hlen]⟩,q⟩
 |_=>exact (show False from e).elim
def vB:cB X (.builtin "divmod") (λxs H Q=>∃i j,xs= [.int i,.int j]/\ES i j/\∀p,H p=none->Q (.ref p) (upd H p (.tup [.int (i / j),.int (i % j)]))):=by
 intro pins s σ H xs us Q I r h
 obtain⟨i,j,rfl,⟨h1,h2⟩,q⟩:=h
 obtain⟨u,w',rfl,⟨t,rfl⟩,⟨t',rfl⟩⟩:=vals2 r
 refine divmod_int (by omega) ?_ (.inl (PyProof.noPylong_small (by omega)))
 rw[Int.fdiv_eq_ediv_of_nonneg i (by omega),Int.fmod_eq_emod_of_nonneg i (by omega)]
 have hn:H s.heap.objs.size=none:=I.hok.fresh (NH _)
 refine⟨.ref s.heap.objs.size,_,?_,rfl,q _ hn⟩
 refine I.laid (λb o e=>ND _ e) (NH _) ⟨by simp only[N0,Qn];rw[N8];decide,[.int (i / j) s.toks,.int (i % j) (s.toks + 1)],.cons ⟨_,rfl⟩ (.cons ⟨_,rfl⟩ .nil),?_⟩
 exact⟨_,NQ s.heap rfl,rfl,0,rfl,rfl⟩
end
structure HQ (h:Heap)(x dx C:Addr)(mA:Str->Option Value):Prop where
 obj:h.get? x=some (PySem.W.instObj C dx)
 ns:h.Ns1 dx mA
 ne:dx≠x
def Ac {h:Heap}{dx:Addr}{mA:Str->Option Value}(n:h.Ns1 dx mA):∃od,h.get? dx=some od/\∀name,PySem.W.lookIn name od=some (mA name):=by
 obtain⟨o,es,ep,ho,hd,hk,_,hm⟩:=n
 refine⟨o,ho,λname=>?_⟩
 have e:=hm name
 unfold nsFind findBy at e
 rw[<-Array.find?_toList] at e
 unfold PySem.W.lookIn
 rw[hd]
 dsimp only
 split
 ·rename_i y q
  rw[q] at e
  exact congrArg some e
 ·rename_i q
  rw[q] at e
  have a:es.toList.any (·.refKey)=false:=by
   rw[List.any_eq_false]
   intro y hy
   obtain⟨z,t,hkey⟩:=hk y (PN.mp hy)
   simp[DictEntry.refKey,hkey]
  have a':¬es.toList.any (·.refKey)=true:=by rw[a];exact NY
  rw[NL a']
  exact congrArg some e
def HQ.look {h:Heap}{x dx C:Addr}{mA:Str->Option Value}(I:HQ h x dx C mA):∃od,PySem.W.InstAt h x (PySem.W.instObj C dx) C (some od)/\∀name,PySem.W.lookIn name od=some (mA name):=
 let ⟨od,ho,hl⟩:=Ac I.ns
 ⟨od,⟨I.obj,rfl,rfl,ho⟩,hl⟩
section
variable {P:Program}{w:World}{H H':Hp}{h h':Heap}{a C dx:Addr}{fs fs':List (Str×V)}
def Fy (hok:kc P w H h)(e:H a=some (.ins C dx fs)):∃mA,HQ h a dx C mA/\(∀f,IT (fs.lookup f) (mA f))/\PySem.Within mA (fs.map (·.1))/\fs.length<=1000/\H dx=some (.own a):=by
 obtain⟨d,z,ne,ob,mA,n,r,q⟩:=(show bN P w H h a (.ins C dx fs) from hok a _ e)
 exact⟨mA,⟨ob,n,ne⟩,r,q,z,d⟩
end
structure MH (K:Frag)(C:Addr):Prop where
 pg:PySem.W.plainGet K C Str.empty=true
 hd:PySem.W.hasDictIn K C=true
 po:PySem.W.plainOver K C=true
 sa:PySem.W.findIn K (.ref C) "__setattr__"=some (some (.builtin "object.__setattr__"))
def MH.get {K:Frag}{C:Addr}(c:MH K C)(f:Str):PySem.W.plainGet K C f=true:=c.pg
section
variable {X:Cx}{pins:List (Addr×Obj)}{σ:St}{H:Hp}{s:Shared}{A:Around}{E:Value->Shared->Prop}{Q:Value->Shared->Prop}{c:Value}{b:Bool}
inductive oO (K:Frag)(H:Hp):V->Value->Prop where
 |non:oO K H .non (.type "NoneType")
 |bl (x:Bool):oO K H (.bl x) (.type "bool")
 |int (i:Int):oO K H (.int i) (.type "int")
 |str (x:Str):oO K H (.str x) (.type "str")
 |flt (x:UInt64):oO K H (.flt x) (.type "float")
 |lst {a:Addr} {xs:List V} (e:H a=some (.lst xs)):oO K H (.ref a) (.type "list")
 |bt {a:Addr} {o:Obj} {xs:List V} (e:H a=some (.bt o (.lst xs))):oO K H (.ref a) (.type "list")
 |tup {a:Addr} {xs:List V} (e:H a=some (.tup xs)):oO K H (.ref a) (.type "tuple")
 |dK {a:Addr} {kvs:List (Key×V)} (e:H a=some (.dK kvs)):oO K H (.ref a) (.type "dict")
 |dT {a:Addr} {kvs:List (List Key×V)} (e:H a=some (.dT kvs)):oO K H (.ref a) (.type "dict")
 |ins {a C dx:Addr} {fs:List (Str×V)} (e:H a=some (.ins C dx fs)) (cl:MH K C) (ha:PySem.W.findIn K (.ref C) "__class__"=some (some (.builtin "object.__class__")))
   (hn:PySem.W.specialIn K (.builtin "object.__class__") "__get__"=some (some (.builtin "getset_descriptor.__get__"))) (htk:PySem.W.takesIn K (.builtin "object.__class__")=some true)
   (hm:PySem.W.mroIn K C (.type "object")=some true):oO K H (.ref a) (.ref C)
theorem jo {x:V}{u t:Value}(I:Inv X pins σ H s)(rx:RelV x u)(ty:oO X.K H x t)(e:PySem.W.kitOne X.K t c=some b)(h:∀tk,Q (.bool b) {s with toks:=tk}) :
  wpAny (model X.prog X.w) A (call (.builtin "isinstance") [u,c]) Q E s:=by
 cases ty with
 |non=>cases (show u=Value.none from rx);exact OA PySem.W.kitx_none I.kIn True.intro e (λz=>nomatch z) h
 |bl y=>cases (show u=Value.bool y from rx);exact OA PySem.W.kitx_bool I.kIn True.intro e (λz=>nomatch z) h
 |int i=>obtain⟨t,q⟩:=(show ∃t,u=Value.int i t from rx);cases q;exact OA PySem.W.kitx_int I.kIn True.intro e (λz=>nomatch z) h
 |str y=>obtain⟨t,q⟩:=(show ∃t,u=Value.str y t from rx);cases q;exact OA PySem.W.kitx_str I.kIn True.intro e (λz=>nomatch z) h
 |flt y=>obtain⟨t,q⟩:=(show ∃t,u=Value.float y t from rx);cases q;exact OA PySem.W.kitx_float I.kIn True.intro e (λz=>nomatch z) h
 | @lst a xs ea=>
  cases (show u=Value.ref a from rx)
  obtain⟨_,_,n,_,h1⟩:=(show bN X.prog X.w H s.heap a (.lst xs) from I.hok a _ ea)
  exact OA PySem.W.kitx_list I.kIn ⟨_,h1,rfl⟩ e (λz=>nomatch z) h
 | @bt a ob xs ea=>
  cases (show u=Value.ref a from rx)
  obtain⟨_,_,_,n,_,h1⟩:=(show bN X.prog X.w H s.heap a (.bt ob (.lst xs)) from I.hok a _ ea)
  exact OA PySem.W.kitx_list I.kIn ⟨_,h1,rfl⟩ e (λz=>nomatch z) h
 | @tup a xs ea=>
  cases (show u=Value.ref a from rx)
  obtain⟨_,_,_,p⟩:=(show bN X.prog X.w H s.heap a (.tup xs) from I.hok a _ ea)
  obtain⟨o,h1,h2,_⟩:=p
  exact OA PySem.W.kitx_tuple I.kIn ⟨o,h1,h2⟩ e (λz=>nomatch z) h
 | @dK a kvs ea=>
  cases (show u=Value.ref a from rx)
  obtain⟨_,_,vs,_,p⟩:=(show bN X.prog X.w H s.heap a (.dK kvs) from I.hok a _ ea)
  obtain⟨o,es,ep,h1,h2,_⟩:=p
  exact OA PySem.W.kitx_dict I.kIn ⟨o,h1,h2.1⟩ e (λz=>nomatch z) h
 | @dT a kvs ea=>
  cases (show u=Value.ref a from rx)
  obtain⟨_,_,xs,_,o,es,ep,h1,h2,_⟩:=(show bN X.prog X.w H s.heap a (.dT kvs) from I.hok a _ ea)
  exact OA PySem.W.kitx_dict I.kIn ⟨o,h1,h2.1⟩ e (λz=>nomatch z) h
 | @ins a C dx fs ea cl ha hn htk hm=>
  cases (show u=Value.ref a from rx)
  obtain⟨mA,O,_⟩:=Fy I.hok ea
  obtain⟨od,J,_⟩:=O.look
  exact OA (PySem.W.kitx_own (cl.get _) cl.hd ha hn htk hm) I.kIn J e (λz=>nomatch z) h
end
structure dZ (k:Nat)(A:Around):Prop where
 hd:A.handled=none
 dp:A.depth + 3 * k + 5 < recursionLimit
 un:A.units + 16 * k + 200 < cLine
 gd:A.guards=some []
def dZ.mono {j k:Nat}{A:Around}(r:dZ k A)(h:j<=k):dZ j A:=⟨r.hd,by have:=r.dp;omega,by have:=r.un;omega,r.gd⟩
def dZ.deeper {k:Nat}{A:Around}(r:dZ (k + 1) A)(env:Env):dZ k (A.deeper env):=
 ⟨r.hd,by have:=r.dp;show A.depth + 1 + 3 * k + 5 < _;omega,by have:=r.un;show A.units + 3 + 16 * k + 200 < _;omega,r.gd⟩
def dZ.depth {k:Nat}{A:Around}(r:dZ k A):A.depth < recursionLimit:=by have:=r.dp;omega
def dZ.units {k:Nat}{A:Around}(r:dZ k A):A.units + 64 < cLine:=by have:=r.un;omega
def LW:TA:=λ_ H Q=>Q [] H
def KC (ta:TE)(tr:TA):TA:=λσ H Q=>ta σ H λx H1=>tr σ H1 λxs H2=>Q (x :: xs) H2
section
variable {X:Cx}{e:Expr}{es:List Expr}{te:TE}{t:TA}{pos:Pos}
def aN:PA X [] LW:=λ_ _ _ _ H Q I h=>Calls.spliced_nil ⟨[],H,I,.nil,h⟩
def ak (ha:PE X e te)(hr:PA X es t)(hs:starEach (e :: es) X.env=(false,eval e X.env) :: starEach es X.env:=by rfl):PA X (e :: es) (KC te t):=by
 intro pos pins s σ H Q I h
 rw[hs]
 show wpAny _ _ (spliced ((false,eval e X.env) :: backTo pos (starEach es X.env))) _ _ s
 refine Calls.spliced_cons (cx (ha pins s σ H _ I h) λu s1 ⟨x,H1,I1,r1,q1⟩=>?_)
 exact cx (hr pos pins s1 σ H1 _ I1 q1) λus s2 ⟨xs,H2,I2,r2,q2⟩=>⟨x :: xs,H2,I2,.cons r1 r2,q2⟩
def L6 (t:TA):TE:=λσ H Q=>t σ H λxs H1=>xs.length<=sizeLine/\∀p,H1 p=none->Q (.ref p) (upd H1 p (.tup xs))
def Mn (t:TA):TE:=λσ H Q=>t σ H λxs H1=>xs.length<=sizeLine/\∀p,H1 p=none->Q (.ref p) (upd H1 p (.lst xs))
def x8 {x1}(h:PA X es t):PE X (.Tuple es x1 pos) (L6 t):=by
 intro pins s σ H Q I hq
 refine wpAny_Tuple_spliced (cx (h pos pins s σ H _ I hq) λus s1 ⟨xs,H1,I1,r,z,q⟩=>⟨by rw[<-r.length];exact z,?_⟩)
 have hf:H1 s1.heap.objs.size=none:=I1.hok.fresh (NH _)
 refine⟨.ref s1.heap.objs.size,upd H1 s1.heap.objs.size (.tup xs),I1.laid (t':=s1.toks) (λb u e=>ND _ e) (NH _) ?_,rfl,q _ hf⟩
 exact⟨z,us,r,qp.new _ _⟩
def nU (h:PA X es t):PE X (.List es pos) (Mn t):=by
 intro pins s σ H Q I hq
 refine wpAny_List_spliced (cx (h pos pins s σ H _ I hq) λus s1 ⟨xs,H1,I1,r,z,q⟩=>⟨by rw[<-r.length];exact z,?_⟩)
 have hf:H1 s1.heap.objs.size=none:=I1.hok.fresh (NH _)
 refine⟨.ref s1.heap.objs.size,upd H1 s1.heap.objs.size (.lst xs),I1.laid (t':=s1.toks) (λb u e=>ND _ e) (NH _) ?_,rfl,q _ hf⟩
 exact⟨z,us,0,r,NQ _ rfl⟩
end
abbrev Sp:=List V->Hp->VK->XK->Prop
abbrev vP:=List Env->Hp->Shared->XK->Value->Shared->Prop
structure xZ (P:Program)(w:World)(K:Frag)(mg:Str->Option Value)(base:Heap)(A:Around)(outer:List Env)(s:Shared)(H:Hp):Prop where
 frames:A.frames=some outer
 mod:Mod K mg base
 bs:∀b o,base.get? b=some o->s.heap.get? b=some o/\H b=none
 bsz:base.objs.size<=s.heap.objs.size
 funs:s.heap.FunFrames base outer
 frf:∀b∈eO outer,H b=none
 hok:kc P w H s.heap
 bare:AllBare s.gens
def CE (outer:List Env)(P:Program)(w:World)(H:Hp)(s:Shared)(Q:VK)(u:Value)(s':Shared):Prop:=
 ∃v H',s'.os=s.os/\AllBare s'.gens/\Un (eO outer) [] H H' s.heap s'.heap/\kc P w H' s'.heap/\RelV v u/\Q v H'
def CR (CX:vP)(outer:List Env)(P:Program)(w:World)(H:Hp)(s:Shared)(Q:VK)(E:XK)(r:Result)(s':Shared):Prop:=
 match r with
 | .ok (.ret u)=>CE outer P w H s Q u s'
 | .ok _=>False
 | .error e=>CX outer H s E e s'
structure gj (P:Program)(w:World)(K:Frag)(mg:Str->Option Value)(base:Heap)(CX:vP)(k:Nat)(f:Addr)(fd:FuncData)(ps:List Str)(sp:Sp):Prop where
 len:∀vs H Q E,sp vs H Q E->vs.length=ps.length
 run:∀(A:Around) (outer:List Env) (s:Shared) (H:Hp) (args:Args) (us:List Value) (vs:List V) (Q:VK) (E:XK),dZ k A->xZ P w K mg base A outer s H->BindsTo s fd args (ps.zip us)->Vals vs us->sp vs H Q E->
  codeAny (model P w) A (.call (.ref f) args) (CR CX outer P w H s Q E) s
def gj.mono {P:Program}{w:World}{K:Frag}{mg:Str->Option Value}{base:Heap}{CX:vP}{j k:Nat}{f:Addr}{fd:FuncData}{ps:List Str}{sp:Sp}(F:gj P w K mg base CX j f fd ps sp)(h:j<=k) :
  gj P w K mg base CX k f fd ps sp:=⟨F.len,λA outer s H args us vs Q E hr=>F.run A outer s H args us vs Q E (hr.mono h)⟩
def gj.imp {P:Program}{w:World}{K:Frag}{mg:Str->Option Value}{base:Heap}{CX:vP}{k:Nat}{f:Addr}{fd:FuncData}{ps:List Str}{sp sp':Sp}(F:gj P w K mg base CX k f fd ps sp)
  (h:∀vs H Q E,sp' vs H Q E->sp vs H Q E):gj P w K mg base CX k f fd ps sp':=
 ⟨λvs H Q E q=>F.len vs H Q E (h _ _ _ _ q),λA outer s H args us vs Q E hr he hb hv hs=>F.run A outer s H args us vs Q E hr he hb hv (h _ _ _ _ hs)⟩
section
variable {X:Cx}{pins:List (Addr×Obj)}{σ:St}{H:Hp}{s s':Shared}
def Inv.env0 (I:Inv X pins σ H s):xZ X.prog X.w X.K X.mg X.base X.A X.stack s H:=
 ⟨I.ok.frames,I.ok.mod,I.bs,OT I.ok.bsz I.sz,I.stack,I.stkFree,I.hok,I.bare⟩
def Inv.after {Q:VK}{u:Value}(I:Inv X pins σ H s)(h:CE X.stack X.prog X.w H s Q u s'):EP X pins σ Q u s':=by
 obtain⟨v,H',os,bare,un,hok,r,q⟩:=h
 obtain⟨hh,g,d,t,os'⟩:=s'
 obtain rfl:os'=s.os:=os
 exact⟨v,H',I.call (h':=hh) (g':=g) (d':=d) (t':=t) (ch:=[]) un hok bare (λb z=>absurd z (by simp)),r,q⟩
end
def GQ (sp:Sp)(dvs:List V)(E:XK)(t:TA):TE:=λσ H Q=>t σ H λvs H1=>sp (vs ++ dvs) H1 Q E
def Binds (K:Frag)(fd:FuncData)(ps:List Str)(ds:List Value):Prop:=
 ∀(s:Shared) (us:List Value),K.In s.heap->(us ++ ds).length=ps.length->BindsTo s fd ⟨us,[]⟩ (ps.zip (us ++ ds))
def Binds.all {K:Frag}{fd:FuncData}{ps:List Str}(h:∀us:List Value,us.length=ps.length->bindArgs fd ⟨us,[]⟩=pure (ps.zip us)):Binds K fd ps []:=λs us _ hl=>by
 rw[PH] at hl ⊢
 exact .of_eq (h us hl)
def Passes (CX:vP)(X:Cx)(E:XK):Prop:=∀(pins:List (Addr×Obj)) (σ:St) (H:Hp) (s:Shared) (e:Value) (s':Shared),Inv X pins σ H s->CX X.stack H s E e s'->X.xe e s'
section
variable {X:Cx}{CX:vP}{k:Nat}{f C:Addr}{fd:FuncData}{ps:List Str}{sp:Sp}{dvs:List V}{ds:List Value}{E:XK}{x m:Str}{p pos apos:Pos}{e o:Expr}{es:List Expr}{ta:TE}{t:TA}
theorem Im {pins:List (Addr×Obj)}{σ:St}{H:Hp}{s:Shared}{Q:VK}{us:List Value}{vs:List V}(F:gj X.prog X.w X.K X.mg X.base CX k f fd ps sp)(hr:dZ k X.A)(hb:Binds X.K fd ps ds)(hd:Vals dvs ds)(hx:Passes CX X E)
  (I:Inv X pins σ H s) (r:Vals vs us) (h:sp (vs ++ dvs) H Q E):wpAny (model X.prog X.w) X.A (call (.ref f) us) (EP X pins σ Q) X.xe s:=by
 have r2:Vals (vs ++ dvs) (us ++ ds):=r.append hd
 have hl:(us ++ ds).length=ps.length:=by rw[<-r2.length];exact F.len _ _ _ _ h
 refine wpAny_call (Pz (F.run X.A X.stack s H ⟨us,[]⟩ (us ++ ds) (vs ++ dvs) Q E hr I.env0 (hb s us I.kIn hl) r2 h) λr s' hq=>?_)
 cases r with
 |error e=>exact hx pins σ H s e s' I hq
 |ok fl=>
  cases fl with
  |ret u=>exact I.after hq
  |next=>exact False.elim hq
  |brk=>exact False.elim hq
  |cont=>exact False.elim hq
def pf (F:gj X.prog X.w X.K X.mg X.base CX k f fd ps sp)(hr:dZ k X.A)(hg:Gl X x)(hm:X.mg x=some (.ref f))(hk:PySem.W.keepIn X.K (.ref f)=true)(hb:Binds X.K fd ps ds)(hd:Vals dvs ds)(hx:Passes CX X E)
  (ha:PA X (e :: es) t) (hdb:(x == ("__debug__":Str))=false:=by decide) (he:starEach (e :: es) X.env=(false,eval e X.env) :: starEach es X.env:=by rfl) (hpl:(backTo pos (starEach es X.env)).any (·.1)=false:=by rfl) :
  PE X (.Call (.Name x p) (e :: es) [] pos) (GQ sp dvs E t):=by
 intro pins s σ H Q I h
 refine Qr (mZ I hg hm ?_ hdb)
 refine PySem.W.callWith_K (h₀:=X.base) I.ok.mod.kin hk (cx (ha pos pins s σ H _ I h) λus s1 ⟨vs,H1,I1,r,q⟩=>⟨I1.kIn,?_⟩) he hpl
 exact Im F hr hb hd hx I1 r q
end
structure aK (N P:List Str)(sc:Scope):Prop where
 kind:sc.kind=.function
 co:sc.isCoroutine=false
 gen:sc.isGenerator=false
 nd:N.Nodup
 pre:N.take P.length=P
 par:∀x∈P,sc.names.lookup x=some .local\/sc.names.lookup x=some .cell
 nofree:∀y∈sc.names,y.2≠.free
theorem sR {kindOf:Str->Option NameKind}{x:Str}:∀{binds:List (Str×Value)} {m:Str->Option Value},(∀v,(x,v)∉binds)->bindL kindOf binds m x=m x
 | [],_,_=>rfl
 | (n,v) :: r,m,h=>by
  unfold bindL
  rw[sR λw hw=>h w (NJ _ hw)]
  split
  ·have:x≠n:=by rintro rfl;exact h v NN
   simp[this]
  ·rfl
theorem se {kindOf:Str->Option NameKind}{x:Str}:∀{binds:List (Str×Value)} {m:Str->Option Value},(∀v,(x,v)∉binds)->bindC kindOf binds m x=m x
 | [],_,_=>rfl
 | (n,v) :: r,m,h=>by
  unfold bindC
  rw[se λw hw=>h w (NJ _ hw)]
  split
  ·rfl
  ·have:x≠n:=by rintro rfl;exact h v NN
   simp[this]
theorem rW {kindOf:Str->Option NameKind}{x:Str}{v:Value}:∀{P:List Str} {vs:List Value} {i:Nat} {m:Str->Option Value},P.Nodup->P[i]? =some x->vs[i]? =some v->kindOf x=some .local->
  bindL kindOf (P.zip vs) m x=some v
 | [],_,_,_,_,h,_,_=>by simp at h
 |_ :: _,[],_,_,_,_,h,_=>by simp at h
 |p :: P,w :: vs,0,m,nd,h1,h2,hk=>by
  simp at h1 h2;subst h1;subst h2
  show bindL kindOf ((p,w) :: P.zip vs) m p=_
  unfold bindL
  rw[sR λv hv=>(Og.mp nd).1 (of_mem_zip hv).1,NG hk]
  simp
 |p :: P,w :: vs,i + 1,m,nd,h1,h2,hk=>by
  show bindL kindOf ((p,w) :: P.zip vs) m x=_
  unfold bindL
  exact rW (i:=i) (Og.mp nd).2 (by simpa using h1) (by simpa using h2) hk
theorem rQ {kindOf:Str->Option NameKind}{x:Str}{v:Value}:∀{P:List Str} {vs:List Value} {i:Nat} {m:Str->Option Value},P.Nodup->P[i]? =some x->vs[i]? =some v->kindOf x≠some .local->
  bindC kindOf (P.zip vs) m x=some v
 | [],_,_,_,_,h,_,_=>by simp at h
 |_ :: _,[],_,_,_,_,h,_=>by simp at h
 |p :: P,w :: vs,0,m,nd,h1,h2,hk=>by
  simp at h1 h2;subst h1;subst h2
  show bindC kindOf ((p,w) :: P.zip vs) m p=_
  unfold bindC
  rw[se λv hv=>(Og.mp nd).1 (of_mem_zip hv).1,NL hk]
  simp
 |p :: P,w :: vs,i + 1,m,nd,h1,h2,hk=>by
  show bindC kindOf ((p,w) :: P.zip vs) m x=_
  unfold bindC
  exact rQ (i:=i) (Og.mp nd).2 (by simpa using h1) (by simpa using h2) hk
def start (N:List Str)(vs:List V):St:=vs.map some ++ List.replicate (N.length - vs.length) none
def kE (CX:vP)(P:Program)(w:World)(K:Frag)(mg:Str->Option Value)(base:Heap)(N:List Str)(qual:Str)(scope:Scope)(f:Addr)(cd:Value)(A:Around)(outer:List Env)(s:Shared)(H:Hp)(E:XK):Cx where
 prog:=P
 w:=w
 K:=K
 mg:=mg
 base:=base
 A:=A.deeper (envOfC qual scope s.heap.objs.size f cd)
 N:=N
 s₀:=s
 H₀:=H
 env:=envOfC qual scope s.heap.objs.size f cd
 outer:=outer
 stack:=envOfC qual scope s.heap.objs.size f cd :: outer
 ex:=[]
 calm:=true
 fn:=λ_=>true
 pn:=[]
 xe:=λe s'=>wpAny (model P w) (A.deeper (envOfC qual scope s.heap.objs.size f cd)) (leaving (envOfC qual scope s.heap.objs.size f cd) e) (λ_ s''=>CX outer H s E e s'') (λe' s''=>CX outer H s E e' s'') s'
def ve {sc:Scope}{n:Nat}{x:Str}(h:sc.names.lookup x=some .cell):∃c,(cellsFrom n sc.names []).lookup x=some c:=by
 have q:=PySem.W.cellsFrom_some sc.names n [] (.inl h)
 exact PY.mp q
def rR {CX:vP}{P:Program}{w:World}{K:Frag}{mg:Str->Option Value}{base:Heap}{N ps:List Str}{qual:Str}{scope:Scope}{f:Addr}{cd:Value}{A:Around}{outer:List Env}{s s1:Shared}{H:Hp}{E:XK}{us:List Value}{vs:List V}
  (S:aK N ps scope) (hd:A.handled=none) (e0:xZ P w K mg base A outer s H) (hl:vs.length=ps.length) (r:Vals vs us)
  (x:InCallC s s.heap.objs.size (bindL (envOfC qual scope s.heap.objs.size f cd).kindOf (ps.zip us) λ_=>none) (cellsFrom (s.heap.objs.size + 1) scope.names []) (bindC (envOfC qual scope s.heap.objs.size f cd).kindOf (ps.zip us) λ_=>none) s1) :
  Inv (kE CX P w K mg base N qual scope f cd A outer s H E) [] (start N vs) H s1:=by
 have hpl:ps.length<=N.length:=by have:=congrArg List.length S.pre;rw[OP] at this;omega
 obtain⟨h1,tk,rfl,hk⟩:=x.done
 have noA:∀b:Addr,b∉(kE CX P w K mg base N qual scope f cd A outer s H E).ex:=λb z=>absurd (show b∈([]:List Addr) from z) (by simp)
 refine⟨⟨e0.mod,S.kind,rfl,rfl,NH _,λy z c h1 h2=>?_,λy hy=>?_,λy c _ h=>?_,λ_=>hd,Around.frames_deeper e0.frames,.inr ⟨rfl,rfl⟩,λb z=>absurd z (noA b),e0.bs,e0.bsz,λb _ _=>noA b,λb z=>absurd z (noA b),e0.funs,e0.frf⟩,
  rfl,e0.bare,Un.kept hk,⟨_,x.toInCall.ns,λi y v h1 h2 h3=>?_⟩,λy c h=>⟨_,x.cell y c h⟩,e0.hok.fresh (NH _),λy c h=>?_,λp hp=>absurd (show p∈([]:List (Addr×Obj)) from hp) (by simp),e0.hok.kept hk,?_⟩
 ·exact name_of_addr x.apart (Px h1) (Px h2)
 ·have hy:scope.names.lookup y=some .cell\/scope.names.lookup y=some .free:=hy
  rcases hy with hy |hy
  ·exact ve hy
  ·exact absurd rfl (S.nofree _ (Px hy))
 ·exact Nat.le_of_lt (x.above y c (Px h))
 ·have hi:i < vs.length:=by
   unfold start at h2
   by_cases hi:i < vs.length
   ·exact hi
   ·rw[Oj (by simpa using hi)] at h2
    rw[O6] at h2
    split at h2 <;> cases h2
  have ha:vs[i]? =some v:=by
   unfold start at h2
   rw[Ow (by simpa using hi),NP] at h2
   cases e:vs[i]? with
   |none=>rw[e] at h2;cases h2
   |some a=>rw[e] at h2;cases h2;rfl
  obtain⟨u,hu,rv⟩:=r.get ha
  have hp:ps[i]? =some y:=by
   rw[<-S.pre,List.getElem?_take_of_lt (by omega)];exact h1
  have ndP:ps.Nodup:=by rw[<-S.pre];exact S.nd.sublist (List.take_sublist _ _)
  refine⟨u,rv,?_⟩
  rcases S.par y (NU hp) with k |k
  ·exact .inl ⟨k,rW ndP hp hu k⟩
  ·obtain⟨c,e⟩:=ve (n:=s.heap.objs.size + 1) k
   refine .inr ⟨.inl k,c,e,?_⟩
   have q:=x.cell y c e
   rw[rQ ndP hp hu (by show scope.names.lookup y≠_;rw[k];decide)] at q
   exact q
 ·exact e0.hok.fresh (Nat.le_of_lt (x.above y c (Px h)))
 ·unfold start
  show _=N.length
  rw[Oe,NM,Pe]
  omega
theorem GR {CX:vP}{P:Program}{w:World}{K:Frag}{mg:Str->Option Value}{base:Heap}{k:Nat}{f:Addr}{name qual:Str}{params:Arguments}{body:List Stmt}{scope:Scope}{dV kV doc pm cdv ct oc:Value}{an od:Option Addr}
  {osl:Array (Option Value)} {N ps:List Str} {sp:Sp} (lk:K.lookup f=some ⟨oc,od,.func (PySem.W.fnOf name qual params body scope dV kV doc pm an cdv ct),osl⟩) (hcd:PySem.W.codeIn K cdv qual=true) (S:aK N ps scope)
  (len:∀vs H Q E,sp vs H Q E->vs.length=ps.length)
  (hbody:∀(A:Around) (outer:List Env) (s:Shared) (H:Hp) (vs:List V) (Q:VK) (E:XK),dZ k (A.deeper (envOfC qual scope s.heap.objs.size f cdv))->sp vs H Q E->
   ∃t,oP (kE CX P w K mg base N qual scope f cdv A outer s H E) body t/\t {nx:=λ_ H'=>Q .non H',rt:=Q} (start N vs) H) :
  gj P w K mg base CX (k + 1) f (PySem.W.fnOf name qual params body scope dV kV doc pm an cdv ct) ps sp:=by
 refine⟨len,λA outer s H args us vs Q E hr e0 hb r hsp=>?_⟩
 have hl:=len _ _ _ _ hsp
 have KX:K.In s.heap:=e0.mod.kin.keeps λb o e=>(e0.bs b o e).1
 have lim:s.heap.NoLimit:=e0.mod.nolimit.keeps λb o e=>(e0.bs b o e).1
 have hkind:∀y∈ps.zip us,scope.names.lookup y.1=some .local\/(scope.names.lookup y.1=some .cell/\((cellsFrom (s.heap.objs.size + 1) scope.names []).lookup y.1).isSome=true):=λ⟨n,v⟩ hy=>by
  rcases S.par n (of_mem_zip hy).1 with q |q
  ·exact .inl q
  ·exact .inr ⟨q,PySem.W.cellsFrom_some _ _ _ (.inl q)⟩
 refine codeAny_call_function hr.depth (KX _ _ lk) rfl S.co S.gen rfl (PySem.W.codeRec_of KX hcd) (hb _ _ _ _ ?_)
 refine wpAny_newFunctionEnv_cells S.kind hkind λenv he s1 x=>?_
 subst he
 refine⟨lim.keeps x.toInCall.keep,codeAny_func ?_⟩
 obtain⟨t,ht,hq⟩:=hbody A outer s H vs Q E (hr.deeper _) hsp
 have I:Inv (kE CX P w K mg base N qual scope f cdv A outer s H E) [] (start N vs) H s1:=rR S hr.hd e0 hl r x
 refine OX (ht [] s1 (start N vs) H _ I hq) (λfl s' hs=>?_) λe s' hs=>hs
 have fin:∀{σ':St} {H':Hp} {v:V} {u:Value},Inv (kE CX P w K mg base N qual scope f cdv A outer s H E) [] σ' H' s'->RelV v u->Q v H'->CE outer P w H s Q u s':=
  λ{σ' H' v u} J rv q=>⟨v,H',J.os,J.bare,J.base,J.hok,rv,q⟩
 cases fl with
 |ret u=>
  obtain⟨v,σ',H',J,rv,q⟩:=hs
  exact fin J rv q
 |next=>
  obtain⟨σ',H',J,q⟩:=hs
  exact fin (v:=V.non) (u:=Value.none) J rfl q
 |brk=>
  obtain⟨_,_,_,q⟩:=hs
  exact False.elim q
 |cont=>
  obtain⟨_,_,_,q⟩:=hs
  exact False.elim q
section
variable {X:Cx}{x:Str}{p pos:Pos}{e:Expr}{es:List Expr}{t:TA}{id T:String}{r:List V->Hp->VK->Prop}
def Nb (r:List V->Hp->VK->Prop)(t:TA):TE:=λσ H Q=>t σ H λvs H1=>r vs H1 Q
def bu (hc:cB X (.builtin id) r)(hg:Gl X x)(hm:X.mg x=none)(hv:bootBuiltins x=some (.builtin id))(ha:PA X (e :: es) t)(hn:x≠"__name__":=by decide)(hdb:(x == ("__debug__":Str))=false:=by decide)
  (he:starEach (e :: es) X.env=(false,eval e X.env) :: starEach es X.env:=by rfl) (hpl:(backTo pos (starEach es X.env)).any (·.1)=false:=by rfl):PE X (.Call (.Name x p) (e :: es) [] pos) (Nb r t):=by
 intro pins s σ H Q I h
 refine Qr (kH I hg hm hv ?_ hn hdb)
 exact PyProof.Rows.callWith_builtin1 (cx (ha pos pins s σ H _ I h) λus s1 ⟨vs,H1,I1,r1,q1⟩=>hc pins s1 σ H1 vs us Q I1 r1 q1) he hpl
def gZ (hc:cB X (.type T) r)(hg:Gl X x)(hm:X.mg x=none)(hv:bootBuiltins x=some (.type T))(ha:PA X (e :: es) t)(hn:x≠"__name__":=by decide)(hdb:(x == ("__debug__":Str))=false:=by decide)
  (he:starEach (e :: es) X.env=(false,eval e X.env) :: starEach es X.env:=by rfl) (hpl:(backTo pos (starEach es X.env)).any (·.1)=false:=by rfl):PE X (.Call (.Name x p) (e :: es) [] pos) (Nb r t):=by
 intro pins s σ H Q I h
 refine Qr (kH I hg hm hv ?_ hn hdb)
 exact OV (cx (ha pos pins s σ H _ I h) λus s1 ⟨vs,H1,I1,r1,q1⟩=>hc pins s1 σ H1 vs us Q I1 r1 q1) he hpl
end
end L2
namespace HT
open PySem PyProof.Rows
section
open PySem.SeqAt
open PySem.AutoSeq1 (wpAny_loadPart')
open PySem.MeetsSeq PySem.MeetsSeq2 PySem.MeetsSeq3
end
section
variable {prog:Program}{w:World}{A:Around}{E:Value->Shared->Prop}{s:Shared}
def Gr {t b:Addr}{vs ws:List Value}{Q:Value->Shared->Prop}(ht:IsTup s.heap t vs.toArray)(hb:IsTup s.heap b ws.toArray)(hv:vs≠ [])
  (h1:ws= []->Q (.ref t) s) (h2:ws≠ []->Q (.ref s.heap.objs.size) {s with heap:=s.heap.push {cls:=.type "tuple",data:=.seq (vs ++ ws).toArray}})
  (hsz:vs.length + ws.length<=sizeLine):wpAny (model prog w) A (binaryOp .Add (.ref t) (.ref b)) Q E s:=by
 obtain⟨⟨cls,dd,data,sl⟩,ho,hc,n,hd⟩:=id ht
 obtain⟨⟨cls2,dd2,data2,sl2⟩,ho2,hc2,n2,hd2⟩:=id hb
 simp only at hc hd hc2 hd2
 subst hc hd hc2 hd2
 have e:vs.toArray ++ ws.toArray=(vs ++ ws).toArray:=by simp
 by_cases hw:ws= []
 ·exact concat_meets ⟨_,ho,rfl⟩ ⟨_,ho2,rfl⟩ noFill_tuple_add seq_tuple_add PySem.F.slot_tuple_add PySem.F.entry_tuple_add (Qs _ _)
   (tuple_addW1 t b vs.toArray ws.toArray n n2 dd dd2 sl sl2 (by simpa using hv) (by simp[hw])) ⟨ho,ho2,h1 hw⟩
 ·refine concat_meets ⟨_,ho,rfl⟩ ⟨_,ho2,rfl⟩ noFill_tuple_add seq_tuple_add PySem.F.slot_tuple_add PySem.F.entry_tuple_add (Qs _ _)
   (tuple_addW2 t b vs.toArray ws.toArray n n2 dd dd2 sl sl2 (by simpa using hv) (by simpa using hw) (by rw[NS,NS];exact hsz)) ⟨ho,ho2,?_⟩
  rw[e]
  exact h2 hw
def dw (n d:Nat):Option Int->Nat
 |none=>d
 |some v=>if v < 0 then (v + (n:Int)).toNat else min v.toNat n
def Cy (n d:Nat):dw n d none=d:=rfl
def uq (n d k:Nat):dw n d (some (k:Int))=min k n:=by
 show (if (k:Int) < 0 then ((k:Int) + (n:Int)).toNat else min (k:Int).toNat n)=min k n
 rw[NL (by omega),Oa]
theorem IC (n d:Nat)(hd:d<=n)(o:Option Int):dw n d o<=n:=by
 cases o with
 |none=>exact hd
 |some v=>
  show (if v < 0 then (v + (n:Int)).toNat else min v.toNat n)<=n
  by_cases hv:v < 0
  ·rw[NG hv];omega
  ·rw[NL hv];exact Nat.min_le_right _ _
def zP (v:Int)(n d:Nat):(if v < 0 then max (v + (n:Int)) 0 else min v (n:Int))=((dw n d (some v):Nat):Int):=by
 show (if v < 0 then max (v + (n:Int)) 0 else min v (n:Int))=(((if v < 0 then (v + (n:Int)).toNat else min v.toNat n):Nat):Int)
 by_cases hv:v < 0
 ·simp only[NG hv];omega
 ·simp only[NL hv];omega
def xU (lo hi:Option Int)(n:Nat):Builtin.Slice.sliceAdjust lo hi 1 (n:Int)=(((dw n 0 lo:Nat):Int),((dw n n hi:Nat):Int)):=by
 have h1:¬((1:Int) < 0):=by omega
 unfold Builtin.Slice.sliceAdjust
 simp only[h1,Ou]
 refine Prod.ext ?_ ?_
 ·cases lo with
  |none=>rfl
  |some v=>exact zP v n 0
 ·cases hi with
  |none=>rfl
  |some v=>exact zP v n n
def yA (i j:Nat):Builtin.Slice.slicePlaces (i:Int) (j:Int) 1=j - i:=by
 unfold Builtin.Slice.slicePlaces
 have h1:(1:Int) > 0:=by omega
 simp only[h1,OR,Int.ediv_one]
 split <;> omega
theorem ql {v:Value}{o:Option Int}{Q:Option Int->Shared->Prop}(p:IsPart v o)(h:Q o s):wpAny (model prog w) A (Builtin.Slice.slicePartIndex v) Q E s:=by
 cases p with
 |none=>exact slicePart_none h
 |int i t=>exact slicePart_int h
def jm {sl:Addr}{vl vu:Value}{lo hi:Option Int}{n:Nat}{Q:Int×Int×Nat->Shared->Prop}(hs:s.heap.IsSliceOf sl vl vu .none)(pl:IsPart vl lo)(pu:IsPart vu hi)
  (h:Q (((dw n 0 lo:Nat):Int),1,dw n n hi - dw n 0 lo) s):wpAny (model prog w) A (Builtin.Slice.sliceApplied (.ref sl) (pure (n:Int))) Q E s:=by
 obtain⟨os,hos,hcs,hds⟩:=id hs
 unfold Builtin.Slice.sliceApplied Builtin.Slice.sliceFields
 refine NA (NA (PU hos hds (x:=vl) rfl (NA (PU hos hds (x:=vu) rfl (NA (PU hos hds (x:=.none) rfl (NF ?_)))))))
 refine NA (slicePart_none ?_)
 show wpAny _ _ (if ((1:Int) == 0)=true then _ else _) _ _ s
 rw[NL (by decide)]
 refine NA (ql pl (NA (ql pu (NA (NF ?_)))))
 show wpAny _ _ (match Builtin.Slice.sliceAdjust lo hi 1 (n:Int) with | (lo,hi)=>pure (lo,(1:Int),Builtin.Slice.slicePlaces lo hi 1)) _ _ s
 rw[xU lo hi n]
 show wpAny _ _ (pure (((dw n 0 lo:Nat):Int),(1:Int),Builtin.Slice.slicePlaces ((dw n 0 lo:Nat):Int) ((dw n n hi:Nat):Int) 1)) _ _ s
 rw[yA]
 exact NF h
def Eg (xs:Array Value)(i k:Nat):((List.range k).filterMap λ(m:Nat)=>xs[((i:Int) + (m:Int) * 1).toNat]?).toArray=((xs.toList.drop i).take k).toArray:=by
 have e:(λ(m:Nat)=>xs[((i:Int) + (m:Int) * 1).toNat]?)=λm=>xs[i + m]?:=by
  funext m
  have:((i:Int) + (m:Int) * 1).toNat=i + m:=by omega
  rw[this]
 rw[e]
 have:=pick_run xs i k
 rw[List.filterMap_map] at this
 have e2:((λx=>xs[x]?) ∘ λx=>i + x)=λm=>xs[i + m]?:=rfl
 rw[e2] at this
 rw[this]
def l6 {t sl:Addr}{items:Array Value}{vl vu:Value}{lo hi:Option Int}{Q:Value->Shared->Prop}(ht:IsTup s.heap t items)(hs:s.heap.IsSliceOf sl vl vu .none)(pl:IsPart vl lo)(pu:IsPart vu hi)
  (hw:¬(dw items.size 0 lo=0/\dw items.size items.size hi=items.size))
  (h:Q (.ref s.heap.objs.size) {s with heap:=s.heap.push {cls:=.type "tuple",data:=.seq ((items.toList.drop (dw items.size 0 lo)).take (dw items.size items.size hi - dw items.size 0 lo)).toArray}})
  (hsz:items.size<=sizeLine):wpAny (model prog w) A (getItem (.ref t) (.ref sl)) Q E s:=by
 have htake:sizeOk (.seq ((items.toList.drop (dw items.size 0 lo)).take (dw items.size items.size hi - dw items.size 0 lo)).toArray):=by
  show ((items.toList.drop (dw items.size 0 lo)).take (dw items.size items.size hi - dw items.size 0 lo)).toArray.size<=sizeLine
  rw[NS,OP,length_drop,P6]
  omega
 have hj:dw items.size items.size hi<=items.size:=IC _ _ (NH _) hi
 obtain⟨os,hos,hcs,hds⟩:=id hs
 have hTs:s.TypeIs (.ref sl) "slice":=⟨os,hos,hcs⟩
 unfold getItem
 try with_reducible refine OS ?_
 first |refine NA (NF ?_) |skip
 refine NA (wpAny_sequenceKey ht.typeIs (by decide) ?_)
 refine NA (Pu (name:=Str.ofString "__getitem__") ht.typeIs OJ
  (O1 OJ ht.typeIs entry_tuple_getitem ?_ (args_tuple_getitem _ _)))
 show wpAny _ _ (Builtin.Tuple.tupleItemsOf (.ref t) >>= _) _ _ s
 refine NA (tupleItemsOf_ ht ?_)
 refine NA (PZ hTs ?_)
 rw[NG (by decide)]
 refine NA (jm hs pl pu ?_)
 have hno:¬((((dw items.size 0 lo:Nat):Int) == 0 && (1:Int) == 1 && (dw items.size items.size hi - dw items.size 0 lo) == items.size)=true):=by
  intro q
  rw[N3,N3] at q
  have q1:((dw items.size 0 lo:Nat):Int)=0:=eq_of_beq q.1.1
  have q2:dw items.size items.size hi - dw items.size 0 lo=items.size:=eq_of_beq q.2
  exact hw ⟨by omega,by omega⟩
 show wpAny _ _ (if (((dw items.size 0 lo:Nat):Int) == 0 && (1:Int) == 1 && (dw items.size items.size hi - dw items.size 0 lo) == items.size)=true then _ else _) _ _ s
 rw[NL hno,Eg]
 first
  |exact NA (m:=Builtin.Tuple.tupleExact _) (OH (NF ⟨_,rfl,NF h⟩) htake)
  |exact NA (m:=Builtin.Tuple.tupleExact _) (OH (NA (NF (NF ⟨_,rfl,NF h⟩))) htake)
  |exact NA (NA (m:=Builtin.Tuple.tupleExact _) (OH (NF (NF ⟨_,rfl,NF h⟩)) htake))
  |exact NA (NA (m:=Builtin.Tuple.tupleExact _) (OH (NF ⟨_,rfl,NF h⟩) htake))
end
end HT
namespace L2
open PySem PySem.Spec PyProof.Rows
abbrev TO:=St->Hp->(Option Int->Hp->Prop)->Prop
def PO (X:Cx)(e:Option Expr)(t:TO):Prop:=
 ∀(pins:List (Addr×Obj)) (s:Shared) (σ:St) (H:Hp) (Q:Option Int->Hp->Prop),Inv X pins σ H s->t σ H Q->
  wpAny (model X.prog X.w) X.A (evalPart e X.env) (λu s'=>∃o H',Inv X pins σ H' s'/\IsPart u o/\Q o H') X.xe s
def Gv:TO:=λ_ H Q=>Q none H
def K3 (t:TE):TO:=λσ H Q=>t σ H λx H1=>∃i,x=.int i/\Q (some i) H1
theorem intsAre_of {ns:List Int}:∀{us:List Value},Vals (ns.map V.int) us->IntsAre us ns:=by
 induction ns with
 |nil=>intro us r;rw[List.map_nil] at r;cases r;exact .nil
 |cons n ns ih=>
  intro us r
  rw[Oq] at r
  cases r with
  |cons r1 r2=>
   obtain⟨t,e⟩:=r1
   subst e
   exact .cons n t (ih r2)
section
variable {X:Cx}{e:Expr}{te:TE}{lo hi:Option Expr}{tl th:TO}{pos p2:Pos}
def FO:PO X none Gv:=by
 intro pins s σ H Q I h
 rw[evalPart_none]
 exact NF ⟨none,H,I,.none,h⟩
def E2 (h:PE X e te):PO X (some e) (K3 te):=by
 intro pins s σ H Q I hw
 rw[evalPart_some]
 refine cx (h pins s σ H _ I hw) λu s1 ⟨x,H1,I1,r1,q1⟩=>?_
 obtain⟨i,rfl,q⟩:=q1
 obtain⟨t,rfl⟩:=r1
 exact⟨some i,H1,I1,.int i t,q⟩
def Lr (X:Cx)(r:V->Option Int->Option Int->Hp->VK->Prop):Prop:=
 ∀(pins:List (Addr×Obj)) (s:Shared) (σ:St) (H:Hp) (x:V) (v vl vu:Value) (lo hi:Option Int) (sl:Addr) (Q:VK),Inv X pins σ H s->RelV x v->s.heap.IsSliceOf sl vl vu .none->IsPart vl lo->IsPart vu hi->r x lo hi H Q->
  ∃T id,typeLookup (.type T) "__getitem__"=pure (some (.builtin id))/\s.TypeIs v T/\wpAny (model X.prog X.w) X.A (getItem v (.ref sl)) (EP X pins σ Q) X.xe s
def Nj (r:V->Option Int->Option Int->Hp->VK->Prop)(te:TE)(tl th:TO):TE:=λσ H Q=>te σ H λx H1=>tl σ H1 λl H2=>th σ H2 λu H3=>r x l u H3 Q
def CH {r:V->Option Int->Option Int->Hp->VK->Prop}(hr:Lr X r)(he:PE X e te)(hl:PO X lo tl)(hu:PO X hi th):PE X (.Subscript e (.Slice lo hi none p2) pos) (Nj r te tl th):=by
 intro pins s σ H Q I h
 refine Subscript_ (cx (he pins s σ H _ I h) λv s1 ⟨x,H1,I1,r1,q1⟩=>?_)
 refine wpAny_Slice (cx (hl pins s1 σ H1 _ I1 q1) λvl s2 ⟨l,H2,I2,pl,q2⟩=>cx (hu pins s2 σ H2 _ I2 q2) λvu s3 ⟨u,H3,I3,pu,q3⟩=>?_)
 rw[evalPart_none]
 refine NF ?_
 have I4:Inv X pins σ H3 {s3 with heap:=s3.heap.push {cls:=.type "slice",data:=.fields #[vl,vu,.none]}}:=I3.kept (t':=s3.toks) λb ob q=>ND _ q
 obtain⟨T,id,hT,ht,hg⟩:=hr pins {s3 with heap:=s3.heap.push {cls:=.type "slice",data:=.fields #[vl,vu,.none]}} σ H3 x v vl vu l u s3.heap.objs.size Q I4 r1 (Heap.IsSliceOf.new ..) pl pu q3
 show wpAny (model X.prog X.w) X.A (subscriptTail e (.Slice lo hi none p2) v (.ref s3.heap.objs.size)) (EP X pins σ Q) X.xe {s3 with heap:=s3.heap.push {cls:=.type "slice",data:=.fields #[vl,vu,.none]}}
 exact tail_any (ops:=[.ref s3.heap.objs.size,v]) ht hT hg (by with_unfolding_all rfl)
def rL (xs:List V)(lo hi:Option Int):List V:=(xs.drop (HT.dw xs.length 0 lo)).take (HT.dw xs.length xs.length hi - HT.dw xs.length 0 lo)
def oA (xs:List V)(lo hi:Option Int):(rL xs lo hi).length<=xs.length:=by
 unfold rL
 rw[OP,length_drop]
 omega
def MF (K:Frag):V->Option Int->Option Int->Hp->VK->Prop:=λx lo hi H Q=>∃a xs,x=.ref a/\dU K H a xs/\
 ¬(HT.dw xs.length 0 lo=0/\HT.dw xs.length xs.length hi=xs.length)/\∀p,H p=none->Q (.ref p) (upd H p (.tup (rL xs lo hi)))
def Hw:Lr X (MF X.K):=by
 intro pins s σ H x v vl vu lo hi sl Q I rx hs pl pu h
 obtain⟨a,xs,rfl,hx,hw,q⟩:=h
 cases rx
 obtain⟨its,r,ht,hz⟩:=I.tuple hx
 have hlen:its.toArray.size=xs.length:=by rw[NS];exact r.length.symm
 refine⟨"tuple",_,OJ.lookup,ht.typeIs,?_⟩
 refine HT.l6 ht hs pl pu (by rw[hlen];exact hw) ?_ (by rw[hlen];exact hz)
 rw[hlen]
 refine⟨.ref s.heap.objs.size,_,I.laid (t':=s.toks) (o:=.tup (rL xs lo hi)) (λb ob q=>ND _ q) (NH _) ?_,rfl,q _ (I.hok.fresh (NH _))⟩
 exact⟨OT (oA xs lo hi) hz,_,(r.drop (HT.dw xs.length 0 lo)).take (HT.dw xs.length xs.length hi - HT.dw xs.length 0 lo),qp.new _ _⟩
def K9 (K:Frag):R2:=λx y H Q=>∃a b xs ys,x=.ref a/\y=.ref b/\dU K H a xs/\dU K H b ys/\xs≠ []/\xs.length + ys.length<=sizeLine/\
 (ys= []->Q (.ref a) H)/\(ys≠ []->∀p,H p=none->Q (.ref p) (upd H p (.tup (xs ++ ys))))
theorem Vals.nil_iff {xs:List V}{us:List Value}(r:Vals xs us):us= []↔xs= []:=by
 cases r with
 |nil=>simp
 |cons _ _=>simp
def FI:kg X (binaryOp .Add) (K9 X.K):=by
 intro pins s σ H x y v u Q I rx ry h
 obtain⟨a,b,xs,ys,rfl,rfl,ha,hb,hx,hz,q1,q2⟩:=h
 cases rx
 cases ry
 obtain⟨its,r1,p1,_⟩:=I.tuple ha
 obtain⟨its2,r2,p2,_⟩:=I.tuple hb
 refine HT.Gr p1 p2 (λz=>hx (r1.nil_iff.mp z)) (λz=>⟨.ref a,H,I,rfl,q1 (r2.nil_iff.mp z)⟩) (λz=>?_) (by rw[<-r1.length,<-r2.length];exact hz)
 refine⟨.ref s.heap.objs.size,_,I.laid (t':=s.toks) (o:=.tup (xs ++ ys)) (λb ob q=>ND _ q) (NH _) ?_,rfl,q2 (λw=>z (r2.nil_iff.mpr w)) _ (I.hok.fresh (NH _))⟩
 exact⟨by rw[Oe];exact hz,_,r1.append r2,qp.new _ _⟩
end
def uW (n:Nat)(i:Int):Option Nat:=if 0<=i then (if i < n then some i.toNat else none) else if -(n:Int)<=i then some (i + n).toNat else none
def i4 {α:Type}(xs:List α)(i:Int):Option α:=(uW xs.length i).bind λj=>xs[j]?
def zT {n:Nat}{i:Int}{j:Nat}(h:uW n i=some j):seqIndex? i n=some j/\j < n/\ -(n:Int)<=i/\i < n:=by
 unfold uW at h
 by_cases h0:0<=i
 ·rw[NG h0] at h
  by_cases h1:i < n
  ·rw[NG h1] at h
   have e:i.toNat=j:=Option.some.inj h
   exact⟨by rw[seqIndex_of h0 h1,e],by omega,by omega,h1⟩
  ·rw[NL h1] at h;cases h
 ·rw[NL h0] at h
  by_cases h1: -(n:Int)<=i
  ·rw[NG h1] at h
   have e:(i + n).toNat=j:=Option.some.inj h
   exact⟨by rw[seqIndex_neg (by omega) h1,e],by omega,h1,by omega⟩
  ·rw[NL h1] at h;cases h
theorem ue {α:Type}{xs:List α}{i:Int}{v:α}(h:i4 xs i=some v):∃j,seqIndex? i xs.length=some j/\xs[j]? =some v/\j < xs.length/\ -(xs.length:Int)<=i/\i < xs.length:=by
 unfold i4 at h
 cases e:uW xs.length i with
 |none=>rw[e] at h;cases h
 |some j=>
  rw[e] at h
  obtain⟨h1,h2,h3,h4⟩:=zT e
  exact⟨j,h1,h,h2,h3,h4⟩
def jT {α:Type}{xs:List α}{j:Nat}{v:α}(h:xs[j]? =some v):i4 xs (j:Int)=some v:=by
 have hj:j < xs.length:=(NV.mp h).1
 have e:uW xs.length (j:Int)=some j:=by
  unfold uW
  rw[NG (by omega),NG (by omega)];simp
 unfold i4;rw[e];exact h
def y2 (b:Expr):Prop:=∀o i,subscripted b false o i=operate [o,i] (getItem o i)
def Dq (X:Cx)(r:R2):Prop:=
 ∀(value slice:Expr) (pins:List (Addr×Obj)) (s:Shared) (σ:St) (H:Hp) (x y:V) (v u:Value) (Q:VK),Inv X pins σ H s->RelV x v->RelV y u->r x y H Q->
  subscripted slice false v u=operate [v,u] (getItem v u)->wpAny (model X.prog X.w) X.A (subscriptTail value slice v u) (EP X pins σ Q) X.xe s
def Nm (X:Cx)(id:String)(r:V->List V->Hp->VK->Prop):Prop:=
 ∀(pins:List (Addr×Obj)) (s:Shared) (σ:St) (H:Hp) (x:V) (xs:List V) (v:Value) (us:List Value) (Q:VK),Inv X pins σ H s->RelV x v->Vals xs us->r x xs H Q->
  wpAny (model X.prog X.w) X.A (call (.builtin id) (v :: us)) (EP X pins σ Q) X.xe s
section
variable {X:Cx}{a b:Expr}{ta tb:TE}{pos:Pos}
def Dq.or {r r':R2}(h:Dq X r)(h':Dq X r'):Dq X (λx y H Q=>r x y H Q\/r' x y H Q):=by
 intro value slice pins s σ H x y v u Q I rx ry q hs
 rcases q with q |q
 ·exact h value slice pins s σ H x y v u Q I rx ry q hs
 ·exact h' value slice pins s σ H x y v u Q I rx ry q hs
def ku {r:R2}(hr:Dq X r)(ha:PE X a ta)(hb:PE X b tb)(hs:y2 b):PE X (.Subscript a b pos) (LI r ta tb):=by
 intro pins s σ H Q I h
 exact Subscript_ (HB ha hb I h λv u s2 x y H2 I2 rx ry q=>hr a b pins s2 σ H2 x y v u Q I2 rx ry q (hs _ _))
def Jf (K:Frag):R2:=λx y H Q=>∃p xs i v,x=.ref p/\y=.int i/\fj K H p xs/\i4 xs i=some v/\Q v H
def KP (K:Frag):R2:=λx y H Q=>∃p xs i v,x=.ref p/\y=.int i/\dU K H p xs/\i4 xs i=some v/\Q v H
def K4:R2:=λx y H Q=>∃z i c,x=.str z/\y=.int i/\z.length<=sizeLine/\i4 z.cps.toList i=some c/\Q (.str ⟨#[c]⟩) H
def fG:Dq X (Jf X.K):=by
 intro value slice pins s σ H x y v u Q I rx ry h hs
 obtain⟨p,xs,i,z,rfl,rfl,hq,he,q⟩:=h
 cases rx
 obtain⟨t,rfl⟩:=ry
 obtain⟨its,r,pl,hz⟩:=I.list hq
 obtain⟨j,h1,h2,h3,h4,h5⟩:=ue he
 obtain⟨w,ew,rw'⟩:=r.get h2
 have hl:=r.length
 have hn:=nX
 have fin:EP X pins σ Q w s:=⟨z,H,I,rw',q⟩
 by_cases h0:0<=i
 ·have hj:i.toNat=j:=by
   rw[seqIndex_of h0 h5] at h1
   exact Option.some.inj h1
  exact item_listR pl.isList h0 (by omega) (by rw[hj];simpa using ew) fin hs
 ·have hj:(i + (its.toArray.size:Int)).toNat=j:=by
   rw[seqIndex_neg (by omega) h4] at h1
   rw[NS,<-hl]
   exact Option.some.inj h1
  exact subscriptTail_builtinR (x:=w) pl.isList.typeIs slot_list_getitem.lookup
   (wpAny_getItem_list_neg (Q:=λr s'=>r=w/\EP X pins σ Q r s') pl.isList (by omega) (by rw[NS] <;> omega) (by omega) (by rw[hj];simpa using ew) ⟨rfl,fin⟩) hs
def HF:Dq X (KP X.K):=by
 intro value slice pins s σ H x y v u Q I rx ry h hs
 obtain⟨p,xs,i,z,rfl,rfl,hq,he,q⟩:=h
 cases rx
 obtain⟨t,rfl⟩:=ry
 obtain⟨its,r,pl,hz⟩:=I.tuple hq
 obtain⟨j,h1,h2,h3,h4,h5⟩:=ue he
 obtain⟨w,ew,rw'⟩:=r.get h2
 have hl:=r.length
 have hn:=nX
 have fin:EP X pins σ Q w s:=⟨z,H,I,rw',q⟩
 exact subscriptTail_builtinR (x:=w) pl.typeIs slot_tuple_getitem.lookup
  (getItem_tuple (j:=j) (Q:=λr s'=>r=w/\EP X pins σ Q r s') pl (by omega) (by omega) (by rw[NS,<-hl];exact h1) (by simpa using ew) ⟨rfl,fin⟩) hs
def IV:Dq X K4:=by
 intro value slice pins s σ H x y v u Q I rx ry h hs
 obtain⟨z,i,c,rfl,rfl,hz,he,q⟩:=h
 obtain⟨t,rfl⟩:=rx
 obtain⟨t',rfl⟩:=ry
 obtain⟨j,h1,h2,h3,h4,h5⟩:=ue he
 have hl:z.cps.toList.length=z.length:=by simp[Str.length]
 rw[hl] at h1 h4 h5
 have hn:=nX
 exact tail_any (typeIs_str s z t) slot_str_getitem.lookup (getItem_str (c:=c) (by
  have e1:decide (i < -(2 ^ 63:Int))=false:=NR (by omega)
  have e2:decide (i>=2 ^ 63)=false:=NR (by omega)
  rw[e1,e2,Bool.or_false]) (by rw[h1];simpa using h2) ⟨.str ⟨#[c]⟩,H,I.tok _,⟨_,rfl⟩,q⟩) hs
def M4 (K:Frag):R2:=λx y H Q=>Jf K x y H Q\/KP K x y H Q\/K4 x y H Q
def a9:Dq X (M4 X.K):=fG.or (HF.or IV)
def xR (its:List Value)(n j:Nat)(u:Value):Obj.mapSeq (·.setIfInBounds j u) {cls:=.type "list",data:=.seq its.toArray n}={cls:=.type "list",data:=.seq (its.set j u).toArray n}:=by
 simp[Obj.mapSeq]
def Inv.lst {pins:List (Addr×Obj)}{σ:St}{H:Hp}{s:Shared}{p:Addr}{xs:List V}(I:Inv X pins σ H s)(h:H p=some (.lst xs)) :
  ∃(its:List Value) (n:Nat),Vals xs its/\s.heap.get? p=some {cls:=.type "list",data:=.seq its.toArray n}/\xs.length<=sizeLine:=by
 obtain⟨z,its,n,r,e⟩:=I.hok p _ h
 exact⟨its,n,r,e,z⟩
def Inv.lstUpd {pins:List (Addr×Obj)}{σ:St}{H:Hp}{s:Shared}{p:Addr}{xs ys:List V}{its its':List Value}{n n':Nat}{f:Obj->Obj}(I:Inv X pins σ H s)(h:H p=some (.lst xs))
  (ho:s.heap.get? p=some {cls:=.type "list",data:=.seq its.toArray n}) (hf:f {cls:=.type "list",data:=.seq its.toArray n}={cls:=.type "list",data:=.seq its'.toArray n'}) (r:Vals ys its') (hz:ys.length<=sizeLine) (t:Nat) :
  Inv X pins σ (upd H p (.lst ys)) {s with heap:=s.heap.update p f,toks:=t}:=by
 have e:(s.heap.update p f).get? p=some {cls:=.type "list",data:=.seq its'.toArray n'}:=by
  rw[OB f ho (by rw[hf] <;> rfl),hf]
 refine I.write (x:=p) (e:=p) (by rw[h];trivial) (.inl rfl) (λb u hb q=>(OQ _ _ (Ne.symm hb)).trans q) ⟨_,e⟩ ?_
 exact⟨hz,its',n',r,e⟩
def JW:V->V->V->Hp->(Hp->Prop)->Prop:=λo i v H Q=>∃p xs k j,o=.ref p/\i=.int k/\H p=some (.lst xs)/\uW xs.length k=some j/\Q (upd H p (.lst (xs.set j v)))
def set_list:tI X JW:=by
 intro pins s σ H o i v ov iv u Q I ro ri rv h
 obtain⟨p,xs,k,j,rfl,rfl,hp,hj,q⟩:=h
 cases ro
 obtain⟨t,rfl⟩:=ri
 obtain⟨its,n,r,ho,hz⟩:=I.lst hp
 obtain⟨h1,h2,h3,h4⟩:=zT hj
 have hl:=r.length
 have hn:=nX
 have I':Inv X pins σ (upd H p (.lst (xs.set j v))) {s with heap:=s.heap.update p (Obj.mapSeq (·.setIfInBounds j u))}:=
  I.lstUpd hp ho (xR its n j u) (r.set rv j) (by rw[OL];exact hz) s.toks
 by_cases h0:0<=k
 ·have hk:k.toNat=j:=by
   rw[seqIndex_of h0 h4] at h1
   exact Option.some.inj h1
  exact PySem.W.ki_setAt ho h0 (by omega) (by rw[NS,<-hl];exact h4) (by rw[hk];exact⟨_,I',q⟩)
 ·have hk:(k + (its.toArray.size:Int)).toNat=j:=by
   rw[seqIndex_neg (by omega) h3] at h1
   rw[NS,<-hl]
   exact Option.some.inj h1
  exact PySem.W.ki_setBack ho (by omega) (by rw[NS,<-hl];exact h3) (by omega) (by rw[hk];exact⟨_,I',q⟩)
def ux (lo hi:Option Int)(n:Nat):(sliceBounds lo hi none n).1=((HT.dw n 0 lo:Nat):Int)/\(sliceBounds lo hi none n).2.1=((HT.dw n n hi:Nat):Int)/\(sliceBounds lo hi none n).2.2=1:=by
 refine⟨?_,?_,rfl⟩
 ·cases lo with
  |none=>simp[sliceBounds,HT.dw]
  |some i=>
   simp only[sliceBounds,HT.dw,Option.getD_none,show (1:Int) > 0 by decide,OR]
   by_cases h:i < 0
   ·simp only[h,OR] <;> omega
   ·simp only[h,Ou] <;> omega
 ·cases hi with
  |none=>simp[sliceBounds,HT.dw]
  |some i=>
   simp only[sliceBounds,HT.dw,Option.getD_none,show (1:Int) > 0 by decide,OR]
   by_cases h:i < 0
   ·simp only[h,OR] <;> omega
   ·simp only[h,Ou] <;> omega
def ra (its:List Value)(lo hi:Option Int):slicePick its.toArray lo hi none=((its.drop (HT.dw its.length 0 lo)).take (HT.dw its.length its.length hi - HT.dw its.length 0 lo)).toArray:=by
 obtain⟨h1,h2,h3⟩:=ux lo hi its.toArray.size
 unfold slicePick
 rw[h1,h2,h3]
 simp only[sliceRange_one,pick_run,NS] <;> rfl
def Mm (K:Frag):V->Option Int->Option Int->Hp->VK->Prop:=λx lo hi H Q=>∃a xs,x=.ref a/\fj K H a xs/\∀p,H p=none->Q (.ref p) (upd H p (.lst (rL xs lo hi)))
def LH:Lr X (Mm X.K):=by
 intro pins s σ H x v vl vu lo hi sl Q I rx hs pl pu h
 obtain⟨a,xs,rfl,hx,q⟩:=h
 cases rx
 obtain⟨its,r,ht,hz⟩:=I.list hx
 have hlen:=r.length
 refine⟨"list",_,slot_list_getitem.lookup,ht.isList.typeIs,?_⟩
 refine wpAny_getItem_list_slice ht.isList hs pl pu .none (by simp) ?_ (by rw[NS] <;> omega)
 rw[ra,<-hlen]
 refine⟨.ref s.heap.objs.size,_,I.laid (t':=s.toks) (o:=.lst (rL xs lo hi)) (λb ob q=>ND _ q) (NH _) ?_,rfl,q _ (I.hok.fresh (NH _))⟩
 exact⟨OT (oA xs lo hi) hz,_,0,(r.drop (HT.dw xs.length 0 lo)).take (HT.dw xs.length xs.length hi - HT.dw xs.length 0 lo),NQ _ rfl⟩
def mM:cB X (.type "list") (λxs H Q=>∃p ys,xs= [.ref p]/\(fj X.K H p ys\/dU X.K H p ys)/\∀l,H l=none->Q (.ref l) (upd H l (.lst ys))):=by
 intro pins s σ H xs us Q I r h
 obtain⟨p,ys,rfl,hq,q⟩:=h
 obtain⟨u,rfl,rx⟩:=vals1 r
 cases rx
 have fin:∀(its:List Value),Vals ys its->ys.length<=sizeLine->∀(h':Heap) (c':Nat),(∀b o',s.heap.get? b=some o'->h'.get? b=some o')->
   h'.get? s.heap.objs.size=some {cls:=.type "list",dict:=none,data:=.seq its.toArray c',slots:=#[]}->EP X pins σ Q (.ref s.heap.objs.size) {s with heap:=h'}:=λits r' hz h' c' kp e=>
  ⟨.ref s.heap.objs.size,_,I.laid (t':=s.toks) kp (NH _) (show bN X.prog X.w _ h' _ (.lst ys) from⟨hz,its,c',r',e⟩),rfl,q _ (I.hok.fresh (NH _))⟩
 rcases hq with hq |hq
 ·obtain⟨its,r',pl,hz⟩:=I.list hq
  have hlen:=r'.length
  obtain⟨o,ho,hc,n,hd⟩:=pl.isList
  exact call_list_seq p (.inl rfl) ho hc hd (λh' c' kp e=>fin its r' hz h' c' kp e) (by simp only[NS] <;> omega)
 ·obtain⟨its,r',pl,hz⟩:=I.tuple hq
  have hlen:=r'.length
  obtain⟨o,ho,hc,n,hd⟩:=pl
  exact call_list_seq p (.inr rfl) ho hc hd (λh' c' kp e=>fin its r' hz h' c' kp e) (by simp only[NS] <;> omega)
def fS:cB X (.type "tuple") (λxs H Q=>∃p ys,xs= [.ref p]/\((fj X.K H p ys/\∀l,H l=none->Q (.ref l) (upd H l (.tup ys)))\/(dU X.K H p ys/\Q (.ref p) H))):=by
 intro pins s σ H xs us Q I r h
 obtain⟨p,ys,rfl,h⟩:=h
 obtain⟨u,rfl,rx⟩:=vals1 r
 cases rx
 rcases h with⟨hq,q⟩ | ⟨hq,q⟩
 ·obtain⟨its,r',pl,hz⟩:=I.list hq
  have hlen:=r'.length
  refine call_tuple_list pl.isList (λh' kp=>?_) (by simp only[NS] <;> omega)
  have I1:Inv X pins σ H {s with heap:=h'}:=I.kept (t':=s.toks) kp
  have I2:Inv X pins σ (upd H h'.objs.size (.tup ys)) {s with heap:=h'.push {cls:=.type "tuple",data:=.seq its.toArray}}:=
   I1.laid (t':=s.toks) (λb o e=>ND _ e) (NH _) (show bN X.prog X.w _ _ _ (.tup ys) from⟨hz,its,r',qp.new _ _⟩)
  exact⟨.ref h'.objs.size,_,I2,rfl,q _ (I1.hok.fresh (NH _))⟩
 ·obtain⟨its,r',pl,hz⟩:=I.tuple hq
  exact call_tuple_same pl ⟨.ref p,H,I,rfl,q⟩
def MY (K:Frag)(T:String)(x:V)(H:Hp):Prop:=match x with
 | .str _=>T="str"
 | .int _=>T="int"
 | .ref p=>(T="list"/\∃xs,fj K H p xs)\/(T="tuple"/\∃o,K.lookup p=some o/\o.cls=.type "tuple"/\o.dict=none)\/
   (T="dict"/\((∃kvs,H p=some (.dK kvs))\/∃kvs,H p=some (.dT kvs)))\/(T="set"/\∃S n,H p=some (.set S n))
 |_=>False
theorem HZ {pins:List (Addr×Obj)}{σ:St}{H:Hp}{s:Shared}{T:String}{x:V}{v:Value}(I:Inv X pins σ H s)(r:RelV x v)(ty:MY X.K T x H) :
  s.TypeIs v T/\∀a,v=.ref a->∃ob,s.heap.get? a=some ob/\ob.dict=none:=by
 cases x with
 |str z=>
  obtain⟨t,rfl⟩:=r
  cases (show T="str" from ty)
  exact⟨typeIs_str s z t,λ_ e=>nomatch e⟩
 |int i=>
  obtain⟨t,rfl⟩:=r
  cases (show T="int" from ty)
  exact⟨typeIs_int s i t,λ_ e=>nomatch e⟩
 |ref p=>
  cases r
  rcases ty with⟨rfl,xs,hq⟩ | ⟨rfl,o,hk,hc,hd⟩ | ⟨rfl,hk⟩ | ⟨rfl,S,n,hk⟩
  ·obtain⟨its,_,pl,_⟩:=I.list hq
   refine⟨pl.isList.typeIs,λa e=>?_⟩
   cases e
   obtain⟨o,n,e,c,hd,_⟩:=pl
   exact⟨o,e,hd⟩
  ·refine⟨⟨o,I.kIn p o hk,hc⟩,λa e=>?_⟩
   cases e
   exact⟨o,I.kIn _ o hk,hd⟩
  ·have z:∃o,s.heap.get? p=some o/\o.ExactDict:=by
    rcases hk with⟨kvs,hk⟩ | ⟨kvs,hk⟩
    ·obtain⟨_,_,_,_,o,_,_,e,ex,_⟩:=I.hok p _ hk
     exact⟨o,e,ex⟩
    ·obtain⟨_,_,_,_,o,_,_,e,ex,_⟩:=I.hok p _ hk
     exact⟨o,e,ex⟩
   obtain⟨o,e,ex⟩:=z
   refine⟨⟨o,e,ex.1⟩,λa e2=>?_⟩
   cases e2
   exact⟨o,e,ex.2.1⟩
  ·obtain⟨o,_,_,_,e,ex,_⟩:=I.hok p _ hk
   refine⟨⟨o,e,ex.1⟩,λa e2=>?_⟩
   cases e2
   exact⟨o,e,ex.2.1⟩
 |_=>exact False.elim ty
def Nl (K:Frag)(T:String)(r:V->List V->Hp->VK->Prop)(to:TE)(t:TA):TE:=λσ H Q=>to σ H λx H1=>MY K T x H1/\t σ H1 λxs H2=>r x xs H2 Q
variable {o e:Expr}{es:List Expr}{to:TE}{t:TA}{name:Str}{apos cpos:Pos}{T id:String}{r:V->List V->Hp->VK->Prop}
def wK (pa:PlainAttrs T)(slot:Slot T name id)(hty:typeOf (.builtin id)=pure (.type "method_descriptor"))(hm:Nm X id r)(ho:PE X o to)(ha:PA X (e :: es) t)
  (hbase:attributeBase o name X.env (eval o X.env)=eval o X.env:=by rfl)
  (hfew:((backTo cpos (starEach (e :: es) X.env)).all (λx=> !x.1) && (backToKw cpos (keywordEach [] X.env)).all (λx=>x.1.isSome)
   && decide ((e :: es).length + ([]:List Keyword).length + (if ([]:List Keyword).isEmpty then 0 else 1) < 30))=true:=by rfl)
  (hline:(apos.endLine == cpos.line)=true:=by rfl) (hs:starEach (e :: es) X.env=(false,eval e X.env) :: starEach es X.env:=by rfl) (hplain:(backTo cpos (starEach es X.env)).any (·.1)=false:=by rfl) :
  PE X (.Call (.Attribute o name apos) (e :: es) [] cpos) (Nl X.K T r to t):=by
 intro pins s σ H Q I h
 refine wpAny_Call_method_late hbase hfew hline rfl (cx (ho pins s σ H _ I h) λv s1 ⟨x,H1,I1,r1,ty,q1⟩=>?_)
 obtain⟨h1,h2⟩:=HZ I1 r1 ty
 refine⟨T,id,pa,slot,hty,h1,h2,?_⟩
 have hA:=ha cpos pins s1 σ H1 _ I1 q1
 rw[hs] at hA ⊢
 refine Calls.callWith_builtin (by show (false || (backTo cpos (starEach es X.env)).any (·.1))=false;rw[hplain] <;> rfl) (Calls.evalArgs_plain ?_)
 exact cx hA λus s2 ⟨vs,H2,I2,r2,q2⟩=>hm pins s2 σ H2 x vs v us Q I2 r1 r2 q2
end
def Hx (X:Cx)(id:String)(r:V->List V->Hp->VK->Prop):Prop:=
 ∀(pins:List (Addr×Obj)) (s:Shared) (σ:St) (H:Hp) (x:V) (xs:List V) (v:Value) (us:List Value) (Q:VK),Inv X pins σ H s->RelV x v->Vals xs us->r x xs H Q->
  wpAny (model X.prog X.w) X.A (call (.builtin id) (v :: us)) (EP X pins σ Q) X.xe s
theorem Vals.one:∀{x:V} {us:List Value},Vals [x] us->∃u,us= [u]/\RelV x u
 |_,_,.cons r .nil=>⟨_,rfl,r⟩
theorem Vals.eraseIdx:∀{xs:List V} {us:List Value} (i:Nat),Vals xs us->Vals (xs.eraseIdx i) (us.eraseIdx i)
 |_,_,_,.nil=>.nil
 |_,_,0,.cons _ t=>t
 |_,_,i + 1,.cons r t=>.cons r (Vals.eraseIdx i t)
theorem Vals.rep {xs:List V}{us:List Value}(h:Vals xs us):∀k:Nat,Vals (List.replicate k xs).flatten (List.replicate k us).flatten
 | 0=>.nil
 |k + 1=>by
  rw[Oy,Oy,O8,O8]
  exact Vals.append h (Vals.rep h k)
theorem sk {α:Type}:∀(l:List α) (i:Nat),(l.eraseIdx i).length<=l.length
 | [],_=>NH _
 |_ :: _,0=>PV _
 |_ :: r,i + 1=>Nat.succ_le_succ (sk r i)
theorem foldl_rep (its:List Value):∀(k:Nat) (acc:List Value),
  List.foldl (λx1 x2=>x1 ++ x2) acc.toArray (List.replicate k its.toArray)=(acc ++ (List.replicate k its).flatten).toArray
 | 0,acc=>by simp
 |k + 1,acc=>by
  have e:acc.toArray ++ its.toArray=(acc ++ its).toArray:=by simp
  have e2:(acc ++ its) ++ (List.replicate k its).flatten=acc ++ (List.replicate (k + 1) its).flatten:=by
   rw[Oy,O8,Pp]
  rw[<-e2,<-foldl_rep its k (acc ++ its),<-e,Oy,Qo]
section
variable {X:Cx}{pins:List (Addr×Obj)}{σ:St}{H:Hp}{s:Shared}{l b:Addr}{xs ys zs:List V}
def Inv.lset {its its':List Value}{n:Nat}{f:Array Value->Array Value}{t':Nat}(I:Inv X pins σ H s)(hH:H l=some (.lst xs))
  (e:s.heap.get? l=some {cls:=.type "list",data:=.seq its.toArray n}) (hf:f its.toArray=its'.toArray) (hv:Vals ys its') (hz:ys.length<=sizeLine) :
  Inv X pins σ (upd H l (.lst ys)) {s with heap:=s.heap.update l (Obj.mapSeq f),toks:=t'}:=by
 have q:=PySem.IsL.update e f
 rw[hf] at q
 refine I.write (x:=l) (e:=l) (by rw[hH];exact trivial) (.inl rfl) (λb' u hb hu=>(OQ s.heap (Obj.mapSeq f) (Ne.symm hb)).trans hu) ⟨_,q⟩ ?_
 exact⟨hz,its',_,hv,q⟩
def Inv.lnew {its:List Value}{t':Nat}(I:Inv X pins σ H s)(hv:Vals ys its)(hz:ys.length<=sizeLine) :
  Inv X pins σ (upd H s.heap.objs.size (.lst ys)) {s with heap:=s.heap.push {cls:=.type "list",data:=.seq its.toArray},toks:=t'}:=
 I.laid (λ_ _ q=>ND _ q) (NH _) ⟨hz,its,0,hv,NQ _ rfl⟩
def Inv.fresh (I:Inv X pins σ H s):H s.heap.objs.size=none:=I.hok.fresh (NH _)
def Inv.lstM (I:Inv X pins σ H s)(hH:H l=some (.lst xs)):xs.length<=sizeLine/\∃(its:List Value) (n:Nat),Vals xs its/\xs.length=its.length/\s.heap.get? l=some {cls:=.type "list",data:=.seq its.toArray n}:=by
 obtain⟨z,its,n,r,e⟩:=I.hok l _ hH
 exact⟨z,its,n,r,r.length,e⟩
def wx {n:Nat}(h:n<=sizeLine):Builtin.List.listTooLong n=false:=by
 unfold Builtin.List.listTooLong
 exact NR (by omega)
end
section
variable {X:Cx}
def E5:V->List V->Hp->VK->Prop:=λx vs H Q=>∃l xs y,x=.ref l/\vs= [y]/\H l=some (.lst xs)/\xs.length < sizeLine/\Q .non (upd H l (.lst (xs ++ [y])))
def og:Hx X "list.append" E5:=by
 intro pins s σ H x vs v us Q I rx rv h
 obtain⟨l,xs,y,rfl,rfl,hH,hz,q⟩:=h
 cases rx
 obtain⟨u,rfl,ru⟩:=rv.one
 obtain⟨z,its,n,r,hl,e⟩:=I.lstM hH
 refine Qg F.slot_list_append ⟨_,e,rfl⟩ F.entry_list_append (F.args_list_append_2 _ _) (PySem.list_append l its.toArray n u (by rw[NS];omega)) ⟨e,?_⟩
 refine⟨.non,_,I.lset (its':=its ++ [u]) hH e (by simp) (r.append (.cons ru .nil)) ?_,rfl,q⟩
 rw[Oe,O0]
 omega
def Fs:V->List V->Hp->VK->Prop:=λx vs H Q=>∃l b xs zs,x=.ref l/\vs= [.ref b]/\H l=some (.lst xs)/\H b=some (.lst zs)/\xs.length + zs.length<=sizeLine/\Q .non (upd H l (.lst (xs ++ zs)))
def JL:Hx X "list.extend" Fs:=by
 intro pins s σ H x vs v us Q I rx rv h
 obtain⟨l,b,xs,zs,rfl,rfl,hH,hB,hz,q⟩:=h
 cases rx
 obtain⟨u,rfl,ru⟩:=rv.one
 cases ru
 obtain⟨z,its,n,r,hl,e⟩:=I.lstM hH
 obtain⟨z2,its2,n2,r2,hl2,e2⟩:=I.lstM hB
 have hsz:its.toArray.size + its2.toArray.size<=sizeLine:=by rw[NS,NS];omega
 have hlong:¬(!its.toArray.isEmpty && Builtin.List.listTooLong (its.toArray.size + its2.toArray.size))=true:=by
  rw[wx hsz,Bool.and_false]
  exact NY
 refine Qg F.slot_list_extend ⟨_,e,rfl⟩ F.entry_list_extend (F.args_list_extend_2 _ _)
  (AutoSeq1.list_extend_list_list_0 l its.toArray n b its2.toArray n2 hlong (by rw[NS];omega) (by omega)) ⟨e,e2,?_⟩
 refine⟨.non,_,I.lset (its':=its ++ its2) hH e (by simp) (r.append r2) ?_,rfl,q⟩
 rw[Oe]
 omega
def IP:V->List V->Hp->VK->Prop:=λx vs H Q=>∃l xs i k y,x=.ref l/\vs= [.int i]/\H l=some (.lst xs)/\ -(2 ^ 63)<=i/\i < 2 ^ 63/\seqIndex? i xs.length=some k/\xs[k]? =some y/\Q y (upd H l (.lst (xs.eraseIdx k)))
def DZ:Hx X "list.pop" IP:=by
 intro pins s σ H x vs v us Q I rx rv h
 obtain⟨l,xs,i,k,y,rfl,rfl,hH,h1,h2,hk,hy,q⟩:=h
 cases rx
 obtain⟨u,rfl,ru⟩:=rv.one
 obtain⟨t,rfl⟩:=ru
 obtain⟨z,its,n,r,hl,e⟩:=I.lstM hH
 obtain⟨w,hw,rw'⟩:=r.get hy
 refine Qg F.slot_list_pop ⟨_,e,rfl⟩ F.entry_list_pop (F.args_list_pop_2 _ _)
  (MeetsSeq.list_pop_at l its.toArray n i t k w (fitsIndex_both h1 h2) (by rw[NS,<-hl];exact hk) (by rw[<-Pf];exact hw) (by rw[NS];omega)) ⟨e,?_⟩
 refine⟨y,_,I.lset (its':=its.eraseIdx k) hH e ?_ (r.eraseIdx k) ?_,rw',q⟩
 ·show its.toArray.eraseIdxIfInBounds k=(its.eraseIdx k).toArray
  rw[List.eraseIdxIfInBounds_toArray]
 ·have:=sk xs k
  omega
def LP:R2:=λx y H Q=>∃l b xs zs,x=.ref l/\y=.ref b/\H l=some (.lst xs)/\H b=some (.lst zs)/\xs.length + zs.length<=sizeLine/\∀p,H p=none->Q (.ref p) (upd H p (.lst (xs ++ zs)))
def CU:kg X (binaryOp .Add) LP:=by
 intro pins s σ H x y v u Q I rx ry h
 obtain⟨l,b,xs,zs,rfl,rfl,hH,hB,hz,q⟩:=h
 cases rx
 cases ry
 obtain⟨z,its,n,r,hl,e⟩:=I.lstM hH
 obtain⟨z2,its2,n2,r2,hl2,e2⟩:=I.lstM hB
 refine PySem.P.add_list e e2 ?_ (by rw[NS,NS];omega)
 have ea:its.toArray ++ its2.toArray=(its ++ its2).toArray:=by simp
 rw[ea]
 exact⟨.ref _,_,I.lnew (t':=s.toks) (r.append r2) (by rw[Oe];omega),rfl,q _ I.fresh⟩
def Mb:R2:=λx y H Q=>∃l k xs,x=.ref l/\y=.int k/\H l=some (.lst xs)/\ -(2 ^ 63)<=k/\k < 2 ^ 63/\xs.length * k.toNat<=sizeLine/\
 ∀p,H p=none->Q (.ref p) (upd H p (.lst (List.replicate k.toNat xs).flatten))
theorem len_rep {α:Type}(xs:List α)(k:Nat):(List.replicate k xs).flatten.length=k * xs.length:=by
 induction k with
 |zero=>simp
 |succ k ih=>rw[Oy,O8,Oe,ih,Nat.succ_mul,Nat.add_comm]
def DI:kg X (binaryOp .Mult) Mb:=by
 intro pins s σ H x y v u Q I rx ry h
 obtain⟨l,k,xs,rfl,rfl,hH,h1,h2,hz,q⟩:=h
 cases rx
 obtain⟨t,rfl⟩:=ry
 obtain⟨z,its,n,r,hl,e⟩:=I.lstM hH
 have hlen:its.toArray.size * k.toNat<=sizeLine:=by rw[NS,<-hl];exact hz
 have hcap:¬its.toArray.size * k.toNat > (2 ^ 63 - 1) / 8:=by
  have:(sizeLine:Nat)<=(2 ^ 63 - 1) / 8:=by decide
  omega
 have hfit:¬(!Builtin.List.listFitsIndex k)=true:=by
  rw[fitsIndex_both h1 h2]
  exact NY
 have hlong:¬Builtin.List.listTooLong (its.toArray.size * k.toNat)=true:=by
  rw[wx hlen]
  exact NY
 have hnew:List.foldl (λx1 x2=>x1 ++ x2) #[] (List.replicate (if its.toArray.isEmpty=true then 0 else k.toNat) its.toArray)=(List.replicate k.toNat its).flatten.toArray:=by
  have f0:∀m:Nat,List.foldl (λx1 x2=>x1 ++ x2) #[] (List.replicate m its.toArray)=(List.replicate m its).flatten.toArray:=λm=>by
   have:=foldl_rep its m []
   rw[nil_append] at this
   exact this
  rw[f0]
  cases its with
  |nil=>simp
  |cons a r'=>rw[NL (by simp)]
 refine wpAny_binaryOp_repeat_ref (T:="list") (U:="int") (by decide) ⟨_,e,rfl⟩ (λs'=>typeIs_int s' k t) noFill_list_mul F.fills_int_mul F.slot_int_rmul repeat_list F.slot_int_index.lookup
  (Qg F.slot_int_rmul (typeIs_int s k t) F.entry_int_rmul (F.args_int_rmul_2 _ _) (int___rmul___int_list k t l its.toArray n)
   ⟨e,rfl,⟨_,e,rfl⟩,Qg F.slot_list_mul ⟨_,e,rfl⟩ F.entry_list_mul (F.args_list_mul_2 _ _) (AutoListH.list___mul___list_int_3 l its.toArray n k t hfit hcap hlong) ⟨e,?_⟩⟩)
 rw[hnew]
 exact⟨.ref _,_,I.lnew (t':=s.toks) (r.rep k.toNat) (by rw[len_rep,Nat.mul_comm];exact hz),rfl,q _ I.fresh⟩
end
end L2
namespace Att
open PySem PySem.W PySem.Calls PyProof.Rows
theorem oY {P:Params}{h:Heap}:∀(ns:List Int) (vs:List Value),WellAll P h vs (ns.map WData.int)->IntsAre vs ns:=by
 intro ns
 induction ns with
 |nil=>
  intro vs w
  rw[List.map_nil] at w
  cases w
  exact .nil
 |cons n ns ih=>
  intro vs w
  rw[Oq] at w
  cases w with
  |cons a b=>
   cases a
   exact .cons _ _ (ih _ b)
theorem A7 {l:OpenLaw}{n:Nat}(hn:l.most=some n){P:Params}{h:Heap}{args:List WData}{vals:List Value}
  (hpre:l.row.toRowW.claim.pre args=true) (hwl:WellAll P h vals args) :
  ∃a vs ns,vals= [Value.ref a]/\args= [WData.list (ns.map WData.int)]/\h.get? a=some {cls:=.type "list",data:=.seq vs.toArray}/\IntsAre vs ns/\ns.length<=n:=by
 have hsh:WShape.hasAll [] args [.list .int]=true:=(pre_splitW hpre).1
 have hc:l.pre.holds [] {args:=args}=true:=(pre_splitW hpre).2
 obtain⟨d,r,rfl,h1,h2⟩:=hasAllW_cons hsh
 obtain rfl:=hasAllW_nil h2
 obtain⟨xs,rfl,h3⟩:=hasW_list h1
 obtain⟨ns,rfl⟩:=items_int h3
 have hlen:ns.length<=n:=by
  unfold OpenLaw.pre at hc
  have h4:(WTm.not (.lt (.lit (.int (n:Int))) (.len (.arg 0)))).holds [] {args:=[.list (ns.map .int)]}=true:=by
   have h4:=(holds_andW hc).1
   rw[hn] at h4
   exact h4
  have h5:=condW_of h4 (w_not (w_lt w_lit (w_len_list (w_arg rfl))))
  rw[NM] at h5
  refine Nat.le_of_not_lt λq=>?_
  have q':(n:Int) < ((ns.length:Nat):Int):=by omega
  first
   | (rw[NK q'] at h5;exact absurd h5 (by decide))
   | (simp at h5;omega)
 cases hwl with
 |cons w1 w2=>
  cases w2
  cases w1 with
  |list ho hall=>exact⟨_,_,ns,rfl,rfl,ho,oY ns _ hall,hlen⟩
def Bb (l:OpenLaw)(args:List WData):l.row.toRowW.claim.post args (.bool true) args=true:=
 postW_of (r:=l.row.toRowW) (X:=(true == true))
  (show WShape.has [] (.bool true) .bool=true by first |rfl |decide |simp[WShape.has,WShape.arms,WShape.armsAll])
  (show (WTm.eq .res (.lit (.bool true))).value [] {args:=args,res:=some (.bool true),after:=args}=some (.bool (true == true)) from w_eq_bool (w_res rfl) w_lit) rfl
def wq {l:OpenLaw}{n:Nat}{q:Program}{loose:List Str}{XP:(Str->Option Value)->Heap->Prop}{YP:World->Heap->Prop}{d:DefRec}
  (hn:l.most=some n) (hdf:d.params.defaults= [])
  (call:∀(w:World) (s₀ s₁:Shared) (mg mb:Str->Option Value) (fa:Addr) (o:Obj) (pm cd doc:Value) (a:Addr) (vs:List Value) (ns:List Int),
   Ground q loose [] XP w s₀ mg mb s₁.heap->YP w s₁.heap->
   s₁.heap.get? fa=some o->o.data=.func (docDef d.name d.params d.body d.scope pm cd doc)->s₁.heap.CodeRec cd d.name->mg d.name=some (.ref fa)->
   s₁.heap.get? a=some {cls:=.type "list",data:=.seq vs.toArray}->IntsAre vs ns->ns.length<=n->s₁.gens=#[]->
   codeAny (model l.prog w) callerA (.call (.ref fa) ⟨[.ref a],[]⟩) (λr s'=>r=.ok (.ret (.bool true))/\OldK s₁.heap s'.heap/\s'.os=s₁.os/\AllBare s'.gens) s₁) :
  WalkO q loose XP YP l.row.toRowW d [] (λf vs=>PySem.call f vs):=by
 intro w s₀ s₁ mg mb G Y fa o pm cd doc dV kV ho hd hcd hD hmg hg args vals as hpre hlay hrd hwl hlo
 obtain rfl:dV=.none:=Dflts.none hD hdf
 obtain rfl:kV=.none:=Dflts.noKw hD
 obtain⟨a,vs,ns,rfl,rfl,hobj,hints,hlen⟩:=A7 hn hpre hwl
 refine enter_call (Pz (call w s₀ s₁ mg mb fa o pm cd doc a vs ns G Y ho (fd_plain hd) hcd hmg hobj hints hlen hg) λr s' hq=>?_)
 obtain⟨rfl,h2,h3,h4⟩:=hq
 exact⟨.inl ⟨.bool true,.bool true,[],rfl,λ_=>rfl,.bool true,Bb l _,λ_=>⟨List.Pairwise.nil,λ_ hm=>(nomatch hm)⟩⟩,h2,h3,h4⟩
end Att
namespace L2
open PySem PySem.Spec PyProof.Rows
theorem sM:∀{vs:List Value} {ns:List Int},IntsAre vs ns->Vals (ns.map V.int) vs
 |_,_,.nil=>.nil
 |_,_,.cons n t h=>.cons ⟨t,rfl⟩ (sM h)
def IH (H:Hp):Prop:=∀b,H b=none\/∃o xs,H b=some (.bt o (.lst xs))
theorem Dr {P:Program}{w:World}{K:Frag}{mg mb:Str->Option Value}{CX:vP}{k:Nat}{fa a:Addr}{fd:FuncData}{x:Str}{sp:Sp}{s₁:Shared}{vs:List Value}{ns:List Int}
  (KX:K.In s₁.heap) (hns:s₁.heap.Ns mainGlobals mg) (hb:s₁.heap.Ns builtinsNs mb) (hbb:∀x:Str,x≠"__name__"->mb x=bootBuiltins x) (hlim:s₁.heap.NoLimit) (hsys:∃mm,s₁.heap.Ns sysModules mm) (hg:s₁.gens=#[])
  (ha:s₁.heap.get? a=some {cls:=.type "list",data:=.seq vs.toArray}) (hi:IntsAre vs ns) (hl:ns.length<=sizeLine) (hr:dZ k callerA)
  (F:∀base:Heap,K.In base->base.Ns mainGlobals mg->gj P w K mg base CX k fa fd [x] sp) (hbind:∀(s:Shared) (u:Value),BindsTo s fd ⟨[u],[]⟩ [(x,u)])
  (hsp:∀H:Hp,IH H->fj K H a (ns.map V.int)->sp [.ref a] H (λv _=>v=.bl true) λ_ _ _=>False)
  (hCX:∀H e s',CX [] H s₁ (λ_ _ _=>False) e s'->False) :
  codeAny (model P w) callerA (.call (.ref fa) ⟨[.ref a],[]⟩) (λr s'=>r=.ok (.ret (.bool true))/\OldK s₁.heap s'.heap/\s'.os=s₁.os/\AllBare s'.gens) s₁:=by
 have rv:=sM hi
 have lenV:=hi.length
 have core:∀H:Hp,IH H->fj K H a (ns.map V.int)->kc P w H s₁.heap->(∀b,H b≠none->b=a)->(H a≠none->K.lookup a=none)->
   codeAny (model P w) callerA (.call (.ref fa) ⟨[.ref a],[]⟩) (λr s'=>r=.ok (.ret (.bool true))/\OldK s₁.heap s'.heap/\s'.os=s₁.os/\AllBare s'.gens) s₁:=by
  intro H hO hS hok hA hK
  have base_of:∀{b:Addr} {o:Obj},s₁.heap.get? b=some o->H b=none->(tu s₁.heap H).get? b=some o:=λe n=>DH e n
  have noA:∀{b:Addr} {o:Obj} {es:Array DictEntry} {ep:Nat},s₁.heap.get? b=some o->o.data=.dict es ep->H b=none:=λ{b o es ep} e d=>by
   cases q:H b with
   |none=>rfl
   |some u=>
    have e':b=a:=hA b (by rw[q];simp)
    subst e'
    rw[ha] at e;cases e
    have d':Data.seq vs.toArray _=Data.dict es ep:=d
    cases d'
  have nsK:∀{b:Addr} {m:Str->Option Value},s₁.heap.Ns b m->(tu s₁.heap H).Ns b m:=λ{b m} ⟨o,es,ep,e,d,r⟩=>⟨o,es,ep,base_of e (noA e d),d,r⟩
  have hKb:K.In (tu s₁.heap H):=λb o e=>base_of (KX b o e) (by
   cases q:H b with
   |none=>rfl
   |some u=>
    have e':b=a:=hA b (by rw[q];simp)
    subst e'
    rw[hK (by rw[q];simp)] at e;cases e)
  have hM:Mod K mg (tu s₁.heap H):=⟨hKb,nsK hns,⟨mb,nsK hb,hbb⟩,let ⟨mc,h1,h2⟩:=hlim;⟨mc,nsK h1,h2⟩,let ⟨mm,h1⟩:=hsys;⟨mm,nsK h1⟩⟩
  have e0:xZ P w K mg (tu s₁.heap H) callerA [] s₁ H:=⟨rfl,hM,λb o e=>E1 e,Nat.le_of_eq (As _ _),trivial,λb hb=>absurd (show b∈([]:List Addr) from hb) (by simp),hok,.of_eq hg⟩
  refine Pz ((F _ hKb (nsK hns)).run callerA [] s₁ H ⟨[.ref a],[]⟩ [.ref a] [.ref a] _ _ hr e0 (hbind s₁ (.ref a)) (.cons rfl .nil) (hsp H hO hS)) λr s' h=>?_
  cases r with
  |error e=>exact (hCX H e s' h).elim
  |ok fl=>
   cases fl with
   |next=>exact False.elim h
   |brk=>exact False.elim h
   |cont=>exact False.elim h
   |ret u=>
    obtain⟨v,H',os,bare,un,hok',r',q⟩:=h
    have q':v=.bl true:=q
    subst q'
    obtain rfl:u=Value.bool true:=r'
    refine⟨rfl,OldK.of_keep λb o e=>?_,os,bare⟩
    cases q:H b with
    |none=>exact un.keep b o e q (by intro z;exact absurd (show b∈([]:List Addr) from z) (by simp)) (by simp)
    |some u=>
     rcases hO b with z | ⟨ob,xs,z⟩
     ·rw[q] at z;cases z
     ·have z2:=un.frzs b ob _ z
      obtain⟨e1,_⟩:=hok b _ z
      obtain⟨e2,_⟩:=hok' b _ z2
      rw[e] at e1;cases e1
      exact e2
 cases hk:K.lookup a with
 |some o=>
  have e:=KX a o hk
  rw[ha] at e
  cases e
  refine core (λ_=>none) (λ_=>.inl rfl) (.inr ⟨_,vs.toArray,_,hk,rfl,rfl,rfl,by rw[NS,lenV];exact hl,by simpa using rv⟩) (λb u z=>by have z':(none:Option HO)=some u:=z;cases z') (λb z=>absurd rfl z) λz=>absurd rfl z
 |none=>
  refine core (λb=>if b=a then some (.bt {cls:=.type "list",data:=.seq vs.toArray} (.lst (ns.map V.int))) else none) (λb=>?_) (.inl (.inr ⟨{cls:=.type "list",data:=.seq vs.toArray},NG rfl⟩)) (λb u z=>?_) (λb z=>?_) λ_=>hk
  ·by_cases hb:b=a
   ·exact .inr ⟨_,_,NG hb⟩
   ·exact .inl (NL hb)
  ·by_cases hb:b=a
   ·have z':=(NG hb).symm.trans z
    cases z'
    subst hb
    exact⟨ha,by rw[NM];exact hl,vs,_,rv,ha⟩
   ·have z':=(NL hb).symm.trans z
    cases z'
  ·by_cases hb:b=a
   ·exact hb
   ·exact absurd (NL hb) z
def Gw {l:PySem.W.OpenLaw}{n k:Nat}{q:Program}{loose:List Str}{XP:(Str->Option Value)->Heap->Prop}{YP:World->Heap->Prop}{d:DefRec}{K:Params->Frag}{CX:World->vP}{sp:World->Sp}{x:Str}
  (hn:l.most=some n) (hn2:n<=sizeLine) (hdf:d.params.defaults= []) (hi:PyProof.Rows.importsNone q=true) (hr:dZ k callerA)
  (hY:∀(w:World) (h:Heap),YP w h->(K w.params).In h)
  (F:∀(w:World) (mg:Str->Option Value) (fa:Addr) (h:Heap),(K w.params).In h->h.Ns mainGlobals mg->mg d.name=some (.ref fa)->
   ∃fd:FuncData,(∀(s:Shared) (u:Value),BindsTo s fd ⟨[u],[]⟩ [(x,u)])/\
    ∀base:Heap,(K w.params).In base->base.Ns mainGlobals mg->gj l.prog w (K w.params) mg base (CX w) k fa fd [x] (sp w))
  (hsp:∀(w:World) (H:Hp) (a:Addr) (ns:List Int),ns.length<=n->IH H->fj (K w.params) H a (ns.map V.int)->sp w [.ref a] H (λv _=>v=.bl true) λ_ _ _=>False)
  (hCX:∀(w:World) (H:Hp) (s:Shared) (e:Value) (s':Shared),CX w [] H s (λ_ _ _=>False) e s'->False) :
  PySem.W.WalkO q loose XP YP l.row.toRowW d [] (λf vs=>PySem.call f vs):=by
 refine Att.wq hn hdf λw s₀ s₁ mg mb fa o pm cd doc a vs ns G Y ho hd hcd hmg hobj hints hlen hg=>?_
 have KX:=hY w _ Y
 obtain⟨fd,hb,hF⟩:=F w mg fa _ KX G.T.g hmg
 exact Dr KX G.T.g G.T.b G.T.builtins G.T.nolimit (let ⟨mm,h1,_⟩:=(G.T.seer hi).mods;⟨mm,h1⟩) hg hobj hints (OT hlen hn2) hr hF hb (λH hO hS=>hsp w H a ns hlen hO hS) λH e s'=>hCX w H s₁ e s'
def iJ (s:Stmt):Arguments:=match s with
 | .FunctionDef _ a _ _ _ _ _ _ _ _=>a
 |_=>{posonlyargs:=[],args:=[],vararg:=none,kwonlyargs:=[],kw_defaults:=[],kwarg:=none,defaults:=[]}
def bX (s:Stmt):List Stmt:=match s with
 | .FunctionDef _ _ b _ _ _ _ _ _ _=>b
 |_=>[]
def av (s:Stmt):Scope:=match s with
 | .FunctionDef _ _ _ _ _ _ sc _ _ _=>sc
 |_=>{kind:=.function,names:=[],isGenerator:=false,isCoroutine:=false}
abbrev ye:vP:=λ_ _ _ _ _ _=>False
abbrev E0:XK:=λ_ _ _=>False
def GG {X:Cx}:Passes ye X E0:=λ_ _ _ _ _ _ _ h=>h.elim
structure BK (K:Frag)(x qual:Str)(st:Stmt)(f:Addr)(fd:FuncData):Prop where
 ex:∃(oc:Value) (od:Option Addr) (kV doc pm:Value) (an:Option Addr) (cdv ct:Value) (osl:Array (Option Value)),
  fd=PySem.W.fnOf x qual (iJ st) (bX st) (av st) .none kV doc pm an cdv ct/\K.lookup f=some ⟨oc,od,.func fd,osl⟩/\PySem.W.codeIn K cdv qual=true
 kp:PySem.W.keepIn K (.ref f)=true
section
variable {P:Program}{w:World}{K:Frag}{mg:Str->Option Value}{base:Heap}
def BK.ok {x qual:Str}{st:Stmt}{f:Addr}{fd:FuncData}{N ps:List Str}{k:Nat}{sp:Sp}(F:BK K x qual st f fd)(S:aK N ps (av st))(len:∀vs H Q E,sp vs H Q E->vs.length=ps.length)
  (hbody:∀(cdv:Value) (A:Around) (outer:List Env) (s:Shared) (H:Hp) (vs:List V) (Q:VK) (E:XK),dZ k (A.deeper (envOfC qual (av st) s.heap.objs.size f cdv))->sp vs H Q E->
   ∃t,oP (kE ye P w K mg base N qual (av st) f cdv A outer s H E).nox (bX st) t/\t {nx:=λ_ H'=>Q .non H',rt:=Q} (start N vs) H):gj P w K mg base ye (k + 1) f fd ps sp:=by
 obtain⟨oc,od,kV,doc,pm,an,cdv,ct,osl,rfl,lk,hcd⟩:=F.ex
 refine GR lk hcd S len λA outer s H vs Q E hr hsp=>?_
 obtain⟨t,h,q⟩:=hbody cdv A outer s H vs Q E hr hsp
 exact⟨t,h.nox,q⟩
def BK.binds {x qual:Str}{st:Stmt}{f:Addr}{fd:FuncData}{ps:List Str}(F:BK K x qual st f fd)
  (h:∀(kV doc pm:Value) (an:Option Addr) (cdv ct:Value) (us:List Value),us.length=ps.length->bindArgs (PySem.W.fnOf x qual (iJ st) (bX st) (av st) .none kV doc pm an cdv ct) ⟨us,[]⟩=pure (ps.zip us)):Binds K fd ps []:=by
 obtain⟨oc,od,kV,doc,pm,an,cdv,ct,osl,rfl,lk,hcd⟩:=F.ex
 exact .all (h kV doc pm an cdv ct)
def yQ {x qual:Str}{st:Stmt}{f:Addr}{oc:Value}{od an:Option Addr}{osl:Array (Option Value)}{kV doc pm cdv ct:Value}(l:K.lookup f=some ⟨oc,od,.func (PySem.W.fnOf x qual (iJ st) (bX st) (av st) .none kV doc pm an cdv ct),osl⟩)
  (c:PySem.W.codeIn K cdv qual=true) (k:PySem.W.keepIn K (.ref f)=true):BK K x qual st f (PySem.W.fnOf x qual (iJ st) (bX st) (av st) .none kV doc pm an cdv ct):=⟨⟨oc,od,kV,doc,pm,an,cdv,ct,osl,rfl,l,c⟩,k⟩
end
section
variable {X:Cx}
def pv (i:Nat){x:Str}{pos:Pos}(hN:X.N[i]? =some x:=by rfl)(hv:xm X.env.scope x:=by first |exact Or.inl rfl |exact Or.inr (Or.inl rfl) |exact Or.inr (Or.inr rfl))(hd:(x == ("__debug__":Str))=false:=by decide)
  (hcd:(x == ("__classdict__":Str))=false:=by decide):PE X (.Name x pos) (Fu i):=iX hN hv hd hcd
end
def qL {A B:Prop}(h:B):if false=true then A else B:=by
 rw[NL NY]
 exact h
def wZ {A B:Prop}(h:A):if true=true then A else B:=by
 rw[NG rfl]
 exact h
def aw (H H':Hp):Prop:=∀b o,H b=some o->H' b=some o
def aw.refl (H:Hp):aw H H:=λ_ _ h=>h
def aw.trans {H H1 H2:Hp}(a:aw H H1)(b:aw H1 H2):aw H H2:=λc o h=>b c o (a c o h)
theorem aw.free {H H':Hp}(e:aw H H'){l:Addr}(h:H' l=Option.none):H l=Option.none:=by
 cases q:H l with
 |none=>rfl
 |some o=>
  rw[e l o q] at h
  cases h
def aw.seq {K:Frag}{H H':Hp}{a:Addr}{xs:List V}(e:aw H H')(h:fj K H a xs):fj K H' a xs:=by
 rcases h with (h | ⟨o,h⟩) |h
 ·exact .inl (.inl (e _ _ h))
 ·exact .inl (.inr ⟨o,e _ _ h⟩)
 ·exact .inr h
end L2
end
namespace L2.ST
open PySem PySem.SetTable
abbrev jB (xs:Array Nat):Prop:=xs.toList.Pairwise (· < ·)
def iM (h:jB xs)(hik:i < k)(hk:k < xs.size):xs.getD i d < xs.getD k d:=by
 have hi:i < xs.size:=Nat.lt_trans hik hk
 have:=PQ.mp h i k (by simpa using hi) (by simpa using hk) hik
 simpa[Array.getD,hi,hk] using this
theorem Cz {j:Nat}(h:jB xs):∀(fuel lo hi:Nat),lo<=hi->hi<=xs.size->hi - lo<=fuel->
  (∀i,i < lo->xs.getD i j < j)->(∀i,hi<=i->i < xs.size->j<=xs.getD i j)->
  below.go xs j fuel lo hi<=xs.size/\(∀i,i < below.go xs j fuel lo hi->xs.getD i j < j)/\(∀i,below.go xs j fuel lo hi<=i->i < xs.size->j<=xs.getD i j):=by
 intro fuel
 induction fuel with
 |zero=>
  intro lo hi h1 h2 h3 h4 h5
  have:lo=hi:=by omega
  subst this
  exact⟨h2,h4,h5⟩
 |succ fuel ih=>
  intro lo hi h1 h2 h3 h4 h5
  unfold below.go
  by_cases hlt:lo < hi
  ·rw[NG hlt]
   dsimp only
   by_cases hm:xs.getD ((lo + hi) / 2) j < j
   ·rw[NG hm]
    refine ih _ _ (by omega) h2 (by omega) (λi hi'=>?_) h5
    by_cases e:i=(lo + hi) / 2
    ·rw[e];exact hm
    ·exact Nat.lt_trans (iM h (show i < (lo + hi) / 2 by omega) (by omega)) hm
   ·rw[NL hm]
    refine ih _ _ (by omega) (by omega) (by omega) h4 (λi hi' hs=>?_)
    by_cases e:i=(lo + hi) / 2
    ·rw[e];omega
    ·have:=iM (d:=j) h (show (lo + hi) / 2 < i by omega) hs
     omega
  ·rw[NL hlt]
   have:lo=hi:=by omega
   subst this
   exact⟨h2,h4,h5⟩
def dG (h:jB xs)(j:Nat) :
  below xs j<=xs.size/\(∀i,i < below xs j->xs.getD i j < j)/\(∀i,below xs j<=i->i < xs.size->j<=xs.getD i j):=
 Cz h xs.size 0 xs.size (Oh _) (NH _) (by omega) (λi hi=>by omega) (λi h1 h2=>by omega)
def Bo (h:jB xs)(hi:xs[i]? =some j):below xs j=i:=by
 obtain⟨b1,b2,b3⟩:=dG h j
 have hs:i < xs.size:=(OC.mp hi).1
 have hv:xs.getD i j=j:=by rw[Ot,hi];rfl
 rcases Qy i (below xs j) with c |c |c
 ·have:=b2 i c;omega
 ·exact c.symm
 ·have hb:below xs j < xs.size:=by omega
  have q:=b3 (below xs j) (NH _) hb
  have:=iM (d:=j) h c hs
  omega
def yW (j:Nat):has #[] j=false:=by
 unfold has
 simp
def rZ {t:SetTable}(h:jB t.place){i j:Nat}(hi:t.place[i]? =some j):t.slot j=.live i:=by
 unfold slot
 dsimp only
 rw[Bo h hi,NG (by simp[hi])]
def xX {t:SetTable}(hd:t.dummies=#[]){j:Nat}(hj:j∉t.place):t.slot j=.empty:=by
 unfold slot
 dsimp only
 have:¬(t.place[below t.place j]? == some j)=true:=by
  intro e
  have e':t.place[below t.place j]? =some j:=by simpa using e
  obtain⟨h1,h2⟩:=OC.mp e'
  exact hj (Array.mem_iff_getElem.mpr ⟨_,h1,h2⟩)
 rw[NL this,hd,yW]
 rfl
def xf (mask:Nat)(p:Probe):Probe:=
 if p.more > 0 then {p with j:=p.j + 1,more:=p.more - 1} else
 {p with j:=(leap mask p.i p.perturb).1,more:=runEnd mask (leap mask p.i p.perturb).1 - (leap mask p.i p.perturb).1,i:=(leap mask p.i p.perturb).1,perturb:=(leap mask p.i p.perturb).2}
def Be (mask i perturb:Nat):Probe:={j:=i,more:=runEnd mask i - i,i,perturb,dummy:=none}
def st (mask:Nat)(h:Int):Probe:=Be mask (bits h % (mask + 1)) (bits h)
def Ce (t:SetTable)(p:Probe):t.advance p=xf t.mask p:=rfl
def G8 (t:SetTable)(h:Int):t.probeStart h=st t.mask h:=rfl
def fF (mask:Nat):Nat->Probe->Probe
 | 0,p=>p
 |n + 1,p=>fF mask n (xf mask p)
theorem kl (mask:Nat):∀(n m:Nat) (p:Probe),fF mask (n + m) p=fF mask m (fF mask n p)
 | 0,m,p=>by rw[Oz];rfl
 |n + 1,m,p=>by rw[Nat.add_right_comm];exact kl mask n m (xf mask p)
def D1 {mask:Nat}{p:Probe}(h:p.dummy=none):(xf mask p).dummy=none:=by
 unfold xf;split <;> exact h
def je {mask i:Nat}(h:i<=mask):i<=runEnd mask i/\runEnd mask i<=mask/\runEnd mask i - i<=9:=by
 unfold runEnd;split <;> omega
def In (mask:Nat)(p:Probe):Prop:=p.j + p.more<=mask/\p.more<=9
def IU {mask i q:Nat}(h:i<=mask):In mask (Be mask i q):=by
 have:=je h
 unfold In Be;dsimp only;omega
def mS (mask i q:Nat):(leap mask i q).1<=mask:=by
 unfold leap;exact Nat.lt_succ_iff.mp (Nat.mod_lt _ (Nat.succ_pos _))
def Ja {mask:Nat}{p:Probe}(h:In mask p):In mask (xf mask p):=by
 unfold xf
 by_cases hm:p.more > 0
 ·rw[NG hm];unfold In at *;dsimp only;omega
 ·rw[NL hm]
  have:=je (mS mask p.i p.perturb)
  unfold In;dsimp only;omega
theorem zc {mask:Nat}:∀(n:Nat) {p:Probe},In mask p->In mask (fF mask n p)
 | 0,_,h=>h
 |n + 1,_,h=>zc n (Ja h)
def Lg (mask:Nat)(h:Int):In mask (st mask h):=IU (Nat.lt_succ_iff.mp (Nat.mod_lt _ (Nat.succ_pos _)))
theorem vE (mask:Nat):∀(k:Nat) (p:Probe),p.more=k->fF mask (k + 1) p={p with j:=(leap mask p.i p.perturb).1,more:=runEnd mask (leap mask p.i p.perturb).1 - (leap mask p.i p.perturb).1,i:=(leap mask p.i p.perturb).1,perturb:=(leap mask p.i p.perturb).2}
 | 0,p,h=>by
  show xf mask p=_
  unfold xf
  rw[NL (by omega)]
 |k + 1,p,h=>by
  have e:xf mask p={p with j:=p.j + 1,more:=p.more - 1}:=by unfold xf;rw[NG (by omega)]
  show fF mask (k + 1) (xf mask p)=_
  rw[e,vE mask k _ (by dsimp only;omega)]
def nJ (mask i q:Nat):fF mask (runEnd mask i - i + 1) (Be mask i q)=Be mask (leap mask i q).1 (leap mask i q).2:=by
 exact vE mask _ (Be mask i q) rfl
theorem jG (mask i q:Nat):∀(k:Nat),k<=runEnd mask i - i->(fF mask k (Be mask i q))={Be mask i q with j:=i + k,more:=runEnd mask i - i - k}
 | 0,_=>rfl
 |k + 1,h=>by
  rw[kl mask k 1,jG mask i q k (by omega)]
  show xf mask _=_
  unfold xf
  rw[NG (by dsimp only;omega)]
  simp only[Probe.mk.injEq]
  refine⟨by omega,by omega,?_⟩
  trivial
def fV (mask:Nat):Nat->Nat×Nat->Nat×Nat
 | 0,x=>x
 |k + 1,x=>fV mask k (leap mask x.1 x.2)
theorem oM (mask:Nat):∀(k i q:Nat),i<=mask->∃n,n<=10 * k/\fF mask n (Be mask i q)=Be mask (fV mask k (i,q)).1 (fV mask k (i,q)).2
 | 0,i,q,_=>⟨0,NH _,rfl⟩
 |k + 1,i,q,h=>by
  obtain⟨n,hn,e⟩:=oM mask k (leap mask i q).1 (leap mask i q).2 (mS _ _ _)
  have:=je h
  refine⟨(runEnd mask i - i + 1) + n,by omega,?_⟩
  rw[kl,nJ,e]
  rfl
theorem rS (mask:Nat):∀(a b:Nat) (x:Nat×Nat),fV mask (a + b) x=fV mask b (fV mask a x)
 | 0,b,x=>by rw[Oz];rfl
 |a + 1,b,x=>by rw[Nat.add_right_comm];exact rS mask a b (leap mask x.1 x.2)
theorem vC (mask:Nat):∀(k:Nat) (x:Nat×Nat),x.1<=mask->(fV mask k x).1<=mask
 | 0,_,h=>h
 |k + 1,x,_=>vC mask k _ (mS mask x.1 x.2)
theorem lC (mask:Nat):∀(k:Nat) (x:Nat×Nat),(fV mask k x).2=x.2 / 32 ^ k
 | 0,x=>by simp[fV]
 |k + 1,x=>by
  show (fV mask k (leap mask x.1 x.2)).2=_
  rw[lC mask k,Nat.pow_succ,Nat.mul_comm,<-Nat.div_div_eq_div_mul]
  rfl
def nx (mask i:Nat):Nat:=(i * 5 + 1) % (mask + 1)
def BM (mask:Nat):Nat->Nat->Nat
 | 0,i=>i
 |k + 1,i=>BM mask k (nx mask i)
theorem pB (mask:Nat):∀(a b i:Nat),BM mask (a + b) i=BM mask b (BM mask a i)
 | 0,b,i=>by rw[Oz];rfl
 |a + 1,b,i=>by rw[Nat.add_right_comm];exact pB mask a b (nx mask i)
theorem qm (mask:Nat):∀(k i:Nat),fV mask k (i,0)=(BM mask k i,0)
 | 0,_=>rfl
 |k + 1,i=>by
  show fV mask k (leap mask i 0)=_
  have:leap mask i 0=(nx mask i,0):=by simp[leap,nx]
  rw[this,qm mask k]
  rfl
def BU (mask:Nat):Prop:=mask=7\/mask=31\/mask=127
def KO (mask:Nat)(hm:BU mask):BM mask (mask + 1) 0=0/\∀j,j<=mask->∃k,k<=mask/\BM mask k 0=j:=by
 have h7:∀j:Nat,j < 8->∃k,k < 8/\BM 7 k 0=j:=by decide +kernel
 have h31:∀j:Nat,j < 32->∃k,k < 32/\BM 31 k 0=j:=by decide +kernel
 have h127:∀j:Nat,j < 128->∃k,k < 128/\BM 127 k 0=j:=by decide +kernel
 rcases hm with rfl |rfl |rfl
 ·exact⟨by decide +kernel,λj hj=>let ⟨k,a,b⟩:=h7 j (by omega);⟨k,by omega,b⟩⟩
 ·exact⟨by decide +kernel,λj hj=>let ⟨k,a,b⟩:=h31 j (by omega);⟨k,by omega,b⟩⟩
 ·exact⟨by decide +kernel,λj hj=>let ⟨k,a,b⟩:=h127 j (by omega);⟨k,by omega,b⟩⟩
def Ko {mask:Nat}(hm:BU mask){i j:Nat}(hi:i<=mask)(hj:j<=mask):∃k,k<=mask/\BM mask k i=j:=by
 obtain⟨z,o⟩:=KO mask hm
 obtain⟨a,ha,ea⟩:=o i hi
 obtain⟨b,hb,eb⟩:=o j hj
 have back:BM mask (mask + 1 - a) i=0:=by
  rw[<-ea,<-pB,show a + (mask + 1 - a)=mask + 1 by omega];exact z
 by_cases hab:a<=b
 ·refine⟨b - a,by omega,?_⟩
  rw[<-ea,<-pB,show a + (b - a)=b by omega];exact eb
 ·refine⟨mask + 1 - a + b,by omega,?_⟩
  rw[pB,back];exact eb
def qE {mask:Nat}(hm:BU mask){i q j:Nat}(hi:i<=mask)(hq:q < 2 ^ 64)(hj:j<=mask):∃k,k<=mask + 13/\(fV mask k (i,q)).1=j:=by
 have hz:(fV mask 13 (i,q)).2=0:=by
  rw[lC]
  exact Nat.div_eq_of_lt (N5 hq (by decide))
 obtain⟨k,hk,e⟩:=Ko hm (vC mask 13 (i,q) hi) hj
 refine⟨13 + k,by omega,?_⟩
 rw[rS]
 have:fV mask 13 (i,q)=((fV mask 13 (i,q)).1,0):=Prod.ext rfl hz
 rw[this,qm]
 exact e
def zv (h:Int):bits h < 2 ^ 64:=by
 unfold bits
 have:=Int.emod_lt_of_pos h (show (0:Int) < 2 ^ 64 by decide)
 have:=Int.emod_nonneg h (show (2 ^ 64:Int)≠0 by decide)
 omega
def CW {mask:Nat}(hm:BU mask)(h:Int){j:Nat}(hj:j<=mask):∃n,n < 10 * turns mask/\(fF mask n (st mask h)).j=j:=by
 have hi:bits h % (mask + 1)<=mask:=Nat.lt_succ_iff.mp (Nat.mod_lt _ (Nat.succ_pos _))
 obtain⟨k,hk,e⟩:=qE hm hi (zv h) hj
 obtain⟨n,hn,q⟩:=oM mask k (bits h % (mask + 1)) (bits h) hi
 refine⟨n,by unfold turns;omega,?_⟩
 show (fF mask n (Be mask _ _)).j=j
 rw[q];exact e
theorem Cs {t:SetTable}{hashAt:Nat->Int}{h:Int}:∀(n fuel:Nat) (p:Probe),n < fuel->p.dummy=none->
  (∀m,m < n->∃i,t.slot (fF t.mask m p).j=.live i/\hashAt i≠h)->t.slot (fF t.mask n p).j=.empty->
  probe.go t hashAt h fuel p=some (.empty (fF t.mask n p).j none):=by
 intro n
 induction n with
 |zero=>
  intro fuel p hf hd _ he
  obtain⟨f,rfl⟩:∃f,fuel=f + 1:=⟨fuel - 1,by omega⟩
  unfold probe.go
  have he':t.slot p.j=.empty:=he
  rw[he',hd]
  rfl
 |succ n ih=>
  intro fuel p hf hd hl he
  obtain⟨f,rfl⟩:∃f,fuel=f + 1:=⟨fuel - 1,by omega⟩
  unfold probe.go
  obtain⟨i,e,ne⟩:=hl 0 (by omega)
  have e':t.slot p.j=.live i:=e
  rw[e']
  dsimp only
  rw[NL (by simpa using ne),Ce]
  exact ih f (xf t.mask p) (by omega) (D1 hd) (λm hm=>hl (m + 1) (by omega)) he
theorem Ci {t:SetTable}{hashAt:Nat->Int}{h:Int}:∀(n fuel:Nat) (p:Probe),n < fuel->
  (∀m,m<=n->∃i,t.slot (fF t.mask m p).j=.live i)->(∃i,t.slot (fF t.mask n p).j=.live i/\hashAt i=h)->
  ∃j i next,probe.go t hashAt h fuel p=some (.candidate j i next)/\t.slot j=.live i/\hashAt i=h:=by
 intro n
 induction n with
 |zero=>
  intro fuel p hf _ he
  obtain⟨f,rfl⟩:∃f,fuel=f + 1:=⟨fuel - 1,by omega⟩
  obtain⟨i,e,eh⟩:=he
  have e':t.slot p.j=.live i:=e
  unfold probe.go
  rw[e']
  dsimp only
  rw[NG (by simpa using eh)]
  exact⟨p.j,i,_,rfl,e',eh⟩
 |succ n ih=>
  intro fuel p hf hl he
  obtain⟨f,rfl⟩:∃f,fuel=f + 1:=⟨fuel - 1,by omega⟩
  obtain⟨i,e⟩:=hl 0 (by omega)
  have e':t.slot p.j=.live i:=e
  unfold probe.go
  rw[e']
  dsimp only
  by_cases hh:hashAt i=h
  ·rw[NG (by simpa using hh)]
   exact⟨p.j,i,_,rfl,e',hh⟩
  ·rw[NL (by simpa using hh),Ce]
   exact ih f (xf t.mask p) (by omega) (λm hm=>hl (m + 1) (by omega)) he
def Reach (mask:Nat)(L:Nat->Prop)(h:Int)(j:Nat):Prop:=∃n,n < 10 * turns mask/\(fF mask n (st mask h)).j=j/\∀m,m < n->L (fF mask m (st mask h)).j
def Reach.mono {mask:Nat}{L L':Nat->Prop}{h:Int}{j:Nat}(r:Reach mask L h j)(k:∀x,L x->L' x):Reach mask L' h j:=
 let ⟨n,a,b,c⟩:=r;⟨n,a,b,λm hm=>k _ (c m hm)⟩
structure Tab (t:SetTable)(hs:List Int):Prop where
 mask:BU t.mask
 dum:t.dummies=#[]
 rise:jB t.place
 le:∀j,j∈t.place->j<=t.mask
 size:t.place.size=hs.length
 load:t.place.size * 5 < t.mask * 3
 reach:∀(i j:Nat) (h:Int),t.place[i]? =some j->hs[i]? =some h->Reach t.mask (· ∈t.place) h j
 plain:t.plain=true
theorem bF {α:Type}[DecidableEq α]:∀{l m:List α},l.Nodup->(∀x,x∈l->x∈m)->l.length<=m.length
 | [],_,_,_=>Oh _
 |a :: l,m,hn,hs=>by
  have ha:=hs a (NN ..)
  have hl:=Og.mp hn
  have:=bF (l:=l) (m:=m.erase a) hl.2 λx hx=>by
   refine (List.mem_erase_of_ne ?_).mpr (hs x (NJ _ hx))
   rintro rfl;exact hl.1 hx
  rw[Qt ha] at this
  have:0 < m.length:=List.length_pos_of_mem ha
  simp only[N0];omega
def xt {mask:Nat}{xs:Array Nat}(hl:xs.size<=mask):∃j,j<=mask/\j∉xs:=by
 refine Classical.byContradiction λhc=>?_
 have all:∀j,j∈List.range (mask + 1)->j∈xs.toList:=λj hj=>by
  have:=N6.mp hj
  refine Classical.byContradiction λhn=>hc ⟨j,by omega,λz=>hn (by simpa using z)⟩
 have:=bF P0 all
 simp at this
 omega
theorem tV {P:Nat->Prop}(h:∃n,P n):∃n,P n/\∀m,m < n->¬P m:=by
 obtain⟨n,hn⟩:=h
 induction n using Nat.strongRecOn with
 |_ n ih=>
  by_cases hc:∃m,m < n/\P m
  ·obtain⟨m,hm,hp⟩:=hc
   exact ih m hm hp
  ·exact⟨n,hn,λm hm hp=>hc ⟨m,hm,hp⟩⟩
section
variable {t:SetTable}{hs:List Int}
def Tab.load' (T:Tab t hs):t.place.size<=t.mask:=by have:=T.load;omega
def Tab.slotL (T:Tab t hs){j:Nat}(hj:j∈t.place):∃i,t.slot j=.live i/\t.place[i]? =some j:=by
 obtain⟨i,hi,e⟩:=Array.mem_iff_getElem.mp hj
 have q:t.place[i]? =some j:=by rw[Od hi,e]
 exact⟨i,rZ T.rise q,q⟩
def Tab.slotE (T:Tab t hs){j:Nat}(hj:j∉t.place):t.slot j=.empty:=xX T.dum hj
def Tab.first (T:Tab t hs)(h:Int):∃n,n < 10 * turns t.mask/\(fF t.mask n (st t.mask h)).j∉t.place/\∀m,m < n->(fF t.mask m (st t.mask h)).j∈t.place:=by
 obtain⟨j,hj,hn⟩:=xt T.load'
 obtain⟨n,h1,h2⟩:=CW T.mask h hj
 obtain⟨k,hk,hlt⟩:=tV (P:=λn=>(fF t.mask n (st t.mask h)).j∉t.place) ⟨n,by rw[h2];exact hn⟩
 refine⟨k,?_,hk,λm hm=>Classical.byContradiction λz=>hlt m hm z⟩
 rcases ON n k with c |c
 ·exact absurd (show (fF t.mask n (st t.mask h)).j∉t.place by rw[h2];exact hn) (hlt n c)
 ·omega
def Tab.absent (T:Tab t hs){hashAt:Nat->Int}(ha:∀i,i < hs.length->some (hashAt i)=hs[i]?){h:Int}(hn:h∉hs) :
  ∃j,t.probe hashAt h (t.probeStart h)=some (.empty j none)/\j∉t.place/\j<=t.mask/\Reach t.mask (· ∈t.place) h j:=by
 obtain⟨n,h1,h2,h3⟩:=T.first h
 refine⟨(fF t.mask n (st t.mask h)).j,?_,h2,?_,⟨n,h1,rfl,h3⟩⟩
 ·unfold probe
  rw[G8]
  refine Cs n _ _ h1 rfl (λm hm=>?_) (T.slotE h2)
  obtain⟨i,e,q⟩:=T.slotL (h3 m hm)
  refine⟨i,e,λz=>hn ?_⟩
  have hi:i < hs.length:=by rw[<-T.size];exact (OC.mp q).1
  have:=ha i hi
  rw[z] at this
  exact NU this.symm
 ·have:=zc n (Lg t.mask h)
  unfold In at this;omega
def Tab.present (T:Tab t hs){hashAt:Nat->Int}(ha:∀i,i < hs.length->some (hashAt i)=hs[i]?){h:Int}(hm:h∈hs) :
  ∃j i next,t.probe hashAt h (t.probeStart h)=some (.candidate j i next)/\t.slot j=.live i/\i < hs.length/\hs[i]? =some h:=by
 obtain⟨i,hi,e⟩:=Ol.mp hm
 have hi':hs[i]? =some h:=by rw[NC hi,e]
 have hp:i < t.place.size:=by rw[T.size];exact hi
 obtain⟨n,h1,h2,h3⟩:=T.reach i t.place[i] h (Od hp) hi'
 have hj:(fF t.mask n (st t.mask h)).j∈t.place:=by rw[h2];exact Qz hp
 obtain⟨j',i',nx,g1,g2,g3⟩:=Ci (t:=t) (hashAt:=hashAt) (h:=h) n (10 * turns t.mask) (st t.mask h) h1 (λm hm=>by
   rcases ON m n with c |c
   ·obtain⟨i,e,_⟩:=T.slotL (h3 m c);exact⟨i,e⟩
   ·have:m=n:=by omega
    subst this
    obtain⟨i,e,_⟩:=T.slotL hj;exact⟨i,e⟩)
  ⟨i,by rw[h2];exact rZ T.rise (Od hp),by
   have:=ha i hi
   rw[hi'] at this
   exact Option.some.inj this⟩
 have hi2:i' < t.place.size:=by
  unfold slot at g2
  dsimp only at g2
  split at g2
  ·rename_i c
   have c':t.place[below t.place j']? =some j':=by simpa using c
   cases g2
   exact (OC.mp c').1
  ·split at g2 <;> cases g2
 refine⟨j',i',nx,by unfold probe;rw[G8];exact g1,g2,by rw[<-T.size];exact hi2,?_⟩
 have:=ha i' (by rw[<-T.size];exact hi2)
 rw[g3] at this
 exact this.symm
end
def bZ {α:Type}(xs:Array α)(p:Nat)(x:α)(_:p<=xs.size):(insertAt xs p x).toList=xs.toList.take p ++ x :: xs.toList.drop p:=by
 unfold insertAt
 simp[Array.toList_extract,List.extract_eq_take_drop]
 rw[Pb (by simp)]
def sN (t:SetTable)(j:Nat)(hd:t.dummies=#[]):(t.put j).1={t with place:=insertAt t.place (below t.place j) j}/\(t.put j).2=below t.place j:=by
 unfold put
 dsimp only
 rw[hd,yW]
 exact⟨by simp,rfl⟩
section
variable {t:SetTable}{hs:List Int}
def ng {α:Type}{xs:Array α}{p:Nat}{x y:α}(hp:p<=xs.size):y∈insertAt xs p x↔y∈xs\/y=x:=by
 rw[<-PN,bZ xs p x hp,N7,NI,<-PN]
 have:y∈xs.toList↔y∈xs.toList.take p\/y∈xs.toList.drop p:=by
  conv=>lhs;rw[<-List.take_append_drop p xs.toList]
  exact N7
 rw[this]
 constructor
 ·rintro (a |a |a)
  ·exact .inl (.inl a)
  ·exact .inr a
  ·exact .inl (.inr a)
 ·rintro ((a |a) |a)
  ·exact .inl a
  ·exact .inr (.inr a)
  ·exact .inr (.inl a)
def qV {xs:Array Nat}(h:jB xs){j:Nat}(hj:j∉xs):jB (insertAt xs (below xs j) j):=by
 obtain⟨b1,b2,b3⟩:=dG h j
 unfold jB
 rw[bZ _ _ _ b1]
 have hl:∀y,y∈xs.toList.take (below xs j)->y < j:=λy hy=>by
  obtain⟨i,hi,e⟩:=Ol.mp hy
  have hi1:i < below xs j:=by simp at hi;omega
  have hi2:i < xs.size:=by omega
  have:=b2 i hi1
  rw[Ot,Od hi2] at this
  simp at e this
  omega
 have hr:∀y,y∈xs.toList.drop (below xs j)->j < y:=λy hy=>by
  obtain⟨i,hi,e⟩:=Ol.mp hy
  have hi2:below xs j + i < xs.size:=by simp at hi;omega
  have:=b3 (below xs j + i) (by omega) hi2
  rw[Ot,Od hi2] at this
  simp at e this
  rcases ON j y with c |c
  ·exact c
  ·have:j=y:=by omega
   exact absurd (by rw[this,<-e];exact Qz _) hj
 refine List.pairwise_append.mpr ⟨List.Pairwise.sublist (List.take_sublist ..) h,List.pairwise_cons.mpr ⟨λy hy=>hr y hy,List.Pairwise.sublist (List.drop_sublist ..) h⟩,λa ha b hb=>?_⟩
 rcases NI.mp hb with rfl |hb
 ·exact hl a ha
 ·exact Nat.lt_trans (hl a ha) (hr b hb)
def vZ {α:Type}(l:List α)(p:Nat)(x:α)(hp:p<=l.length)(i:Nat):(l.take p ++ x :: l.drop p)[i]? =if i < p then l[i]? else if i=p then some x else l[i - 1]?:=by
 rcases Qy i p with c |c |c
 ·rw[NG c,Ow (by simp;omega),List.getElem?_take_of_lt c]
 ·subst c
  rw[NL (Om _),NG rfl,Oj (by simp;omega),OP,Nat.min_eq_left hp,Nat.sub_self]
  rfl
 ·rw[NL (by omega),NL (by omega),Oj (by simp;omega),OP,Nat.min_eq_left hp]
  obtain⟨k,rfl⟩:∃k,i=p + 1 + k:=⟨i - (p + 1),by omega⟩
  rw[show p + 1 + k - p=k + 1 by omega,List.getElem?_cons_succ,List.getElem?_drop]
  congr 1
  omega
def Tab.put (T:Tab t hs){j:Nat}{h:Int}(hj:j∉t.place)(hm:j<=t.mask)(r:Reach t.mask (· ∈t.place) h j)(hf:(t.place.size + 1) * 5 < t.mask * 3) :
  Tab (t.put j).1 (hs.take (t.put j).2 ++ h :: hs.drop (t.put j).2)/\(t.put j).2<=hs.length:=by
 obtain⟨e1,e2⟩:=sN t j T.dum
 obtain⟨b1,b2,b3⟩:=dG T.rise j
 have hsz:(insertAt t.place (below t.place j) j).size=t.place.size + 1:=by
  rw[<-P6,bZ _ _ _ b1]
  simp;omega
 have hl:below t.place j<=hs.length:=by rw[<-T.size];exact b1
 rw[e1,e2]
 refine⟨⟨T.mask,T.dum,qV T.rise hj,λy hy=>?_,?_,?_,λi y g hy hg=>?_,T.plain⟩,hl⟩
 ·rcases (ng b1).mp hy with z |z
  ·exact T.le y z
  ·rw[z];exact hm
 ·show (insertAt t.place _ j).size=_
  rw[hsz,T.size];simp;omega
 ·show (insertAt t.place _ j).size * 5 < t.mask * 3
  rw[hsz];exact hf
 ·show Reach t.mask (· ∈insertAt t.place (below t.place j) j) g y
  have hy':(t.place.toList.take (below t.place j) ++ j :: t.place.toList.drop (below t.place j))[i]? =some y:=by
   rw[<-bZ _ _ _ b1,Pf];exact hy
  rw[vZ _ _ _ (by simpa using b1)] at hy'
  rw[vZ _ _ _ hl] at hg
  have old:∀{g y},Reach t.mask (· ∈t.place) g y->Reach t.mask (· ∈insertAt t.place (below t.place j) j) g y:=λr=>r.mono λx hx=>(ng b1).mpr (.inl hx)
  split at hy'
  ·rename_i c
   rw[NG c] at hg
   exact old (T.reach i y g (by simpa using hy') hg)
  ·rename_i c
   rw[NL c] at hg
   split at hy'
   ·rename_i c2
    rw[NG c2] at hg
    cases hg;cases hy'
    exact old r
   ·rename_i c2
    rw[NL c2] at hg
    exact old (T.reach (i - 1) y g (by simpa using hy') hg)
end
abbrev own (o:Array (Option Nat))(j:Nat):Option Nat:=o.getD j none
theorem AM {mask:Nat}{o:Array (Option Nat)}(hsz:o.size=mask + 1):∀(fuel i q:Nat) (j:Nat),i<=mask->layClean.free mask o fuel i q=some j->
  ∃n,n < 10 * fuel/\(fF mask n (Be mask i q)).j=j/\(∀m,m < n->(own o (fF mask m (Be mask i q)).j).isSome=true)/\own o j=none/\j<=mask:=by
 intro fuel
 induction fuel with
 |zero=>intro i q j _ h;unfold layClean.free at h;cases h
 |succ fuel ih=>
  intro i q j hi h
  unfold layClean.free at h
  have hr:=je hi
  have ind:∀k,k<=runEnd mask i - i->o.getD (i + k) (some 0)=own o (i + k):=λk hk=>by
   have:i + k < o.size:=by omega
   simp[own,Array.getD,this]
  cases hf:(List.range (runEnd mask i + 1 - i)).find? λk=>(o.getD (i + k) (some 0)).isNone with
  |some k=>
   rw[hf] at h
   dsimp only at h
   have hk:=List.find?_eq_some_iff_getElem.mp hf
   obtain⟨hn,ix,hix,eix,hbef⟩:=hk
   have ek:ix=k:=by simpa using eix
   subst ek
   have hix':ix < runEnd mask i + 1 - i:=by simpa using hix
   cases h
   refine⟨ix,by omega,?_,λm hm=>?_,?_,by omega⟩
   ·rw[jG mask i q ix (by omega)]
   ·rw[jG mask i q m (by omega)]
    have:=hbef m hm
    simp only[Qu] at this
    rw[ind m (by omega)] at this
    dsimp only
    cases e:own o (i + m) with
    |none=>rw[e] at this;simp at this
    |some _=>rfl
   ·rw[ind ix (by omega)] at hn
    cases e:own o (i + ix) with
    |none=>rfl
    |some _=>rw[e] at hn;simp at hn
  |none=>
   rw[hf] at h
   dsimp only at h
   obtain⟨n,h1,h2,h3,h4,h5⟩:=ih _ _ j (mS mask i q) h
   have hnone:=List.find?_eq_none.mp hf
   refine⟨(runEnd mask i - i + 1) + n,by omega,?_,λm hm=>?_,h4,h5⟩
   ·rw[kl,nJ];exact h2
   ·rcases ON m (runEnd mask i - i + 1) with c |c
    ·rw[jG mask i q m (by omega)]
     have:=hnone m (N6.mpr (by omega))
     rw[ind m (by omega)] at this
     dsimp only
     cases e:own o (i + m) with
     |none=>rw[e] at this;simp at this
     |some _=>rfl
    ·obtain⟨k,rfl⟩:∃k,m=(runEnd mask i - i + 1) + k:=⟨m - (runEnd mask i - i + 1),by omega⟩
     rw[kl,nJ]
     exact h3 k (by omega)
theorem BA {mask:Nat}{o:Array (Option Nat)}(hsz:o.size=mask + 1):∀(fuel i q k:Nat),i<=mask->k < fuel->own o (fV mask k (i,q)).1=none->∃j,layClean.free mask o fuel i q=some j:=by
 intro fuel
 induction fuel with
 |zero=>intro i q k _ hk;omega
 |succ fuel ih=>
  intro i q k hi hk hn
  unfold layClean.free
  cases hf:(List.range (runEnd mask i + 1 - i)).find? λk=>(o.getD (i + k) (some 0)).isNone with
  |some k=>exact⟨_,rfl⟩
  |none=>
   dsimp only
   cases k with
   |zero=>
    have hr:=je hi
    have:=List.find?_eq_none.mp hf 0 (N6.mpr (by omega))
    have e:own o i=none:=hn
    have hi2:i < o.size:=by omega
    simp[own,Array.getD,hi2] at e this
    rw[e] at this;simp at this
   |succ k=>exact ih _ _ k (mS mask i q) (by omega) hn
structure Lay (mask:Nat)(o:Array (Option Nat))(hs:List Int):Prop where
 size:o.size=mask + 1
 all:∀k h,hs[k]? =some h->∃j,own o j=some k/\Reach mask (λx=>(own o x).isSome=true) h j
 one:∀j j' k,own o j=some k->own o j'=some k->j=j'
 le:∀j k,own o j=some k->j<=mask/\k < hs.length
def mK (hj:j < o.size):own (o.setIfInBounds j (some k)) x=if x=j then some k else own o x:=by
 unfold own
 rw[Ot,Ot,Array.getElem?_setIfInBounds]
 by_cases e:x=j
 ·subst e;simp[hj]
 ·rw[NL e,NL (λz=>e z.symm)]
def CZ {mask:Nat}(hm:BU mask){o:Array (Option Nat)}{hs:List Int}(L:Lay mask o hs)(h:Int)(hl:hs.length<=mask) :
  ∃j,layClean.free mask o (turns mask) (bits h % (mask + 1)) (bits h)=some j/\Lay mask (o.setIfInBounds j (some hs.length)) (hs ++ [h]):=by
 have hi:bits h % (mask + 1)<=mask:=Nat.lt_succ_iff.mp (Nat.mod_lt _ (Nat.succ_pos _))
 have hfree:∃j,j<=mask/\own o j=none:=by
  refine Classical.byContradiction λhc=>?_
  have hall:∀j,j<=mask->∃k,own o j=some k:=λj hj=>by
   cases e:own o j with
   |none=>exact absurd ⟨j,hj,e⟩ hc
   |some k=>exact⟨k,rfl⟩
  have nd:((List.range (mask + 1)).map λj=>(own o j).getD 0).Nodup:=by
   refine OI.mpr ?_
   refine O2 ?_ P0
   intro a b ha hb hab e
   obtain⟨ka,ea⟩:=hall a (by have:=N6.mp ha;omega)
   obtain⟨kb,eb⟩:=hall b (by have:=N6.mp hb;omega)
   rw[ea,eb] at e
   simp at e
   subst e
   exact hab (L.one a b ka ea eb)
  have:=bF (m:=List.range hs.length) nd λx hx=>by
   obtain⟨j,hj,rfl⟩:=NT.mp hx
   obtain⟨k,e⟩:=hall j (by have:=N6.mp hj;omega)
   rw[e]
   exact N6.mpr (L.le j k e).2
  simp at this
  omega
 obtain⟨j0,hj0,hn0⟩:=hfree
 obtain⟨k,hk,ek⟩:=qE hm hi (zv h) hj0
 obtain⟨j,hj⟩:=BA L.size (turns mask) _ (bits h) k hi (by unfold turns;omega) (by rw[ek];exact hn0)
 refine⟨j,hj,?_⟩
 obtain⟨n,h1,h2,h3,h4,h5⟩:=AM L.size _ _ _ _ hi hj
 have hjs:j < o.size:=by rw[L.size];omega
 have grow:∀x,(own o x).isSome=true->(own (o.setIfInBounds j (some hs.length)) x).isSome=true:=λx hx=>by
  rw[mK hjs];split
  ·rfl
  ·exact hx
 refine⟨by rw[Array.size_setIfInBounds];exact L.size,λk g hg=>?_,λa b c ea eb=>?_,λa c ea=>?_⟩
 ·rcases ON k hs.length with c |c
  ·rw[Ow c] at hg
   obtain⟨x,ex,rx⟩:=L.all k g hg
   refine⟨x,?_,rx.mono grow⟩
   rw[mK hjs,NL (λz=>?_)]
   ·exact ex
   ·subst z;rw[ex] at h4;cases h4
  ·rw[Oj c] at hg
   have:k=hs.length:=by
    have:=(NV.mp hg).1
    simp at this;omega
   subst this
   simp at hg
   subst hg
   exact⟨j,by rw[mK hjs,NG rfl],n,h1,h2,λm hm=>grow _ (h3 m hm)⟩
 ·rw[mK hjs] at ea eb
  split at ea
  ·cases ea
   split at eb
   ·omega
   ·have:=(L.le _ _ eb).2;omega
  ·split at eb
   ·cases eb
    have:=(L.le _ _ ea).2;omega
   ·exact L.one _ _ _ ea eb
 ·rw[mK hjs] at ea
  rw[Oe]
  split at ea
  ·cases ea;simp;omega
  ·have:=L.le _ _ ea;simp;omega
theorem zq {mask:Nat}(hm:BU mask):∀(rest hs:List Int) (o:Array (Option Nat)),Lay mask o hs->hs.length + rest.length<=mask->
  ∃o',rest.foldl (init:=some (o,hs.length)) (λacc h=>do
   let (owner,k) <-acc
   let j <-layClean.free mask owner (turns mask) (bits h % (mask + 1)) (bits h)
   pure (owner.setIfInBounds j (some k),k + 1))=some (o',hs.length + rest.length)/\Lay mask o' (hs ++ rest)
 | [],hs,o,L,_=>⟨o,rfl,by rw[PH];exact L⟩
 |h :: rest,hs,o,L,hl=>by
  simp only[N0] at hl
  obtain⟨j,e,L'⟩:=CZ hm L h (by omega)
  obtain⟨o',e',L2⟩:=zq hm rest (hs ++ [h]) _ L' (by simp;omega)
  refine⟨o',?_,by rw[Pp] at L2;exact L2⟩
  rw[Qo]
  simp only[Option.bind_eq_bind,Option.bind_some,e,Option.pure_def]
  have el:(hs ++ [h]).length=hs.length + 1:=by simp
  rw[el] at e'
  simp only[Option.bind_eq_bind,Option.pure_def] at e'
  rw[e']
  simp;omega
def zI (n j:Nat):own (Array.replicate n none) j=none:=by
 unfold own
 rw[Ot,Array.getElem?_replicate]
 split <;> rfl
def Gg (mask:Nat):Lay mask (Array.replicate (mask + 1) none) []:=
 ⟨by simp,λk h e=>by simp at e,λj j' k e _=>by (rw[zI] at e;cases e),λj k e=>by (rw[zI] at e;cases e)⟩
def Az {mask:Nat}(hm:BU mask)(hs:Array Int)(hl:hs.size * 5 < mask * 3)(finger moves:Nat)(led:Bool) :
  ∃t order,laid mask finger moves led true hs=some (t,order)/\t.led=led/\t.mask=mask/\order.toList.Nodup/\(∀k,k∈order.toList↔k < hs.size)/\
   Tab t (order.toList.map λk=>hs.toList.getD k 0):=by
 obtain⟨o,e,L⟩:=zq hm hs.toList [] _ (Gg mask) (by simp;omega)
 simp only[nil_append] at L
 have ec:layClean mask hs=some o:=by
  unfold layClean
  rw[<-Array.foldl_toList]
  simp only[Qn] at e
  rw[e];rfl
 have hlive:∀j k,(j,k)∈((List.range (mask + 1)).filterMap λj=>(o.getD j none).map (j, ·))↔own o j=some k:=λj k=>by
  rw[Pd]
  constructor
  ·rintro⟨x,_,q⟩
   cases ex:o.getD x none with
   |none=>rw[ex] at q;cases q
   |some y=>rw[ex] at q;simp at q;rw[<-q.1,<-q.2];exact ex
  ·intro q
   refine⟨j,N6.mpr (by have:=(L.le j k q).1;omega),?_⟩
   have:o.getD j none=some k:=q
   rw[this];rfl
 have hpw:((List.range (mask + 1)).filterMap λj=>(o.getD j none).map (j, ·)).Pairwise (λa b=>a.1 < b.1):=by
  refine List.pairwise_filterMap.mpr ?_
  refine List.Pairwise.imp ?_ List.pairwise_lt_range
  intro a b hab x hx y hy
  cases ea:o.getD a none with
  |none=>rw[ea] at hx;cases hx
  |some u=>
   cases eb:o.getD b none with
   |none=>rw[eb] at hy;cases hy
   |some v=>
    rw[ea] at hx;rw[eb] at hy
    simp at hx hy
    rw[<-hx,<-hy];exact hab
 generalize hlv:((List.range (mask + 1)).filterMap λj=>(o.getD j none).map (j, ·))=live at hlive hpw
 refine⟨{mask,place:=(live.map (·.1)).toArray,dummies:=#[],finger,led,moves,plain:=true},(live.map (·.2)).toArray,?_,rfl,rfl,?_,λk=>?_,?_⟩
 ·unfold laid
  rw[ec]
  simp only[Option.bind_eq_bind,Option.bind_some,Option.pure_def,hlv]
 ·have:(live.map (·.2)).Nodup:=by
   refine OI.mpr (O2 ?_ hpw)
   intro a b ha hb hab ee
   have h1:=(hlive a.1 a.2).mp ha
   have h2:=(hlive b.1 b.2).mp hb
   rw[ee] at h1
   have:=L.one _ _ _ h1 h2
   omega
  simpa using this
 ·rw[NT]
  constructor
  ·rintro⟨x,hx,rfl⟩
   have:=(L.le x.1 x.2 ((hlive x.1 x.2).mp hx)).2
   simpa using this
  ·intro hk
   have hk':k < hs.toList.length:=by simpa using hk
   obtain⟨j,ej,_⟩:=L.all k _ (NC hk')
   exact⟨(j,k),(hlive j k).mpr ej,rfl⟩
 ·have hord:live.length=hs.size:=by
   have a1:(live.map (·.2)).Nodup:=by
    refine OI.mpr (O2 ?_ hpw)
    intro a b ha hb hab ee
    have h1:=(hlive a.1 a.2).mp ha
    have h2:=(hlive b.1 b.2).mp hb
    rw[ee] at h1
    have:=L.one _ _ _ h1 h2
    omega
   have b1:=bF (m:=List.range hs.size) a1 λx hx=>by
    obtain⟨y,hy,rfl⟩:=NT.mp hx
    have:=(L.le y.1 y.2 ((hlive y.1 y.2).mp hy)).2
    exact N6.mpr (by simpa using this)
   have b2:=bF (l:=List.range hs.size) (m:=live.map (·.2)) P0 λx hx=>by
    have hk':x < hs.toList.length:=by simpa using N6.mp hx
    obtain⟨j,ej,_⟩:=L.all x _ (NC hk')
    exact NT.mpr ⟨(j,x),(hlive j x).mpr ej,rfl⟩
   simp at b1 b2
   omega
  refine⟨hm,rfl,?_,λj hj=>?_,?_,?_,λi j h hi hh=>?_,rfl⟩
  ·show (live.map (·.1)).toArray.toList.Pairwise _
   rw[Pa]
   exact OI.mpr hpw
  ·have:j∈live.map (·.1):=by simpa using hj
   obtain⟨x,hx,rfl⟩:=NT.mp this
   exact (L.le x.1 x.2 ((hlive x.1 x.2).mp hx)).1
  ·simp
  ·show (live.map (·.1)).toArray.size * 5 < mask * 3
   simp[hord];exact hl
  ·have hi':(live.map (·.1))[i]? =some j:=by simpa using hi
   have hh':((live.map (·.2)).map λk=>hs.toList.getD k 0)[i]? =some h:=by simpa using hh
   rw[NP] at hi'
   rw[NP,NP] at hh'
   cases ex:live[i]? with
   |none=>rw[ex] at hi';cases hi'
   |some x=>
    rw[ex] at hi' hh'
    simp at hi' hh'
    have hxl:=(hlive x.1 x.2).mp (NU ex)
    have hk:=(L.le _ _ hxl).2
    have hk2:x.2 < hs.size:=by simpa using hk
    obtain⟨j2,ej2,r⟩:=L.all x.2 h (by
     rw[NC hk]
     simp[hk2] at hh'
     simpa using hh')
    have:j2=j:=by rw[<-hi'];exact L.one _ _ _ ej2 hxl
    subst this
    refine r.mono λy hy=>?_
    show y∈(live.map (·.1)).toArray
    cases ey:own o y with
    |none=>rw[ey] at hy;cases hy
    |some k=>
     have:y∈live.map (·.1):=NT.mpr ⟨(y,k),(hlive y k).mpr ey,rfl⟩
     simpa using this
abbrev Pr:=Int×Int
def hp (p:Pr):Int:=reduceHash (Builtin.Tuple.tupleHashOf [hashInt p.1,hashInt p.2])
def Sm (p:Pr):Prop:=(0<=p.1/\p.1 < 8)/\(0<=p.2/\p.2 < 8)
def pG:List Pr:=(List.range 64).map λk=>(((k / 8:Nat):Int),((k % 8:Nat):Int))
def lJ (h:Sm p):p∈pG:=by
 unfold pG
 obtain⟨⟨a,b⟩,c,d⟩:=h
 refine NT.mpr ⟨p.1.toNat * 8 + p.2.toNat,N6.mpr (by omega),?_⟩
 refine Prod.ext ?_ ?_ <;> dsimp only <;> omega
def Ej:(pG.map hp).Nodup:=by decide +kernel
theorem nj {α β:Type}{f:α->β}:∀{l:List α},(l.map f).Nodup->∀a b,a∈l->b∈l->f a=f b->a=b
 | [],_,_,_,h,_,_=>by cases h
 |x :: l,hn,a,b,ha,hb,e=>by
  have hn':=Og.mp hn
  rcases NI.mp ha with ea |ha
  ·rcases NI.mp hb with eb |hb
   ·rw[ea,eb]
   ·exact absurd (NT.mpr ⟨b,hb,by rw[<-e,ea]⟩) hn'.1
  ·rcases NI.mp hb with eb |hb
   ·exact absurd (NT.mpr ⟨a,ha,by rw[e,eb]⟩) hn'.1
   ·exact nj hn'.2 a b ha hb e
def Iy (hp1:Sm p)(hq:Sm q)(e:hp p=hp q):p=q:=nj Ej p q (lJ hp1) (lJ hq) e
def xG {l:List Pr}(hn:l.Nodup)(h:∀p,p∈l->Sm p):l.length<=64:=by
 have:=bF (m:=pG) hn λx hx=>lJ (h x hx)
 simpa[pG] using this
section
variable {prog:Program}{w:World}{A:Around}{E:Value->Shared->Prop}{s:Shared}
abbrev bP (prog:Program)(w:World)(h:Heap)(p:Pr)(a:Addr):Prop:=IsTupleKey (intKind prog w) h [p.1,p.2] a
def bP.inj (x:bP prog w h p a)(y:bP prog w h q a):p=q:=by
 have:=IsTupleKey.inj x y
 simp at this
 exact Prod.ext this.1 this.2
structure tI (f:Pr->Int)(prog:Program)(w:World)(led:Bool)(h:Heap)(S:Addr)(ps:List (Addr×Pr)):Prop where
 ex:∃o ep t,h.get? S=some o/\o.ExactSet/\o.data=.set (ps.map λq=>(f q.2,Value.ref q.1)).toArray ep t/\Tab t (ps.map λq=>f q.2)/\t.led=led
 at':∀q,q∈ps->bP prog w h q.2 q.1/\Sm q.2
 nd:(ps.map (·.2)).Nodup
def pD (T:Tab t hs)(e:n=hs.length):t.fits n=true:=by
 unfold SetTable.fits SetTable.fill
 have:=T.load'
 simp[T.size,T.dum,e]
 rw[T.size] at this;exact this
def CJ (a:Addr)(wanted:Nat):setRelay a wanted=(do
  let (es,_,t) <-setState a
  if SetTable.sizeAbove wanted > sizeLine then unsupported "set:memory"
  let (es,t) <-(do
   let some (t,order):=t.relaid (es.map (·.1)) wanted |unsupported "internal:set-table-without-room"
   let es':=order.filterMap (es[·]?)
   if es'.size != es.size then unsupported "internal:set-table-lost-an-element"
   pure (es',t))
  storeSet a es t):=rfl
def AI (a:Addr)(x:Value)(h:Int)(fuel:Nat):setSearchFrom a x h true (fuel + 1) none=(do
  let (es,_,t) <-setState a
  if t.gaveWay then unsupported "set:on-a-table-that-gave-way"
  let some met:=t.probe (λi=>(es[i]?.map (·.1)).getD 0) h (t.probeStart h) |unsupported "internal:set-table-without-an-empty-slot"
  match met with
  | .empty j dummy=>
   match dummy with
   |none=>return .free j false
   |some d=>
    if true && t.slot d != .dummy then rule "set.search.the-dummy-was-taken";return <-setSearchFrom a x h true fuel none
    return .free d true
  | .candidate j i next=>
   if !t.led then
    if <-searchCouldBeSeen x ((es.filter (·.1 == h)).toList.map (·.2)) then unsupported "set:the-search-would-show-the-table"
   let some (_,y):=es[i]? |unsupported "internal:set-entry"
   let equal <-holding [y] (eqBool y x)
   let (es',_,t') <-setState a
   if true && equal then return .there none
   let some same:=t'.sameMemory t.moves t.mask |unsupported "set.changed-during-lookup:is-the-new-block-at-the-old-address"
   let still <-match (if same then t'.slot j else .empty) with
    | .live i'=>match es'[i']? with
     |some (_,y')=>do pure (if <-isSame y' y then some i' else none)
     |none=>pure none
    |_=>pure none
   match still with
   |none=>rule "set.search.anew";setSearchFrom a x h true fuel none
   |some i'=>if equal then return .there (some i') else setSearchFrom a x h true fuel (some next)):=rfl
theorem wL (n:Nat)(h:carriedByValue v=true):ofAClassStatement n v=pure false:=by
 cases v with
 |ref a=>simp[carriedByValue] at h
 |_=>first |rfl | (unfold ofAClassStatement;rfl)
def xy (n:Nat)(h:(intKind prog w).is k v=true):hashByValue n v=pure true:=by
 obtain⟨t,rfl⟩:=Po h
 cases n <;> rfl
def mU {Q:Bool->Shared->Prop}(hk:bP prog w s.heap p a)(h:Q false s):wpAny (model prog w) A (ofAClassStatement 8 (.ref a)) Q E s:=by
 have hT:=hk.typeIs
 obtain⟨o,items,n,ho,hc,hd,hi⟩:=hk
 unfold ofAClassStatement
 refine NA (PZ hT ?_)
 dsimp only
 rw[NG (by decide)]
 refine NA (NF ?_)
 simp only[P7,NZ,Ou]
 refine NA (wpAny_seqItems ho hd ?_)
 dsimp only
 refine NA ?_
 rw[<-Array.forIn_toList]
 refine wpAny_forIn_list _ (λrest r s'=>r.1=none/\s'=s/\∀v∈rest,carriedByValue v=true) _ ?_ ?_ _ _ ⟨rfl,rfl,hi.byValue⟩
 ·rintro v rest r s' ⟨hr,rfl,hall⟩
  rw[wL _ (hall v NN)]
  refine NA (NF ?_)
  simp only[NZ,Ou]
  exact NF ⟨rfl,rfl,λu hu'=>hall u (NJ _ hu')⟩
 ·rintro⟨r1,r2⟩ s' ⟨hr,rfl,_⟩
  simp only at hr
  subst hr
  exact NF h
def vA {Q:Bool->Shared->Prop}(hk:bP prog w s.heap p a)(h:Q true s):wpAny (model prog w) A (hashByValue 8 (.ref a)) Q E s:=by
 have hT:=hk.typeIs
 obtain⟨o,items,n,ho,hc,hd,hi⟩:=hk
 unfold hashByValue
 refine NA (wpAny_specialOf hT F.slot_tuple_hash.lookup ?_)
 dsimp only
 refine NA (wpAny_seqItems ho hd ?_)
 simp only[Option.getD_some]
 refine NA ?_
 rw[<-Array.forIn_toList]
 refine wpAny_forIn_list _ (λrest r s'=>r.1=none/\s'=s/\∀v∈rest,∃k,(intKind prog w).is k v=true) _ ?_ ?_ _ _ ⟨rfl,rfl,λv hv=>?_⟩
 ·rintro v rest r s' ⟨hr,rfl,hall⟩
  obtain⟨k,hk⟩:=hall v NN
  rw[xy _ hk]
  refine NA (NF ?_)
  simp only[P7,NZ,Ou]
  exact NF ⟨rfl,rfl,λu hu'=>hall u (NJ _ hu')⟩
 ·rintro⟨r1,r2⟩ s' ⟨hr,rfl,_⟩
  simp only at hr
  subst hr
  exact NF h
 ·generalize items.toList=l at *
  cases hi with
  |cons h1 hi=>
   cases hi with
   |cons h2 hi=>
    cases hi
    rcases NI.mp hv with rfl |hv
    ·exact⟨_,h1⟩
    ·rcases NI.mp hv with rfl |hv
     ·exact⟨_,h2⟩
     ·cases hv
def yf (hk:bP prog w s.heap p a):∀(l:List Value) {Q:Bool->Shared->Prop},(∀v∈l,∃q b,v=.ref b/\bP prog w s.heap q b)->Q false s->wpAny (model prog w) A (searchCouldBeSeen (.ref a) l) Q E s:=by
 intro l Q hl h
 unfold searchCouldBeSeen
 refine NA ?_
 refine wpAny_forIn_list _ (λrest r s'=>r.1=none/\s'=s/\∀v∈rest,∃q b,v=.ref b/\bP prog w s.heap q b) _ ?_ ?_ _ _ ⟨rfl,rfl,hl⟩
 ·rintro v rest r s' ⟨hr,rfl,hall⟩
  obtain⟨q,b,rfl,hb⟩:=hall v NN
  have hrest:=λu hu'=>hall u (NJ _ hu')
  dsimp only
  split
  ·exact NF ⟨rfl,rfl,hrest⟩
  ·refine NA (wpAny_eqIsQuiet_tuple hk ?_)
   simp only[P7,NZ,Ou]
   refine NA (wpAny_eqIsQuiet_tuple hb ?_)
   simp only[P7,NZ,Ou]
   refine NA (mU hk ?_)
   simp only[NZ,Ou]
   refine NA (mU hb ?_)
   simp only[NZ,Ou]
   exact NF ⟨rfl,rfl,hrest⟩
 ·rintro⟨r1,r2⟩ s' ⟨hr,rfl,_⟩
  simp only at hr
  subst hr
  exact NF h
end
section
variable {prog:Program}{w:World}{A:Around}{E:Value->Shared->Prop}{s:Shared}
def wN (t:SetTable)(hs:Array Int)(wanted:Nat)(hp:t.plain=true):t.relaid hs wanted=laid (sizeAbove wanted - 1) t.finger (t.movedTo (sizeAbove wanted - 1)) t.led true hs:=by
 unfold relaid;rw[hp]
def He:sizeAbove (grown 5)=32/\sizeAbove (grown 19)=128:=by decide +kernel
theorem filterMap_get {α:Type}(es:Array α):∀(order:List Nat),(∀k,k∈order->k < es.size)->∃l:List α,order.filterMap (λi=>es[i]?)=l/\l.length=order.length/\(∀(i k:Nat),order[i]? =some k->l[i]? =es[k]?)/\∀x,x∈l->∃k,k∈order/\es[k]? =some x
 | [],_=>⟨[],rfl,rfl,λi k h=>by simp at h,λx hx=>by cases hx⟩
 |k :: r,h=>by
  obtain⟨l,e1,e2,e3,e4⟩:=filterMap_get es r λx hx=>h x (NJ _ hx)
  have hk:=h k (NN ..)
  refine⟨es[k] :: l,by rw[Ql,Od hk,e1],by simp[e2],λi x hi=>?_,λx hx=>?_⟩
  ·cases i with
   |zero=>simp at hi;subst hi;simp[hk]
   |succ i=>simp at hi;simpa using e3 i x hi
  ·rcases NI.mp hx with rfl |hx
   ·exact⟨k,NN ..,by simp[hk]⟩
   ·obtain⟨y,hy,q⟩:=e4 x hx
    exact⟨y,NJ _ hy,q⟩
abbrev dY (f:Pr->Int)(q:Addr×Pr):Int×Value:=(f q.2,Value.ref q.1)
def uS (f:Pr->Int){mask:Nat}(hm:BU mask){ps:List (Addr×Pr)}(hl:ps.length * 5 < mask * 3)(finger moves:Nat)(led:Bool) :
  ∃(t:SetTable) (order:Array Nat) (ps':List (Addr×Pr)),laid mask finger moves led true ((ps.map (dY f)).toArray.map (·.1))=some (t,order)/\order.filterMap (λi=>(ps.map (dY f)).toArray[i]?)=(ps'.map (dY f)).toArray/\ps'.length=ps.length/\
   (∀q,q∈ps'↔q∈ps)/\Tab t (ps'.map λq=>f q.2)/\t.led=led:=by
 obtain⟨t,order,e,el,em,nd,mem,T⟩:=Az hm ((ps.map (dY f)).toArray.map (·.1)) (by simpa using hl) finger moves led
 have hsz:((ps.map (dY f)).toArray.map (·.1)).size=ps.length:=by simp
 obtain⟨ps',f1,f2,f3,f4⟩:=filterMap_get ps.toArray order.toList λk hk=>by
  have:=(mem k).mp hk;rw[hsz] at this;simpa using this
 have hlen:order.toList.length=ps.length:=by
  have a1:=bF (m:=List.range ps.length) nd λx hx=>N6.mpr (by have:=(mem x).mp hx;rwa [hsz] at this)
  have a2:=bF (l:=List.range ps.length) (m:=order.toList) P0 λx hx=>(mem x).mpr (by rw[hsz];exact N6.mp hx)
  simp at a1 a2 ⊢;omega
 refine⟨t,order,ps',e,?_,by omega,λq=>⟨λhq=>?_,λhq=>?_⟩,?_,el⟩
 ·apply Array.toList_inj.mp
  rw[Array.toList_filterMap,<-f1]
  simp only[Pa]
  rw[List.map_filterMap]
  congr 1
  funext i
  simp
 ·obtain⟨k,_,q2⟩:=f4 q hq
  rw[PJ] at q2
  exact NU q2
 ·obtain⟨k,hk,q2⟩:=Ol.mp hq
  have hko:k∈order.toList:=(mem k).mpr (by rw[hsz];exact hk)
  obtain⟨i,hi,e2⟩:=Ol.mp hko
  have:=f3 i k (by rw[NC hi,e2])
  rw[PJ,NC hk,q2] at this
  exact NU this
 ·have:(order.toList.map λk=>((ps.map (dY f)).toArray.map (·.1)).toList.getD k 0)=ps'.map λq=>f q.2:=by
   apply QA
   intro i
   rw[NP,NP]
   cases hi:order.toList[i]? with
   |none=>
    have:ps'[i]? =none:=List.getElem?_eq_none_iff.mpr (by rw[f2];exact List.getElem?_eq_none_iff.mp hi)
    rw[this];rfl
   |some k=>
    have hk:k < ps.length:=by have:=(mem k).mp (NU hi);rwa [hsz] at this
    have:=f3 i k hi
    rw[PJ,NC hk] at this
    rw[this]
    simp[hk]
  rw[<-this];exact T
theorem oJ:∀{l m:List Int},m.Nodup->(∀x,x∈m->x∈l)->l.length<=m.length->l.Nodup
 | [],_,_,_,_=>PX
 |a :: l,m,hn,hs,hl=>by
  by_cases ha:a∈m
  ·have hnot:a∉l:=λz=>by
    have:=bF (m:=l) hn λx hx=>by
     rcases NI.mp (hs x hx) with e |e
     ·rw[e];exact z
     ·exact e
    simp only[N0] at hl;omega
   refine Og.mpr ⟨hnot,oJ (m:=m.erase a) (hn.erase a) (λx hx=>?_) ?_⟩
   ·have:=(hn.mem_erase_iff).mp hx
    rcases NI.mp (hs x this.2) with e |e
    ·exact absurd e this.1
    ·exact e
   ·rw[Qt ha];simp only[N0] at hl;omega
  ·have:=bF (m:=l) hn λx hx=>by
    rcases NI.mp (hs x hx) with e |e
    ·exact absurd (e▸hx) ha
    ·exact e
   simp only[N0] at hl;omega
def uh (a:Addr)(es:Array (Int×Value)):byScan (.ref a) es=false:=by unfold byScan Value.scannable;simp
def yp {t:SetTable}(h:BU t.mask):t.gaveWay=false:=by
 unfold SetTable.gaveWay
 rcases h with e |e |e <;> rw[e] <;> decide
def tI.add {f:Pr->Int}(hinj:∀p q,Sm p->Sm q->f p=f q->p=q){led:Bool}{S a:Addr}{ps:List (Addr×Pr)}{p:Pr}{Q:Bool->Shared->Prop}(P:tI f prog w led s.heap S ps)(hk:bP prog w s.heap p a)(hs:Sm p)(hu:A.units < cLine)
  (h:∀(b:Bool) (h':Heap) (ps':List (Addr×Pr)),Heap.SameBut S s.heap h'->tI f prog w led h' S ps'->(∀q,q∈ps'->q∈ps\/q=(a,p))->(∀q,q∈ps->q∈ps')->(∃q,q∈ps'/\q.2=p)->Q b {s with heap:=h'}) :
  wpAny (model prog w) A (setAddHashed S (.ref a) (f p)) Q E s:=by
 obtain⟨o,ep,t,ho,hex,hd,T,hled⟩:=P.ex
 have hfit:t.fits (ps.map (dY f)).toArray.size=true:=pD T (by simp)
 have ha:∀i,i < (ps.map λq=>f q.2).length->some ((((ps.map (dY f)).toArray)[i]?.map (·.1)).getD 0)=(ps.map λq=>f q.2)[i]?:=λi hi=>by
  have hi':i < ps.length:=by simpa using hi
  simp[hi']
 unfold setAddHashed
 refine OS ?_
 unfold setAddHashedIn
 refine NA (OD ho hd hfit ?_)
 dsimp only
 rw[uh]
 simp only[NZ,Ou]
 unfold setSearch
 rw[AI]
 refine NA (NA (OD ho hd hfit ?_))
 dsimp only
 rw[yp T.mask]
 simp only[NZ,Ou]
 by_cases hm:f p∈ps.map λq=>f q.2
 ·
  obtain⟨j,i,nx,e1,e2,e3,e4⟩:=T.present ha hm
  rw[e1]
  dsimp only
  have hi:i < ps.length:=by simpa using e3
  have e5:f (ps[i].2)=f p:=by
   rw[NP,NC hi] at e4
   simpa using e4
  have hq:=P.at' ps[i] (OY hi)
  have e6:ps[i].2=p:=hinj _ _ hq.2 hs e5
  have hget:((ps.map (dY f)).toArray)[i]? =some (f ps[i].2,.ref ps[i].1):=by simp[hi]
  have rest:wpAny (model prog w) A (do
    let some (_,y):=((ps.map (dY f)).toArray)[i]? |unsupported "internal:set-entry"
    let equal <-holding [y] (eqBool y (.ref a))
    let (es',_,t') <-setState S
    if true && equal then return SetFound.there none
    let some same:=t'.sameMemory t.moves t.mask |unsupported "set.changed-during-lookup:is-the-new-block-at-the-old-address"
    let still <-match (if same then t'.slot j else .empty) with
     | .live i'=>match es'[i']? with
      |some (_,y')=>do pure (if <-isSame y' y then some i' else none)
      |none=>pure none
     |_=>pure none
    match still with
    |none=>rule "set.search.anew";setSearchFrom S (.ref a) (f p) true 99999 none
    |some i'=>if equal then return .there (some i') else setSearchFrom S (.ref a) (f p) true 99999 (some nx))
    (λr s'=>s'=s/\r=.there none) E s:=by
   rw[hget]
   dsimp only
   refine NA (OS (wpAny_eqBool_tuple hu hq.1 hk ?_))
   rw[NK (by rw[e6])]
   refine NA (OD ho hd hfit ?_)
   dsimp only
   simp only[Bool.and_self,OR]
   exact NF ⟨rfl,rfl⟩
  have fin:∀r s',s'=s/\r=SetFound.there none->wpAny (model prog w) A (match r with
    | .free slot wasDummy=>(do
     let (es,_,t) <-setState S
     let (t,p'):=t.put slot
     let byValue <-if t.plain then hashByValue 8 (.ref a) else pure true
     let t:=if byValue then t else {t with plain:=false}
     storeSet S (SetTable.insertAt es p' (f p,.ref a)) t
     if !wasDummy && t.tooFull then setRelay S (SetTable.grown (es.size + 1))
     return true)
    |_=>pure false) Q E s':=by
   rintro r s' ⟨rfl,rfl⟩
   exact NF (h false s'.heap ps (Heap.SameBut.refl ..) P (λq hq=>.inl hq) (λq hq=>hq) ⟨ps[i],OY hi,e6⟩)
  cases hl:led with
  |true=>
   rw[hled,hl]
   simp only[P7,NZ,Ou]
   exact OX rest (λr s' hr=>fin r s' hr) λ_ _ x=>x
  |false=>
   rw[hled,hl]
   simp only[Bool.not_false,OR]
   refine NA (yf hk _ (λv hv=>?_) ?_)
   ·obtain⟨x,hx,rfl⟩:=NT.mp hv
    have hx':x∈(ps.map (dY f)).toArray:=(Array.mem_filter.mp (PN.mp hx)).1
    have hx2:x∈ps.map (dY f):=by simpa using hx'
    obtain⟨q,hq,rfl⟩:=NT.mp hx2
    exact⟨q.2,q.1,rfl,(P.at' q hq).1⟩
   ·simp only[NZ,Ou]
    exact OX rest (λr s' hr=>fin r s' hr) λ_ _ x=>x
 ·
  obtain⟨j,e1,e2,e3,e4⟩:=T.absent ha hm
  rw[e1]
  dsimp only
  refine NF ?_
  dsimp only
  refine NA (OD ho hd hfit ?_)
  dsimp only
  obtain⟨q1,q2⟩:=sN t j T.dum
  have hpl:(t.put j).1.plain=true:=by rw[q1];exact T.plain
  rw[hpl]
  simp only[OR]
  refine NA (vA hk ?_)
  simp only[OR]
  have hb:(t.put j).2<=ps.length:=by
   rw[q2]
   have:=(dG T.rise j).1
   rw[T.size] at this;simpa using this
  have hins:insertAt (ps.map (dY f)).toArray (t.put j).2 (f p,Value.ref a)=((ps.take (t.put j).2 ++ (a,p) :: ps.drop (t.put j).2).map (dY f)).toArray:=by
   apply Array.toList_inj.mp
   rw[bZ _ _ _ (by simpa using hb)]
   simp[List.map_take,List.map_drop]
  rw[hins]
  generalize hps':ps.take (t.put j).2 ++ (a,p) :: ps.drop (t.put j).2=ps1
  have mem1:∀q,q∈ps1↔q∈ps\/q=(a,p):=λq=>by
   rw[<-hps',N7,NI]
   conv=>rhs;rw[<-List.take_append_drop (t.put j).2 ps,N7]
   constructor
   ·rintro (z |z |z)
    ·exact .inl (.inl z)
    ·exact .inr z
    ·exact .inl (.inr z)
   ·rintro ((z |z) |z)
    ·exact .inl z
    ·exact .inr (.inr z)
    ·exact .inr (.inl z)
  have len1:ps1.length=ps.length + 1:=by rw[<-hps'];simp;omega
  have nd1:(ps1.map (·.2)).Nodup:=by
   have hnot:p∉ps.map (·.2):=λz=>by
    obtain⟨q,hq,e⟩:=NT.mp z
    exact hm (NT.mpr ⟨q,hq,by rw[e]⟩)
   have perm:(ps1.map (·.2)).Perm (p :: ps.map (·.2)):=by
    rw[<-hps']
    have:(ps.take (t.put j).2 ++ (a,p) :: ps.drop (t.put j).2).Perm ((a,p) :: ps):=by
     refine List.perm_middle.trans ?_
     rw[List.take_append_drop]
    exact this.map (·.2)
   exact perm.nodup_iff.mpr (Og.mpr ⟨hnot,P.nd⟩)
  have ne:∀b q,bP prog w s.heap q b->b≠S:=λb q ⟨o',_,_,ho',_,hd',_⟩ e=>by
   subst e
   rw[ho] at ho';cases ho'
   rw[hd] at hd';cases hd'
  have at1:∀{h':Heap},Heap.SameBut S s.heap h'->∀q,q∈ps1->bP prog w h' q.2 q.1/\Sm q.2:=λ{h'} hsb q hq=>by
   have key:∀{b:Addr} {q:Pr},bP prog w s.heap q b->bP prog w h' q b:=λ{b q} hb=>by
    have hne:=ne b q hb
    obtain⟨o',i',n',ho',r'⟩:=hb
    exact⟨o',i',n',(hsb.2 b hne).trans ho',r'⟩
   rcases (mem1 q).mp hq with z |z
   ·exact⟨key (P.at' q z).1,(P.at' q z).2⟩
   ·subst z;exact⟨key hk,hs⟩
  have hlen64:ps1.length<=64:=by
   have:=xG nd1 λx hx=>by
    obtain⟨q,hq,rfl⟩:=NT.mp hx
    exact (at1 (Heap.SameBut.refl ..) q hq).2
   simpa using this
  have hsize:((ps1.map (dY f)).toArray).size<=sizeLine:=by rw[N8];simp;omega
  refine NA (wpAny_storeSet_of ho hd ?_ hsize)
  have ho1:(s.heap.update S (Obj.putSet (ps1.map (dY f)).toArray (t.put j).1)).get? S=some {o with data:=.set (ps1.map (dY f)).toArray (ep + 1) (t.put j).1}:=by
   have:=OB (Obj.putSet (ps1.map (dY f)).toArray (t.put j).1) ho (by rw[putSet_of _ _ hd];rfl)
   rw[putSet_of _ _ hd] at this;exact this
  have sb1:=Heap.SameBut.update s.heap S (Obj.putSet (ps1.map (dY f)).toArray (t.put j).1)
  have hex1:({o with data:=.set (ps1.map (dY f)).toArray (ep + 1) (t.put j).1}:Obj).ExactSet:=hex
  have psz:(t.put j).1.place.size=ps.length + 1:=by
   rw[q1]
   show (insertAt t.place (below t.place j) j).size=_
   rw[<-P6,bZ _ _ _ (dG T.rise j).1]
   have:=T.size
   simp at this ⊢
   have:=(dG T.rise j).1
   omega
  have dum1:(t.put j).1.dummies=#[]:=by rw[q1];exact T.dum
  have mask1:(t.put j).1.mask=t.mask:=by rw[q1]
  have tsz:t.place.size=ps.length:=by simpa using T.size
  simp only[Bool.not_false,Bool.true_and]
  cases htf:(t.put j).1.tooFull with
  |false=>
   simp only[NZ,Ou]
   have hload:(t.place.size + 1) * 5 < t.mask * 3:=by
    unfold SetTable.tooFull SetTable.fill at htf
    rw[psz,dum1,mask1] at htf
    simp at htf
    rw[tsz];exact htf
   obtain⟨T1,_⟩:=T.put e2 e3 e4 hload
   refine NA (NF (NF (h true _ ps1 sb1 ⟨⟨_,ep + 1,_,ho1,hex1,rfl,?_,?_⟩,at1 sb1,nd1⟩ (λq hq=>(mem1 q).mp hq) (λq hq=>(mem1 q).mpr (.inl hq)) ⟨(a,p),(mem1 _).mpr (.inr rfl),rfl⟩)))
   ·rw[<-hps']
    simpa[List.map_take,List.map_drop] using T1
   ·rw[q1];exact hled
  |true=>
   simp only[OR]
   have hfull:t.mask * 3<=(ps.length + 1) * 5:=by
    unfold SetTable.tooFull SetTable.fill at htf
    rw[psz,dum1,mask1] at htf
    simpa using htf
   have hload:=T.load
   rw[tsz] at hload
   have hcase:∃mask',BU mask'/\sizeAbove (grown (ps.length + 1)) - 1=mask'/\sizeAbove (grown (ps.length + 1))<=sizeLine/\(ps.length + 1) * 5 < mask' * 3:=by
    rcases T.mask with e |e |e
    ·have:ps.length + 1=5:=by rw[e] at hfull hload;omega
     rw[this,He.1]
     exact⟨31,.inr (.inl rfl),rfl,by rw[N8];decide,by decide⟩
    ·have:ps.length + 1=19:=by rw[e] at hfull hload;omega
     rw[this,He.2]
     exact⟨127,.inr (.inr rfl),rfl,by rw[N8];decide,by decide⟩
    ·rw[e] at hfull;omega
   obtain⟨mask',hm3,em,hline,hl2⟩:=hcase
   have hes:(ps.map (dY f)).toArray.size + 1=ps.length + 1:=by simp
   rw[hes,CJ]
   have hfit1:(t.put j).1.fits ((ps1.map (dY f)).toArray).size=true:=by
    unfold SetTable.fits SetTable.fill
    have hpl2:ps.length + 1<=t.mask:=by
     rcases T.mask with e |e |e <;> rw[e] at hload ⊢ <;> omega
    rw[psz,dum1,mask1]
    simp[len1,hpl2]
   refine NA (NA (OD ho1 rfl hfit1 ?_))
   dsimp only
   rw[NL (by omega)]
   rw[wN _ _ _ hpl,em]
   obtain⟨t2,order,ps2,g1,g2,g3,g4,g5,g6⟩:=uS f hm3 (ps:=ps1) (by rw[len1];exact hl2) (t.put j).1.finger ((t.put j).1.movedTo mask') (t.put j).1.led
   rw[g1]
   simp only[bind_pure_comp,pure_bind]
   rw[g2]
   have hne:((ps2.map (dY f)).toArray.size != (ps1.map (dY f)).toArray.size)=false:=by simp[g3]
   rw[hne]
   simp only[NZ,Ou]
   have hsize2:((ps2.map (dY f)).toArray).size<=sizeLine:=by rw[N8];simp;omega
   refine NA (NF ?_)
   refine wpAny_storeSet_of ho1 rfl ?_ hsize2
   have ho2:((s.heap.update S (Obj.putSet (ps1.map (dY f)).toArray (t.put j).1)).update S (Obj.putSet (ps2.map (dY f)).toArray t2)).get? S=some {o with data:=.set (ps2.map (dY f)).toArray (ep + 1 + 1) t2}:=by
    have:=OB (Obj.putSet (ps2.map (dY f)).toArray t2) ho1 (by rw[putSet_of (ep:=ep + 1) _ _ rfl];rfl)
    rw[putSet_of (ep:=ep + 1) _ _ rfl] at this;exact this
   have sb2:=sb1.trans (Heap.SameBut.update _ S (Obj.putSet (ps2.map (dY f)).toArray t2))
   have nd2:(ps2.map (·.2)).Nodup:=by
    have hmem:∀q,q∈ps2.map (·.2)↔q∈ps1.map (·.2):=λq=>by
     rw[NT,NT]
     exact⟨λ⟨x,hx,e⟩=>⟨x,(g4 x).mp hx,e⟩,λ⟨x,hx,e⟩=>⟨x,(g4 x).mpr hx,e⟩⟩
    have hnd:(ps2.map λq=>f q.2).Nodup:=by
     refine oJ (m:=ps1.map λq=>f q.2) ?_ (λx hx=>?_) (by simp[g3])
     ·have:(ps1.map λq=>f q.2)=(ps1.map (·.2)).map f:=by simp
      rw[this]
      refine OI.mpr (O2 ?_ nd1)
      intro x y hx hy hxy e
      obtain⟨q,hq,rfl⟩:=NT.mp hx
      obtain⟨r,hr,rfl⟩:=NT.mp hy
      exact hxy (hinj _ _ (at1 sb1 q hq).2 (at1 sb1 r hr).2 e)
     ·obtain⟨q,hq,rfl⟩:=NT.mp hx
      exact NT.mpr ⟨q,(g4 q).mpr hq,rfl⟩
    have:(ps2.map λq=>f q.2)=(ps2.map (·.2)).map f:=by simp
    rw[this] at hnd
    exact (OI.mp hnd).imp λhxy e=>hxy (by rw[e])
   refine NF (h true _ ps2 sb2 ⟨⟨_,ep + 1 + 1,t2,ho2,hex,rfl,g5,?_⟩,λq hq=>at1 sb2 q ((g4 q).mp hq),nd2⟩ (λq hq=>(mem1 q).mp ((g4 q).mp hq)) (λq hq=>(g4 q).mpr ((mem1 q).mpr (.inl hq))) ⟨(a,p),(g4 _).mpr ((mem1 _).mpr (.inr rfl)),rfl⟩)
   rw[g6,q1];exact hled
end
def gi (w:World):Bool:= !(w.params.followText "set-order")
def BI (prog:Program)(w:World)(p:Pr):Int:=tupleKeyHash (intKind prog w) [p.1,p.2]
def Ff (prog:Program)(w:World):∀p q,Sm p->Sm q->BI prog w p=BI prog w q->p=q:=λp q h1 h2 e=>Iy h1 h2 e
section
variable {prog:Program}{w:World}{A:Around}{E:Value->Shared->Prop}{s:Shared}{R:Result->Shared->Prop}{I:Addr}{fp wr:List Addr}{n:Nat}{P:Nat->Value->Prop}{St:Nat->Heap->Prop}
def cX (prog:Program)(w:World)(h:Heap)(vs:List Value)(ps:List Pr):Prop:=vs.length=ps.length/\∀(i:Nat) (v:Value) (p:Pr),vs[i]? =some v->ps[i]? =some p->∃a,v=.ref a/\bP prog w h p a/\Sm p
abbrev pz (prog:Program)(w:World)(h:Heap)(S:Addr)(vs:List Value)(ps:List Pr)(k:Nat):Prop:=∃qs:List (Addr×Pr),tI (BI prog w) prog w (gi w) h S qs/\
 (∀q,q∈qs->Value.ref q.1∈vs.take k/\q.2∈ps.take k)/\∀p,p∈ps.take k->p∈qs.map (·.2)
theorem mT (W:Walks prog w A.in1 I fp wr n P St)(S:Addr)(hSf:S∉fp){ps:List Pr}(hn:vs.length=n)(hP:∀i v,P i v->vs[i]? =some v)(hu:A.in1.units < cLine)(h₀:Heap)
  (hps:cX prog w h₀ vs ps) (hwr:∀b o,b∈S :: wr->h₀.get? b=some o->False):∀(k i:Nat) (s:Shared),n - i=k->i<=n->St i s.heap->(∀b o,h₀.get? b=some o->s.heap.get? b=some o)->pz prog w s.heap S vs ps i->
   (∀h' tk,(∀b o,b∉S :: wr->s.heap.get? b=some o->h'.get? b=some o)->pz prog w h' S vs ps n->R (.ok (.ret .none)) {s with heap:=h',toks:=tk})->
   codeAny (model prog w) A (.builtin "set.update.loop" ⟨[.ref S,.ref I],[]⟩) R s:=by
 have nw:S∉wr:=λh=>hSf (W.sub _ h)
 intro k
 induction k with
 |zero=>
  intro i s hk hi hst hk0 hF hR
  obtain rfl:i=n:=by omega
  refine O9 PyProof.Rows.F.entry_set_update_loop ?_
  rw[PR PB _]
  show wpAny _ A.in1 (pyNext (.ref I) >>= λr=>_) _ _ s
  refine NA (W.done s _ _ hst λh' tk hm=>?_)
  show wpAny _ A.in1 (ret Value.none) _ _ _
  refine NF (hR h' tk (λb o hb e=>hm b o (λz=>hb (NJ _ z)) e) ?_)
  obtain⟨qs,Q1,Q2,Q3⟩:=hF
  obtain⟨o,ep,t,ho,r⟩:=Q1.ex
  refine⟨qs,⟨⟨o,ep,t,hm S o nw ho,r⟩,λq hq=>⟨?_,(Q1.at' q hq).2⟩,Q1.nd⟩,Q2,Q3⟩
  obtain⟨m,hm1,hm2⟩:=Ol.mp (Pj (Q2 q hq).1)
  have hm1':m < ps.length:=by rw[<-hps.1];exact hm1
  obtain⟨a,ea,ha,_⟩:=hps.2 m vs[m] ps[m] (NC hm1) (NC hm1')
  rw[hm2] at ea
  cases ea
  obtain⟨o',it',n',ho',r'⟩:=(Q1.at' q hq).1
  obtain⟨o2,it2,n2,ho2,r2⟩:=ha
  have:o'=o2:=Option.some.inj (ho'.symm.trans (hk0 _ _ ho2))
  subst this
  exact⟨o',it',n',hm _ _ (λz=>hwr _ _ (NJ _ z) ho2) ho',r'⟩
 |succ k ih=>
  intro i s hk hi hst hk0 hF hR
  have hlt:i < n:=by omega
  refine O9 PyProof.Rows.F.entry_set_update_loop ?_
  rw[PR PB _]
  show wpAny _ A.in1 (pyNext (.ref I) >>= λr=>_) _ _ s
  refine NA (W.item i s _ _ hlt hst λv h1 tk1 hv hst1 hm=>?_)
  have hvi:=hP i v hv
  have hip:i < ps.length:=by rw[<-hps.1,hn];exact hlt
  obtain⟨a,rfl,ha,hsm⟩:=hps.2 i v ps[i] hvi (NC hip)
  have k1:∀b o,h₀.get? b=some o->h1.get? b=some o:=λb o e=>hm b o (λz=>hwr b o (NJ _ z) e) (hk0 b o e)
  obtain⟨qs,Q1,Q2,Q3⟩:=hF
  have old:∀{q:Addr×Pr} {h:Heap},q∈qs->(∀b o,h₀.get? b=some o->h.get? b=some o)->bP prog w h q.2 q.1:=λ{q h} hq kk=>by
   obtain⟨m,hm1,hm2⟩:=Ol.mp (Pj (Q2 q hq).1)
   have hm1':m < ps.length:=by rw[<-hps.1];exact hm1
   obtain⟨a,ea,ha,_⟩:=hps.2 m vs[m] ps[m] (NC hm1) (NC hm1')
   rw[hm2] at ea
   cases ea
   obtain⟨o',it',n',ho',r'⟩:=(Q1.at' q hq).1
   obtain⟨o2,it2,n2,ho2,r2⟩:=ha
   have:o'=o2:=Option.some.inj (ho'.symm.trans (hk0 _ _ ho2))
   subst this
   exact⟨o',it',n',kk _ _ ho2,r'⟩
  have P1:tI (BI prog w) prog w (gi w) h1 S qs:=by
   obtain⟨o,ep,t,ho,r⟩:=Q1.ex
   exact⟨⟨o,ep,t,hm S o nw ho,r⟩,λq hq=>⟨old hq k1,(Q1.at' q hq).2⟩,Q1.nd⟩
  have ha1:bP prog w h1 ps[i] a:=by
   obtain⟨o',it',n',ho',r'⟩:=ha
   exact⟨o',it',n',k1 _ _ ho',r'⟩
  show wpAny _ A.in1 (holding [Value.ref a] (setAdd S (.ref a)) >>= λ_=>_) _ _ _
  refine NA (OS ?_)
  unfold setAdd
  refine OS (NA (wpAny_pyHash_tuple hu ha1 ?_))
  refine tI.add (Ff prog w) (s:={s with heap:=h1,toks:=tk1 + ([ps[i].1,ps[i].2].length + 1)}) P1 ha1 hsm hu λb h2 qs' sb P2 m1 m2 m3=>?_
  have sbS:∀b o,h₀.get? b=some o->h2.get? b=some o:=λb o e=>(sb.2 b (λz=>hwr b o (by rw[z];exact NN) e)).trans (k1 b o e)
  refine NF ⟨plainId_quiet PB _,ih (i + 1) _ (by omega) hlt (W.frame _ _ _ hst1 λb hb o e=>?_) sbS ⟨qs',P2,λq hq=>?_,λp hp=>?_⟩ λh' tk hm' F'=>?_⟩
  ·rw[sb.2 b λz=>hSf (by rw[<-z];exact hb)];exact e
  ·have htk:∀{α:Type} {l:List α} {x:α},x∈l.take i->x∈l.take (i + 1):=λ{α l x} hx=>by
    rw[PM];exact OW _ hx
   rcases m1 q hq with z |z
   ·exact⟨htk (Q2 q z).1,htk (Q2 q z).2⟩
   ·subst z
    refine⟨?_,?_⟩
    ·rw[PM,hvi];exact Oo _ (by simp)
    ·rw[PM,NC hip];exact Oo _ (by simp)
  ·rw[PM,NC hip] at hp
   rcases N7.mp hp with z |z
   ·obtain⟨q,hq,rfl⟩:=NT.mp (Q3 p z)
    exact NT.mpr ⟨q,m2 q hq,rfl⟩
   ·have:p=ps[i]:=by simpa using z
    obtain⟨q,hq,e⟩:=m3
    exact NT.mpr ⟨q,hq,by rw[e,this]⟩
  ·refine hR h' tk (λb o hb e=>hm' b o hb ?_) F'
   show h2.get? b=some o
   rw[sb.2 b λz=>hb (by rw[z];exact NN)]
   exact hm b o (λz=>hb (NJ _ z)) e
def om (a:Value){Q1:Value->Shared->Prop}
  (h:Q1 (.ref s.heap.objs.size) {s with heap:=s.heap.push {cls:=.type "set",dict:=none,data:=.set #[] 0 (.fresh 0 0 (gi w))}}) :
  codeAny (model prog w) A (.call (.builtin "set.__new__") ⟨[.type "set",a],[]⟩) (wants Q1 E) s:=by
 refine codeAny_of_tree ?_
 show wpAny _ A.in1 (do (checkBuiltinCall "set.__new__" ⟨[.type "set",a],[]⟩);again (.builtin "set.__new__" ⟨[.type "set",a],[]⟩)) _ _ s
 refine NA (wpAny_of_eq (F.newCall_set_1 a) (NF ⟨plainId_quiet F.plain_set_new _,O9 F.entry_set_new ?_⟩))
 rw[PR F.plain_set_new _]
 (unfold Builtin.«set.__new__» Builtin.Frozenset.newClass)
 have hsub0:=sub_set_self
 obtain⟨hp0,g0,d0,tk0,os0⟩:=s
 dsimp only
 wp_walk
 (refine Qh (NF ?_))
 dsimp only
 simp only[newObj]
 (refine NA (wpAny_alloc (NF ?_)))
 exact NF h
def AX (led:Bool):Tab (.fresh 0 0 led) []:=
 ⟨.inl rfl,rfl,List.Pairwise.nil,λj h=>(by cases (PN.mpr h)),rfl,(by show (0:Nat) * 5 < 7 * 3;decide),λi j h e=>(by simp[SetTable.fresh] at e),rfl⟩
structure Src (prog:Program)(w:World)(h:Heap)(l:Addr)(vs:List Value)(T:String)(itO:Obj)(St:Addr->Nat->Heap->Prop):Prop where
 ty:∃o,h.get? l=some o/\o.cls=.type T
 ns:isSubtype (.type T) (.type "set")=pure false
 nf:isSubtype (.type T) (.type "frozenset")=pure false
 nd:(Value.type T == Value.type "dict")=false
 it:∀(A:Around) (s1:Shared) (Q:Value->Shared->Prop) (E:Value->Shared->Prop),(∀b o,h.get? b=some o->s1.heap.get? b=some o)->Q (.ref s1.heap.objs.size) {s1 with heap:=s1.heap.push itO}->wpAny (model prog w) A (pyIter (.ref l)) Q E s1
 st:∀(h1:Heap),(∀b o,h.get? b=some o->h1.get? b=some o)->St h1.objs.size 0 (h1.push itO)
 wk:∀(A:Around) (I:Addr),A.handled=none->l≠I->Walks prog w A I [I,l] [I] vs.length (λi v=>vs[i]? =some v) (St I)
def Src.list (hl:h.IsList l vs.toArray):Src prog w h l vs "list" {cls:=.type "list_iterator",data:=.fields #[.ref l,.int 0 0]} (λI i h'=>h'.IsListIter I l i/\h'.IsList l vs.toArray):=by
 obtain⟨o,ho,hc,n,hd⟩:=id hl
 refine⟨⟨o,ho,hc⟩,F.sub_list_set,F.sub_list_frozenset,by decide,λA s1 Q E k hQ=>Qe ⟨o,k _ _ ho,hc,n,hd⟩ hQ,λh1 k=>⟨⟨_,NQ _ rfl,rfl,rfl⟩,⟨o,ND _ (k _ _ ho),hc,n,hd⟩⟩,λA I hh hne=>?_⟩
 have:=Walks.list (prog:=prog) (w:=w) hh I l hne vs.toArray
 simpa using this
def sub_tuple_set:isSubtype (.type "tuple") (.type "set")=pure false:=by rw[Qx];kernel_rfl
def sub_tuple_frozenset:isSubtype (.type "tuple") (.type "frozenset")=pure false:=by rw[Qx];kernel_rfl
def Src.tuple (hl:h.IsTuple l vs.toArray):Src prog w h l vs "tuple" {cls:=.type "tuple_iterator",data:=.fields #[.ref l,.int 0 0]} (λI i h'=>h'.IsTupleIter I l i/\h'.IsTuple l vs.toArray):=by
 obtain⟨o,ho,hc,n,hd⟩:=id hl
 refine⟨⟨o,ho,hc⟩,sub_tuple_set,sub_tuple_frozenset,by decide,λA s1 Q E k hQ=>Qa ⟨o,k _ _ ho,hc,n,hd⟩ hQ,λh1 k=>⟨⟨_,NQ _ rfl,rfl,rfl⟩,⟨o,ND _ (k _ _ ho),hc,n,hd⟩⟩,λA I hh hne=>?_⟩
 have:=Walks.tuple (prog:=prog) (w:=w) hh I l hne vs.toArray
 simpa using this
set_option maxHeartbeats 3200000 in
theorem p7 {St:Addr->Nat->Heap->Prop}{Q:Value->Shared->Prop}(X:Src prog w s.heap l vs T itO St)(hh:A.handled=none)(hu:A.units + 64 < cLine)(hps:cX prog w s.heap vs ps)
  (h:∀(h':Heap) (tk:Nat),pz prog w h' s.heap.objs.size vs ps vs.length->(∀b o,s.heap.get? b=some o->h'.get? b=some o)->Q (.ref s.heap.objs.size) {s with heap:=h',toks:=tk}) :
  wpAny (model prog w) A (call (.type "set") [.ref l]) Q E s:=by
 obtain⟨c0,tl0,hmro0⟩:=OE.mro
 have hmade0:=OE.made
 have hsub0:=OE.sub
 refine wpAny_call (codeAny_of_tree ?_)
 show wpAny _ _ (callAny (.type "set") ⟨[.ref l],[]⟩) _ _ _
 refine NF ⟨Code.quiet_builtin _ (by decide +kernel),O9 F.entry_type_call ?_⟩
 (rw[Around.under_plain (weight_type_call_type "set" [.ref l] []) rfl])
 have g1:=OE.notType
 have g2:=OE.canCreate
 have g3:=F.typeCall_set_1 (.ref l)
 repeat (any_goals (first |assumption |wp_step))
 refine Pz (om (.ref l) (E:=E) (Q1:=λobj s1=>obj=.ref s.heap.objs.size/\s1={s with heap:=s.heap.push {cls:=.type "set",dict:=none,data:=.set #[] 0 (.fresh 0 0 (gi w))}}) ⟨rfl,rfl⟩) λr s1 hr=>?_
 cases r with
 |error e=>exact hr
 |ok fl=>
  cases fl with
  |ret obj=>
   obtain⟨rfl,rfl⟩:=hr
   generalize hO:({cls:=.type "set",dict:=none,data:=.set #[] 0 (.fresh 0 0 (gi w))}:Obj)=O
   have hS0:(s.heap.push O).get? s.heap.objs.size=some O:=NQ _ (by rw[<-hO];rfl)
   have hT0:Shared.TypeIs {s with heap:=s.heap.push O} (.ref s.heap.objs.size) "set":=⟨_,hS0,by rw[<-hO]⟩
   have g4:=OE.init.lookup
   have g5:=OE.init.bind (.ref s.heap.objs.size)
   repeat (any_goals (first |assumption |wp_step))
   refine Pz (codeAny_call_builtin (R:=wants (λr s2=>r=.none/\∃h' tk,s2={s with heap:=h',toks:=tk}/\pz prog w h' s.heap.objs.size vs ps vs.length/\(∀b o,s.heap.get? b=some o->h'.get? b=some o)) E)
    OE.init.plain F.entry_set_init (check_set_init_1 hT0 ?_)) λr2 s2 hr2=>?_
   ·obtain⟨ol,hol,hcl⟩:=X.ty
    have hol':(s.heap.push O).get? l=some ol:=ND _ hol
    have e1:=X.ns
    have e2:=X.nf
    have e3:=X.nd
    have hTl:Shared.TypeIs {s with heap:=s.heap.push O} (.ref l) T:=⟨ol,hol',hcl⟩
    have hdat:O.data=.set #[] 0 (.fresh 0 0 (gi w)):=by rw[<-hO]
    (unfold Builtin.«set.__init__» noKeywords Builtin.Frozenset.updateFrom)
    subst hO
    obtain⟨oc,od,odt,osl⟩:=ol
    simp only at hcl
    subst hcl
    (generalize hPI0:pyIter=PI0)
    wp_walk
    subst hPI0
    have kp:∀b o,s.heap.get? b=some o->(s.heap.push {cls:=.type "set",dict:=none,data:=.set #[] 0 (.fresh 0 0 (gi w))}).get? b=some o:=λb o e=>ND _ e
    refine X.it _ _ _ _ kp ?_
    refine NA (wpAny_runValue ?_)
    have hlS:l < s.heap.objs.size:=NO hol
    have hh3:A.in1.in1.in1.handled=none:=by simp[hh]
    have hneI:l≠(s.heap.push {cls:=.type "set",dict:=none,data:=.set #[] 0 (.fresh 0 0 (gi w))}).objs.size:=by
     rw[O4];exact Of (Nat.lt_succ_of_lt hlS)
    have hSf:s.heap.objs.size∉ [(s.heap.push {cls:=.type "set",dict:=none,data:=.set #[] 0 (.fresh 0 0 (gi w))}).objs.size,l]:=by
     rw[O4]
     intro z
     rcases NI.mp z with e |z
     ·exact absurd e (Of (Nat.lt_succ_self _))
     ·exact absurd (N9.mp z) (Nat.ne_of_gt hlS)
    refine mT (X.wk _ _ hh3 hneI) s.heap.objs.size hSf rfl (λi v e=>e) (by simp;omega) s.heap hps (λb o hb e=>?_) (vs.length - 0) 0 _ (by omega) (Oh _) (X.st _ kp) (λb o e=>ND _ (kp b o e)) ?_ ?_
    ·have hlt:=NO e
     rw[O4] at hb
     rcases NI.mp hb with z |z
     ·exact absurd hlt (by rw[z];exact Om _)
     ·rw[N9.mp z] at hlt
      exact absurd hlt (Nat.not_lt.mpr (PV _))
    ·refine⟨[],⟨⟨_,0,_,ND _ hS0,⟨rfl,rfl,rfl⟩,rfl,AX _,rfl⟩,λq hq=>(by cases hq),PX⟩,λq hq=>(by cases hq),λp hp=>(by simp at hp)⟩
    ·intro h' tk hm F'
     show wpAny _ _ _ _ _ _
     refine NF ?_
     show wpAny _ _ (ret Value.none) _ _ _
     refine NF ⟨rfl,h',tk,rfl,F',λb o e=>hm b o (λz=>?_) (ND _ (kp b o e))⟩
     have hlt:=NO e
     rw[O4] at z
     rcases NI.mp z with z |z
     ·exact absurd hlt (by rw[z];exact Om _)
     ·rw[N9.mp z] at hlt
      exact absurd hlt (Nat.not_lt.mpr (PV _))
   ·cases r2 with
    |error e=>exact hr2
    |ok fl2=>
     cases fl2 with
     |ret r=>
      obtain⟨rfl,h',tk,rfl,hF,hk⟩:=hr2
      repeat (any_goals (first |assumption |wp_step))
      exact h _ _ hF hk
     |_=>exact hr2.elim
  |_=>exact hr.elim
end
end L2.ST
namespace L2.SO
open PySem PySem.W PyProof.Rows
def j8 {α:Type}(lt:Nat->Nat->Bool):KasT α->α
 | .ret a=>a
 | .ask i j k=>j8 lt (k (lt i j))
theorem fo {α β:Type}(lt:Nat->Nat->Bool)(f:α->KasT β):∀t:KasT α,j8 lt (t.bind f)=j8 lt (f (j8 lt t))
 | .ret _=>rfl
 | .ask i j k=>fo lt f (k (lt i j))
def uY {α:Type}(n:Nat)(lt:Nat->Nat->Bool):KasT α->Prop
 | .ret _=>True
 | .ask i j k=>i < n/\j < n/\uY n lt (k (lt i j))
theorem il {α β:Type}{n:Nat}{lt:Nat->Nat->Bool}{f:α->KasT β}:∀{t:KasT α},uY n lt t->uY n lt (f (j8 lt t))->uY n lt (t.bind f)
 | .ret _,_,h=>h
 | .ask i j k,h,h'=>⟨h.1,h.2.1,il h.2.2 h'⟩
section
variable {n:Nat}{key:Nat->Int}
abbrev oq (key:Nat->Int)(i j:Nat):Bool:=decide (key i < key j)
abbrev Kp (key:Nat->Int)(p:Array Nat)(k:Nat):Int:=key (p.getD k 0)
structure Pm (n:Nat)(p:Array Nat):Prop where
 sz:p.size=n
 nd:p.toList.Nodup
 lt:∀x,x∈p->x < n
def Pm.at (P:Pm n p)(hk:k < n):p.getD k 0 < n:=by
 have h:k < p.size:=by rw[P.sz];exact hk
 simp only[Array.getD,h,dif_pos]
 exact P.lt _ (Qz h)
def Pm.ne (P:Pm n p)(hi:i < n)(hk:k < n)(hne:i≠k):p.getD i 0≠p.getD k 0:=by
 have h1:i < p.toList.length:=by simpa using (by rw[P.sz];exact hi:i < p.size)
 have h2:k < p.toList.length:=by simpa using (by rw[P.sz];exact hk:k < p.size)
 have h1':i < p.size:=by rw[P.sz];exact hi
 have h2':k < p.size:=by rw[P.sz];exact hk
 have a1:p.getD i 0=p.toList[i]:=by simp[Array.getD,h1']
 have a2:p.getD k 0=p.toList[k]:=by simp[Array.getD,h2']
 rw[a1,a2]
 have q:=PQ.mp P.nd
 rcases ON i k with c |c
 ·exact q i k h1 h2 c
 ·exact (q k i h2 h1 (by omega)).symm
def Pm.perm (P:Pm n p)(h:q.Perm p):Pm n q:=by
 have h':=Array.perm_iff_toList_perm.mp h
 exact⟨by rw[h.size_eq];exact P.sz,h'.nodup_iff.mpr P.nd,λx hx=>P.lt x (by simpa using h'.mem_iff.mp (by simpa using hx))⟩
def vt (n:Nat):Pm n (List.toArray (List.range n)):=⟨by simp,by simpa using P0,λx hx=>by simpa using hx⟩
def Inj (n:Nat)(key:Nat->Int):Prop:=∀i j,i < n->j < n->key i=key j->i=j
def Pm.tri (P:Pm n p)(hi:Inj n key)(h1:i < n)(h2:k < n)(hne:i≠k):Kp key p i < Kp key p k\/Kp key p k < Kp key p i:=by
 have:Kp key p i≠Kp key p k:=λe=>P.ne h1 h2 hne (hi _ _ (P.at h1) (P.at h2) e)
 omega
def Up (key:Nat->Int)(p:Array Nat)(m:Nat):Prop:=∀i j,i < j->j < m->Kp key p i < Kp key p j
def Dn (key:Nat->Int)(p:Array Nat)(m:Nat):Prop:=∀i j,i < j->j < m->Kp key p j < Kp key p i
def Up.snoc (U:Up key p m)(h1:1<=m)(h:Kp key p (m - 1) < Kp key p m):Up key p (m + 1):=λi j hij hj=>by
 rcases ON j m with c |c
 ·exact U i j hij c
 ·have:j=m:=by omega
  subst this
  rcases ON i (j - 1) with d |d
  ·exact Int.lt_trans (U i (j - 1) d (by omega)) h
  ·have:i=j - 1:=by omega
   rw[this];exact h
def Dn.snoc (U:Dn key p m)(h1:1<=m)(h:Kp key p m < Kp key p (m - 1)):Dn key p (m + 1):=λi j hij hj=>by
 rcases ON j m with c |c
 ·exact U i j hij c
 ·have:j=m:=by omega
  subst this
  rcases ON i (j - 1) with d |d
  ·exact Int.lt_trans h (U i (j - 1) d (by omega))
  ·have:i=j - 1:=by omega
   rw[this];exact h
theorem p6 (P:Pm n p)(hi:Inj n key):∀(f m:Nat),1<=m->m + f<=n->Up key p m->
  ∃r,(j8 (oq key) (kas_asc p f m)=r/\uY n (oq key) (kas_asc p f m))/\m<=r/\r<=m + f/\Up key p r/\(r < m + f->Kp key p r < Kp key p (r - 1))
 | 0,m,_,_,U=>⟨m,⟨rfl,trivial⟩,NH _,NH _,U,λh=>absurd h (Om _)⟩
 |f + 1,m,h1,hn,U=>by
  have b1:p.getD m 0 < n:=P.at (by omega)
  have b2:p.getD (m - 1) 0 < n:=P.at (by omega)
  unfold kas_asc j8 uY
  by_cases c:Kp key p m < Kp key p (m - 1)
  ·rw[show oq key (p.getD m 0) (p.getD (m - 1) 0)=true from NK c]
   simp only[OR]
   exact⟨m,⟨rfl,b1,b2,trivial⟩,NH _,by omega,U,λ_=>c⟩
  ·rw[show oq key (p.getD m 0) (p.getD (m - 1) 0)=false from NR c]
   simp only[NZ,Ou]
   have up:Kp key p (m - 1) < Kp key p m:=(P.tri hi (by omega) (by omega) (by omega)).resolve_right c
   obtain⟨r,⟨e,o⟩,a,b,u,d⟩:=p6 P hi f (m + 1) (by omega) (by omega) (U.snoc h1 up)
   exact⟨r,⟨e,b1,b2,o⟩,by omega,by omega,u,λh=>d (by omega)⟩
theorem rY (P:Pm n p)(hi:Inj n key):∀(f m:Nat),1<=m->m + f<=n->Dn key p m->
  ∃r,(j8 (oq key) (kas_desc f p m 0)=(p,r,0)/\uY n (oq key) (kas_desc f p m 0))/\m<=r/\r<=m + f/\Dn key p r
 | 0,m,_,_,U=>⟨m,⟨rfl,trivial⟩,NH _,NH _,U⟩
 |f + 1,m,h1,hn,U=>by
  have b1:p.getD m 0 < n:=P.at (by omega)
  have b2:p.getD (m - 1) 0 < n:=P.at (by omega)
  unfold kas_desc j8 uY
  by_cases c:Kp key p m < Kp key p (m - 1)
  ·rw[show oq key (p.getD m 0) (p.getD (m - 1) 0)=true from NK c]
   simp only[OR,Om,gt_iff_lt,Ou]
   obtain⟨r,⟨e,o⟩,a,b,u⟩:=rY P hi f (m + 1) (by omega) (by omega) (U.snoc h1 c)
   exact⟨r,⟨e,b1,b2,o⟩,by omega,by omega,u⟩
  ·rw[show oq key (p.getD m 0) (p.getD (m - 1) 0)=false from NR c]
   simp only[NZ,Ou]
   unfold j8 uY
   have up:Kp key p (m - 1) < Kp key p m:=(P.tri hi (by omega) (by omega) (by omega)).resolve_right c
   rw[show oq key (p.getD (m - 1) 0) (p.getD m 0)=true from NK up]
   simp only[OR]
   exact⟨m,⟨rfl,b1,b2,b2,b1,trivial⟩,NH _,by omega,U⟩
def Ek (hj:j<=p.size)(hk:k < j):(kas_rev p 0 j).getD k 0=p.getD (j - 1 - k) 0:=by
 unfold kas_rev
 rw[Ot,getElem?_mirror_all hj k,NG ⟨Oh _,hk⟩,Ot]
 congr 2
 omega
def Je (hm:m<=p.size)(D:Dn key p m):Up key (kas_rev p 0 m) m:=λi j hij hj=>by
 unfold Kp
 rw[Ek hm (by omega),Ek hm hj]
 exact D (m - 1 - j) (m - 1 - i) (by omega) (by omega)
def Pm.rev (P:Pm n p)(j:Nat):Pm n (kas_rev p 0 j):=P.perm (mirror_perm ..)
def yk (P:Pm n p)(hi:Inj n key)(h1:1<=n) :
  ∃m q,(j8 (oq key) (kas_count n p)=(m,q)/\uY n (oq key) (kas_count n p))/\Pm n q/\1<=m/\m<=n/\Up key q m:=by
 obtain⟨r,⟨e,o⟩,a,b,u,d⟩:=p6 P hi (n - 1) 1 (NH _) (by omega) (λi j hij hj=>by omega)
 have rest:∃m q,(j8 (oq key) (if (r == n)=true then KasT.ret (r,p) else if r > 1 then .ask (p.getD 0 0) (p.getD (r - 1) 0) λc=>if c=true then .ret (r,p) else kas_descPart r n (kas_rev p 0 r) else kas_descPart r n p)=(m,q)/\
   uY n (oq key) (if (r == n)=true then KasT.ret (r,p) else if r > 1 then .ask (p.getD 0 0) (p.getD (r - 1) 0) λc=>if c=true then .ret (r,p) else kas_descPart r n (kas_rev p 0 r) else kas_descPart r n p))/\Pm n q/\1<=m/\m<=n/\Up key q m:=by
  by_cases c:(r == n)=true
  ·rw[NG c]
   exact⟨r,p,⟨rfl,trivial⟩,P,a,by omega,u⟩
  ·rw[NL c]
   have hrn:r≠n:=by simpa using c
   have dd:=d (by omega)
   by_cases c2:r > 1
   ·rw[NG c2]
    unfold j8 uY
    rw[show oq key (p.getD 0 0) (p.getD (r - 1) 0)=true from NK (u 0 (r - 1) (by omega) (by omega))]
    simp only[OR]
    exact⟨r,p,⟨rfl,P.at (by omega),P.at (by omega),trivial⟩,P,a,by omega,u⟩
   ·rw[NL c2]
    have hr1:r=1:=by omega
    subst hr1
    unfold kas_descPart
    rw[fo]
    have D2:Dn key p 2:=λi j hij hj=>by
     have e1:i=0:=by omega
     have e2:j=1:=by omega
     rw[e1,e2];exact dd
    obtain⟨x,⟨e2,o2⟩,a2,b2,u2⟩:=rY P hi (n - 2) 2 (by omega) (by omega) D2
    obtain⟨y,⟨e3,o3⟩,a3,b3,u3,_⟩:=p6 (P.rev x) hi (n - x) x (by omega) (by omega) (Je (by rw[P.sz];omega) u2)
    rw[show n - (1 + 1)=n - 2 from rfl,show (1 + 1:Nat)=2 from rfl]
    have t3:uY n (oq key) (kas_tail3 x n p):=by
     unfold kas_tail3
     exact il o3 trivial
    refine⟨y,kas_rev p 0 x,⟨?_,il o2 ?_⟩,P.rev x,by omega,by omega,u3⟩
    ·rw[e2]
     simp only[Om,gt_iff_lt,Ou]
     unfold kas_tail3
     rw[fo,e3]
     rfl
    ·rw[e2]
     simp only[Om,gt_iff_lt,Ou]
     exact t3
 obtain⟨m,q,⟨f1,f2⟩,f3⟩:=rest
 refine⟨m,q,⟨?_,?_⟩,f3⟩
 ·unfold kas_count
  rw[fo,e]
  exact f1
 ·unfold kas_count
  refine il o ?_
  rw[e]
  exact f2
theorem place_spec (P:Pm n p)(hi:Inj n key)(hk:k < n)(U:Up key p k):∀(f l r:Nat),l<=r->r<=k->r - l<=f->(∀i,i < l->Kp key p i < Kp key p k)->(∀i,r<=i->i < k->Kp key p k < Kp key p i)->
  ∃x,(j8 (oq key) (kas_place p k f l r)=x/\uY n (oq key) (kas_place p k f l r))/\x<=k/\(∀i,i < x->Kp key p i < Kp key p k)/\(∀i,x<=i->i < k->Kp key p k < Kp key p i)
 | 0,l,r,h1,h2,h3,a,b=>⟨l,⟨rfl,trivial⟩,by omega,a,λi hi=>b i (by omega)⟩
 |f + 1,l,r,h1,h2,h3,a,b=>by
  unfold kas_place
  by_cases c:l>=r
  ·rw[NG c]
   exact⟨l,⟨rfl,trivial⟩,by omega,a,λi hi=>b i (by omega)⟩
  ·rw[NL c]
   have b1:p.getD k 0 < n:=P.at hk
   have b2:p.getD ((l + r) / 2) 0 < n:=P.at (by omega)
   unfold j8 uY
   by_cases d:Kp key p k < Kp key p ((l + r) / 2)
   ·rw[show oq key (p.getD k 0) (p.getD ((l + r) / 2) 0)=true from NK d]
    simp only[OR]
    have side:∀i,(l + r) / 2<=i->i < k->Kp key p k < Kp key p i:=λi h1 h2=>by
     rcases ON ((l + r) / 2) i with z |z
     ·exact Int.lt_trans d (U _ _ z h2)
     ·have:i=(l + r) / 2:=by omega
      rw[this];exact d
    obtain⟨x,⟨e1,e2⟩,e3⟩:=place_spec P hi hk U f l ((l + r) / 2) (by omega) (by omega) (by omega) a side
    exact⟨x,⟨e1,b1,b2,e2⟩,e3⟩
   ·rw[show oq key (p.getD k 0) (p.getD ((l + r) / 2) 0)=false from NR d]
    simp only[NZ,Ou]
    have d':Kp key p ((l + r) / 2) < Kp key p k:=(P.tri hi (by omega) hk (by omega)).resolve_right d
    have side:∀i,i < (l + r) / 2 + 1->Kp key p i < Kp key p k:=λi h=>by
     rcases ON i ((l + r) / 2) with z |z
     ·exact Int.lt_trans (U _ _ z (by omega)) d'
     ·have:i=(l + r) / 2:=by omega
      rw[this];exact d'
    obtain⟨x,⟨e1,e2⟩,e3⟩:=place_spec P hi hk U f ((l + r) / 2 + 1) r (by omega) h2 (by omega) side b
    exact⟨x,⟨e1,b1,b2,e2⟩,e3⟩
def Cc (hk:k < p.size)(hl:l<=k):(bubble p k (k - l)).getD j 0=if j=l then p.getD k 0 else if l < j/\j<=k then p.getD (j - 1) 0 else p.getD j 0:=by
 rw[Ot,getElem?_bubble hk (k - l) (by omega) j,show k - (k - l)=l by omega]
 simp only[Ot]
 split
 ·rfl
 ·split <;> rfl
theorem v9 (hi:Inj n key):∀(f k:Nat) (p:Array Nat),Pm n p->1<=k->k + f=n->Up key p k->∃q,(j8 (oq key) (kas_bin f p k)=q/\uY n (oq key) (kas_bin f p k))/\Pm n q/\Up key q n
 | 0,k,p,P,_,e,U=>⟨p,⟨rfl,trivial⟩,P,by rw[<-e];exact U⟩
 |f + 1,k,p,P,h1,e,U=>by
  have hk:k < n:=by omega
  obtain⟨l,⟨el,ol⟩,hl,a,b⟩:=place_spec P hi hk U k 0 k (Oh _) (NH _) (by omega) (λi h=>by omega) (λi h h'=>by omega)
  have side:Up key (bubble p k (k - l)) (k + 1):=λi j hij hj=>by
   have hks:k < p.size:=by rw[P.sz];exact hk
   unfold Kp
   rw[Cc hks hl,Cc hks hl]
   by_cases i1:i=l
   ·rw[NG i1,NL (by omega)]
    by_cases j2:l < j/\j<=k
    ·rw[NG j2];exact b _ (by omega) (by omega)
    ·omega
   ·rw[NL i1]
    by_cases i2:l < i/\i<=k
    ·rw[NG i2,NL (by omega),NG (by omega)]
     exact U _ _ (by omega) (by omega)
    ·rw[NL i2]
     by_cases j1:j=l
     ·rw[NG j1];exact a _ (by omega)
     ·rw[NL j1]
      by_cases j2:l < j/\j<=k
      ·rw[NG j2]
       rcases ON i (j - 1) with z |z
       ·exact U _ _ z (by omega)
       ·omega
      ·rw[NL j2];exact U _ _ hij (by omega)
  obtain⟨q,⟨q1,q2⟩,q3⟩:=v9 hi f (k + 1) (bubble p k (k - l)) (P.perm (bubble_perm ..)) (by omega) (by omega) side
  refine⟨q,⟨?_,?_⟩,q3⟩
  ·unfold kas_bin;rw[fo,el];exact q1
  ·unfold kas_bin;refine il ol ?_;rw[el];exact q2
def Ai (hi:Inj n key)(h2:2<=n):∃q,(j8 (oq key) (kas_sort n)=q/\uY n (oq key) (kas_sort n))/\Pm n q/\Up key q n:=by
 obtain⟨m,q,⟨e,o⟩,P,a,b,u⟩:=yk (vt n) hi (by omega)
 by_cases c:m < n
 ·obtain⟨q',⟨e1,o1⟩,r⟩:=v9 hi (n - m) m q P a (by omega) u
  refine⟨q',⟨?_,?_⟩,r⟩
  ·unfold kas_sort;rw[fo,e];dsimp only;rw[NG c,Nat.max_eq_left a];exact e1
  ·unfold kas_sort;refine il o ?_;rw[e];dsimp only;rw[NG c,Nat.max_eq_left a];exact o1
 ·refine⟨q,⟨?_,?_⟩,P,λi j hij hj=>u i j hij (by omega)⟩
  ·unfold kas_sort;rw[fo,e];dsimp only;rw[NL c];rfl
  ·unfold kas_sort;refine il o ?_;rw[e];dsimp only;rw[NL c];trivial
theorem wp_run {α:Type}{n:Nat}{lt:Nat->Nat->Bool}{cmp:Nat->Nat->(Bool->Shared->Prop)->Shared->Prop}{Q:α->Shared->Prop}{s:Shared} :
  ∀(t:KasT α),(∀i j C,i < n->j < n->C (lt i j) s->cmp i j C s)->uY n lt t->Q (j8 lt t) s->t.kasWp cmp Q s
 | .ret a,_,_,h=>h
 | .ask i j k,hc,ho,h=>hc i j _ ho.1 ho.2.1 (wp_run (k (lt i j)) hc ho.2.2 h)
end
end L2.SO
namespace L2.ST
open PySem PySem.SetTable PySem.W PyProof.Rows
def code (p:Pr):Int:=p.1 * 8 + p.2
def zZ (h1:Sm p)(h2:Sm q):code p < code q↔p.1 < q.1\/(p.1=q.1/\p.2 < q.2):=by
 unfold code Sm at *;omega
def code_inj (h1:Sm p)(h2:Sm q)(e:code p=code q):p=q:=by
 unfold code Sm at *
 refine Prod.ext ?_ ?_ <;> omega
section
variable {prog:Program}{w:World}{A:Around}{E:Value->Shared->Prop}{s:Shared}
abbrev qX (ps:List Pr)(i:Nat):Int:=code (ps.getD i (0,0))
def C7 (nd:ps.Nodup)(hs:∀p,p∈ps->Sm p):L2.SO.Inj ps.length (qX ps):=λi j hi hj e=>by
 have a1:ps.getD i (0,0)=ps[i]:=by simp[hi]
 have a2:ps.getD j (0,0)=ps[j]:=by simp[hj]
 unfold qX at e
 rw[a1,a2] at e
 have e':=code_inj (hs _ (OY hi)) (hs _ (OY hj)) e
 have q:=PQ.mp nd
 rcases Qy i j with c |c |c
 ·exact absurd e' (q i j hi hj c)
 ·exact c
 ·exact absurd e'.symm (q j i hj hi c)
theorem ET {Q:Bool->Shared->Prop}(ha:bP prog w s.heap p a)(hb:bP prog w s.heap q b)(hp:Sm p)(hq:Sm q)(h:Q (decide (code p < code q)) s) :
  wpAny (model prog w) A (keyLt' (tuples' true) (.ref a) (.ref b)) Q E s:=by
 obtain⟨oa,ia,na,hoa,hca,hda,hia⟩:=ha
 obtain⟨ob,ib,nb,hob,hcb,hdb,hib⟩:=hb
 obtain⟨l1,rfl⟩:∃l,ia=List.toArray l:=⟨ia.toList,by simp⟩
 obtain⟨l2,rfl⟩:∃l,ib=List.toArray l:=⟨ib.toList,by simp⟩
 simp only[Pa] at hia hib
 cases hia with
 | @cons _ v1 _ _ h1 hia=>
  cases hia with
  | @cons _ v2 _ _ h2 hia=>
   cases hia
   cases hib with
   | @cons _ u1 _ _ g1 hib=>
    cases hib with
    | @cons _ u2 _ _ g2 hib=>
     cases hib
     obtain⟨t1,rfl⟩:=Po h1
     obtain⟨t2,rfl⟩:=Po h2
     obtain⟨t3,rfl⟩:=Po g1
     obtain⟨t4,rfl⟩:=Po g2
     refine kat_lt hoa hda hob hdb ?_
     have hc:=zZ hp hq
     refine kat_cons (wpAny_eqBool_int ?_)
     by_cases e1:p.1=q.1
     ·rw[show (p.1 == q.1)=true by simpa using e1]
      refine kat_yes (kat_cons (wpAny_eqBool_int ?_))
      by_cases e2:p.2=q.2
      ·rw[show (p.2 == q.2)=true by simpa using e2]
       refine kat_yes (kat_nil ?_)
       have:decide (code p < code q)=false:=NR (by rw[hc];omega)
       rw[this] at h
       simpa using h
      ·rw[show (p.2 == q.2)=false by simpa using e2]
       refine kat_no ?_
       show wpAny _ _ (oneLt' false _ _) _ _ _
       refine kat_one _ _ (lt_int ?_)
       have:decide (code p < code q)=decide (p.2 < q.2):=by
        by_cases z:p.2 < q.2
        ·rw[NK z];exact NK (hc.mpr (.inr ⟨e1,z⟩))
        ·rw[NR z];exact NR (by rw[hc];omega)
       rw[this] at h;exact h
     ·rw[show (p.1 == q.1)=false by simpa using e1]
      refine kat_no ?_
      show wpAny _ _ (oneLt' true _ _) _ _ _
      refine oneLt_int ?_
      have:decide (code p < code q)=decide (p.1 < q.1):=by
       by_cases z:p.1 < q.1
       ·rw[NK z];exact NK (hc.mpr (.inl z))
       ·rw[NR z];exact NR (by rw[hc];omega)
      rw[this] at h;exact h
theorem z0:∀{vs:List Value} {ps:List Pr},cX prog w s.heap vs ps->∃fs,KatTups s.heap vs fs/\fs.length=vs.length/\∀v∈fs,∃(i:Int) (t:Tok),v=.int i t
 | [],ps,_=>⟨[],KatTups.nil,rfl,λv hv=>by cases hv⟩
 |v :: vs,[],h=>by have:=h.1;simp at this
 |v :: vs,p :: ps,h=>by
  obtain⟨a,rfl,⟨o,items,n,ho,hc,hd,hi⟩,_⟩:=h.2 0 v p rfl rfl
  obtain⟨fs,k,e,f⟩:=z0 (vs:=vs) (ps:=ps) ⟨by simpa using h.1,λi v p h1 h2=>h.2 (i + 1) v p (by simpa using h1) (by simpa using h2)⟩
  obtain⟨l1,rfl⟩:∃l,items=List.toArray l:=⟨items.toList,by simp⟩
  simp only[Pa] at hi
  cases hi with
  | @cons _ v1 _ _ h1 hi=>
   obtain⟨t1,rfl⟩:=Po h1
   exact⟨_ :: fs,KatTups.cons ho hc hd rfl k,by simp[e],λv hv=>by
    rcases NI.mp hv with z |z
    ·exact⟨_,_,z⟩
    ·exact f v z⟩
def vN {P:PySem.Fin->Shared->Prop}(ho:s.heap.get? a=some (seqObj "list" vs.toArray n))(hps:cX prog w s.heap vs ps)(nd:ps.Nodup)(h64:vs.length < 64)
  (h:∀(h':Heap) (c:Nat) (ix:Array Nat),L2.SO.Pm vs.length ix->L2.SO.Up (qX ps) ix vs.length->(∀b o,b≠a->s.heap.get? b=some o->h'.get? b=some o)->
   h'.get? a=some (seqObj "list" (ix.toList.map λi=>vs.getD i Value.none).toArray c)->P (.done (.ret .none)) {s with heap:=h'}) :
  wpAny (model prog w) A (Builtin.«list.sort» ⟨[.ref a],[]⟩) P E s:=by
 have ha:a < s.heap.objs.size:=NO ho
 obtain⟨e1,ho1⟩:∃e1,(s.heap.update a (Obj.mapSeq λ_=>(#[]:Array Value))).get? a=some (seqObj "list" #[] e1):=⟨_,get?_update_seq ho λ_=>#[]⟩
 generalize hH1:(s.heap.update a (Obj.mapSeq λ_=>(#[]:Array Value)))=H1 at ho1
 have sb1:Heap.SameBut a s.heap H1:=by rw[<-hH1];exact Heap.SameBut.update ..
 have kp2:∀b o,H1.get? b=some o->((H1.push (seqObj "tuple" vs.toArray 0)).push (seqObj "list" #[] 0)).get? b=some o:=λb o e=>ND _ (ND _ e)
 generalize hH2:((H1.push (seqObj "tuple" vs.toArray 0)).push (seqObj "list" #[] 0))=H2 at kp2
 have kp:∀b o,b≠a->s.heap.get? b=some o->H2.get? b=some o:=λb o hb e=>kp2 b o ((sb1.2 b hb).trans e)
 have ho2:=kp2 _ _ ho1
 have hps2:cX prog w H2 vs ps:=⟨hps.1,λi v p h1 h2=>by
  obtain⟨b,e,⟨o,it,m,hb,hc,hd,r⟩,hs⟩:=hps.2 i v p h1 h2
  refine⟨b,e,⟨o,it,m,kp b o (λz=>?_) hb,hc,hd,r⟩,hs⟩
  subst z
  rw[ho] at hb;cases hb
  exact absurd hc (by simp[seqObj])⟩
 have hz:vs.length<=sizeLine:=by rw[N8];omega
 rw[list_sort_plain]
 refine NA (listItems_at ho rfl (NA (listUpdate_at ho rfl ?_ (by simpa using hz) (Oh _))))
 rw[hH1]
 refine NA (seqEpoch_at (s:={s with heap:=H1}) ho1 rfl (NA (wpAny_newTuple ?_ (by simpa using hz))))
 refine NA (wpAny_newList ?_ (Oh _))
 refine OS ?_
 show wpAny (model prog w) A _ P E {s with heap:=(H1.push (seqObj "tuple" vs.toArray 0)).push (seqObj "list" #[] 0)}
 rw[hH2]
 have fin:∀(ix:Array Nat) (st:SortSt),L2.SO.Pm vs.length ix->L2.SO.Up (qX ps) ix vs.length->(arrOf st).map (·.2)=List.toArray (ix.toList.map λi=>vs.getD i Value.none)->failedOf st=none->
   wpAny (model prog w) A (do
    let sorted:=(arrOf st).map (·.2)
    let touched:=(<-seqEpoch a) != e1
    Builtin.List.listUpdate (.ref a) λ_=>sorted
    if let some e:=failedOf st then rule "list.sort.comparison-raised";throw e
    if touched then rule "list.sort.modified";raiseError "ValueError" "list modified during sort"
    ret .none) P E {s with heap:=H2}:=λix st P1 U1 hout hf=>by
  dsimp only
  rw[hout]
  have hsz:(List.toArray (ix.toList.map λi=>vs.getD i Value.none)).size=vs.length:=by simp[P1.sz]
  refine NA (seqEpoch_at (s:={s with heap:=H2}) ho2 rfl ?_)
  refine NA (listUpdate_at (s:={s with heap:=H2}) ho2 rfl ?_ (Oh _) (OT (Nat.le_of_eq hsz) (Nat.le_succ_of_le hz)))
  rw[hf]
  simp only[bne_self_eq_false,NZ,Ou]
  obtain⟨c2,hc2⟩:∃c2,(H2.update a (Obj.mapSeq λ_=>List.toArray (ix.toList.map λi=>vs.getD i Value.none))).get? a=some (seqObj "list" (List.toArray (ix.toList.map λi=>vs.getD i Value.none)) c2):=⟨_,get?_update_seq ho2 λ_=>List.toArray (ix.toList.map λi=>vs.getD i Value.none)⟩
  exact NF (h _ c2 ix P1 U1 (λb o hb e=>((Heap.SameBut.update H2 a _).2 b hb).trans (kp b o hb e)) hc2)
 by_cases h2:vs.length < 2
 ·have h2':vs.toArray.size < 2:=by simpa using h2
  dsimp only
  rw[NG h2',NG h2']
  refine NA (NF ?_)
  rw[StateT.run_pure]
  refine NA (NF ?_)
  refine fin (List.toArray (List.range vs.length)) (SortSt.mk' general' (vs.toArray.zip vs.toArray) #[] 7 none) (L2.SO.vt _) (λi j hij hj=>by omega) ?_ rfl
  have:∀{l:List Value},l.length < 2->((l.toArray.zip l.toArray).map (·.2))=List.toArray ((List.range l.length).map λi=>l.getD i Value.none):=λ{l} hl=>by
   match l,hl with
   | [],_=>simp
   | [x],_=>simp
  exact (this h2).trans (by simp)
 ·have h2':¬vs.toArray.size < 2:=by simpa using h2
  dsimp only
  rw[NL h2',NL h2']
  obtain⟨fs,kt,fl,ff⟩:=z0 (s:={s with heap:=H2}) hps2
  refine NA (kat_kind (s:={s with heap:=H2}) (T:=.type "int") kt (by omega) (λv hv=>?_) (by decide) ?_)
  ·obtain⟨i,t,rfl⟩:=ff v hv
   exact .now
  ·rw[show ((Value.type "int" != Value.type "tuple"):Bool)=true by decide]
   have hinj:L2.SO.Inj vs.length (qX ps):=by
    rw[hps.1]
    refine C7 nd λp hp=>?_
    obtain⟨i,hi,e⟩:=Ol.mp hp
    have hi':i < vs.length:=by rw[hps.1];exact hi
    obtain⟨_,_,_,hs⟩:=hps.2 i vs[i] p (NC hi') (by rw[NC hi,e])
    exact hs
   obtain⟨ix,⟨er,ok⟩,P1,U1⟩:=L2.SO.Ai hinj (by omega)
   refine NA (OX (kat_run (s:={s with heap:=H2}) (κ:=tuples' true) (ks:=vs) (Q:=λst s'=>s'={s with heap:=H2}/\arrOf st=ix.map (kas_item (vs.toArray.zip vs.toArray))/\failedOf st=none)
    (G:=λp s'=>p=ix/\s'={s with heap:=H2}) rfl (by omega) h64 (λp st s' a1 a2 a3 a4=>?_) (L2.SO.wp_run (n:=vs.length) (lt:=L2.SO.oq (qX ps)) _ (λi j C hi hj hC=>?_) ok ⟨er,rfl⟩)) ?_ λ_ _ x=>x)
   ·obtain⟨rfl,rfl⟩:=a4
    exact⟨rfl,a2,a3⟩
   ·unfold kas_ask
    have hi':i < ps.length:=by rw[<-hps.1];exact hi
    have hj':j < ps.length:=by rw[<-hps.1];exact hj
    obtain⟨b1,eb1,hb1,s1⟩:=hps2.2 i vs[i] ps[i] (NC hi) (NC hi')
    obtain⟨b2,eb2,hb2,s2⟩:=hps2.2 j vs[j] ps[j] (NC hj) (NC hj')
    have e1:vs.getD i Value.none=.ref b1:=by rw[<-eb1];simp[hi]
    have e2:vs.getD j Value.none=.ref b2:=by rw[<-eb2];simp[hj]
    rw[e1,e2]
    refine ET (s:={s with heap:=H2}) hb1 hb2 s1 s2 ?_
    have:L2.SO.oq (qX ps) i j=decide (code ps[i] < code ps[j]):=by
     unfold L2.SO.oq qX;simp[hi',hj']
    rw[<-this];exact hC
   ·rintro⟨⟨⟩,st⟩ s' ⟨rfl,har,hf⟩
    exact fin ix st P1 U1 (kat_snds rfl har) hf
end
def b6:Slot "set_iterator" "__next__" "set_iterator.__next__":=
 Slot.of (owner:="set_iterator") (n:="__next__") (by rw[typeLookup_type,builtinLookup_eq_fast];kernel_rfl) (by decide +kernel) (by decide +kernel) (by decide +kernel) (by first |exact .inl (by decide +kernel) |exact .inr (by decide +kernel)) (by rw[Qx];kernel_rfl)
def i6:entryFor table "set_iterator.__next__"=some Builtin.«set_iterator.__next__»:=entryFor_of_tree (by kernel_rfl)
def j7 (a:Value):argsOk "set_iterator.__next__" ⟨[a],[]⟩:=by unfold argsOk;kernel_rfl
def qO:entryFor table "set.__iter__"=some Builtin.«frozenset.__iter__»:=entryFor_alias (id':="frozenset.__iter__") (by kernel_rfl) rfl (by decide +kernel) (by kernel_rfl)
def j3:Slot "set_iterator" "__iter__" "set_iterator.__iter__":=
 Slot.of (owner:="set_iterator") (n:="__iter__") (by rw[typeLookup_type,builtinLookup_eq_fast];kernel_rfl) (by decide +kernel) (by decide +kernel) (by decide +kernel) (by first |exact .inl (by decide +kernel) |exact .inr (by decide +kernel)) (by rw[Qx];kernel_rfl)
def nH:entryFor table "set_iterator.__iter__"=some Builtin.«dict_keyiterator.__iter__»:=entryFor_alias (id':="dict_keyiterator.__iter__") (by kernel_rfl) rfl (by decide +kernel) (by kernel_rfl)
def oW (a:Value):argsOk "set_iterator.__iter__" ⟨[a],[]⟩:=by unfold argsOk;kernel_rfl
def Gn (a:Addr)(slot given ep0:Nat):setNext a slot given ep0=(do
  let (es,epoch,t) <-setState a
  if (<-ask).params.followText "set-order" then
   if epoch != ep0 then unsupported "set_iterator.__next__:elements-changed"
   return ((<-setWalk a)[given]?).map λe=>(e.2,slot)
  if !t.plain && es.size > 1 then unsupported "set_iterator.__next__:the-table-is-plain-no-more"
  let u:Unit <-(show Sem Unit from do if !t.led && !es.isEmpty then unsupported "set:maker-not-led")
  let i:=SetTable.below t.place slot
  return match es[i]?,t.place[i]? with
   |some (_,x),some j=>some (x,j + 1)
   |_,_=>none):=by
 unfold setNext setsByText
 simp only[bind_assoc,pure_bind]
 rfl
def Gj (a:Addr):setWalk a=(do
  let (es,epoch,t) <-setState a
  if (<-ask).params.followText "set-order" then return pickOrder ((<-ask).params.setOrder a epoch) es
  if !t.plain && es.size > 1 then return (<-drawOrder es.size es.toList).toArray
  let u:Unit <-(show Sem Unit from do if !t.led && es.size > 1 then unsupported "set:maker-not-led")
  return es):=by
 unfold setWalk setsByText
 simp only[bind_assoc,pure_bind]
 rfl
def DS (a:Addr):setDrawn a=(do
  let (es,_,t) <-setState a
  let byText <-(do return (<-ask).params.followText "set-order")
  return !byText && (!t.plain && es.size > 1)):=rfl
theorem hV {α:Type}:∀(l:List α) (i:Nat) (h:i < l.length),(l[i] :: l.eraseIdx i).Perm l
 |a :: l,0,_=>List.Perm.refl _
 |a :: l,i + 1,h=>by
  have hi:i < l.length:=by simpa using h
  show (l[i] :: a :: l.eraseIdx i).Perm (a :: l)
  exact (List.Perm.swap ..).trans ((hV l i hi).cons a)
theorem sW {α:Type}(next:Nat->Nat):∀(fuel k:Nat) (left:List α) (out:Array α),left.length=fuel->(pickOrder.go next fuel k left out).toList.Perm (out.toList ++ left)
 | 0,k,left,out,h=>by
  have:left= []:=List.length_eq_zero_iff.mp h
  subst this
  unfold pickOrder.go
  simp
 |fuel + 1,k,left,out,h=>by
  unfold pickOrder.go
  have hlt:next k % left.length < left.length:=Nat.mod_lt _ (by omega)
  rw[NC hlt]
  dsimp only
  refine (sW next fuel (k + 1) _ _ (by rw[List.length_eraseIdx_of_lt hlt];omega)).trans ?_
  rw[Array.toList_push,Pp]
  refine List.Perm.append_left _ ?_
  exact hV left _ hlt
def ky {α:Type}(next:Nat->Nat)(xs:Array α):(pickOrder next xs).toList.Perm xs.toList:=by
 have:=sW next xs.size 0 xs.toList #[] (by simp)
 simpa[pickOrder] using this
section
variable {prog:Program}{w:World}{A:Around}{E:Value->Shared->Prop}{s:Shared}
def told (w:World)(S:Addr)(ep:Nat)(es:Array (Int×Value)):Array (Int×Value):=if w.params.followText "set-order" then pickOrder (w.params.setOrder S ep) es else es
def sx (w:World)(S:Addr)(ep:Nat)(es:Array (Int×Value)):(told w S ep es).toList.Perm es.toList:=by
 unfold told;split
 ·exact ky _ _
 ·exact List.Perm.refl _
abbrev vk (S:Addr)(slot k n ep:Nat):Obj:={cls:=.type "set_iterator",data:=.fields #[.int (slot:Int) 0,.int (k:Int) 0,.ref S,.int (n:Int) 0,.int (ep:Int) 0]}
structure nc (w:World)(S:Addr)(o:Obj)(es:Array (Int×Value))(ep:Nat)(t:SetTable)(I:Addr)(k:Nat)(h:Heap):Prop where
 set:h.get? S=some o
 data:o.data=.set es ep t
 cls:o.cls=.type "set"
 tab:Tab t (es.toList.map (·.1))
 led:t.led=gi w
 it:∃slot,h.get? I=some (vk S slot k es.size ep)/\(gi w=true->slot=if k=0 then 0 else t.place.getD (k - 1) 0 + 1)
def nc.fits (X:nc w S o es ep t I k h):t.fits es.size=true:=pD X.tab (by simp)
theorem zM {S I:Addr}{o:Obj}{es:Array (Int×Value)}{ep k slot:Nat}{t:SetTable}{Q:Option (Value×Nat)->Shared->Prop}(X:nc w S o es ep t I k s.heap)(hk:k<=es.size)(hs:gi w=true->slot=if k=0 then 0 else t.place.getD (k - 1) 0 + 1)
  (h:∀(r:Option (Value×Nat)),(k < es.size->∃x nx,r=some (x,nx)/\(told w S ep es)[k]?.map (·.2)=some x/\(gi w=true->nx=t.place.getD k 0 + 1))->(k=es.size->r=none)->Q r s) :
  wpAny (model prog w) A (setNext S slot k ep) Q E s:=by
 rw[Gn]
 refine NA (OD X.set X.data X.fits ?_)
 dsimp only
 refine NA (Qh ?_)
 dsimp only
 cases hb:w.params.followText "set-order" with
 |true=>
  rw[NG (show (model prog w).w.params.followText "set-order"=true from hb)]
  simp only[bne_self_eq_false,NZ,Ou]
  rw[Gj]
  refine NA (NA (OD X.set X.data X.fits ?_))
  dsimp only
  refine NA (Qh ?_)
  dsimp only
  rw[NG (show (model prog w).w.params.followText "set-order"=true from hb)]
  refine NA (Qh (NF (NF ?_)))
  have et:told w S ep es=pickOrder (w.params.setOrder S ep) es:=by unfold told;rw[NG hb]
  have hsz:(pickOrder (w.params.setOrder S ep) es).size=es.size:=by
   have:=(ky (w.params.setOrder S ep) es).length_eq;simpa using this
  refine h _ (λhlt=>?_) (λe=>?_)
  ·have hlt':k < (pickOrder (w.params.setOrder S ep) es).size:=by rw[hsz];exact hlt
   refine⟨(pickOrder (w.params.setOrder S ep) es)[k].2,slot,?_,?_,λz=>?_⟩
   ·show Option.map _ (pickOrder (w.params.setOrder S ep) es)[k]? =_
    rw[Od hlt'];rfl
   ·rw[et,Od hlt'];rfl
   ·unfold gi at z;rw[hb] at z;cases z
  ·show Option.map _ (pickOrder (w.params.setOrder S ep) es)[k]? =_
   rw[Qc (by rw[hsz];omega)];rfl
 |false=>
  rw[NL (show ¬(model prog w).w.params.followText "set-order"=true by intro z;rw[show (model prog w).w.params.followText "set-order"=false from hb] at z;cases z)]
  have hl:gi w=true:=by unfold gi;rw[hb];rfl
  rw[X.tab.plain,X.led,hl]
  simp only[P7,Bool.false_and,NZ,Ou]
  have et:told w S ep es=es:=by unfold told;rw[hb];simp
  have hps:t.place.size=es.size:=by simpa using X.tab.size
  have hbl:below t.place slot=k:=by
   rw[hs hl]
   obtain⟨b1,b2,b3⟩:=dG X.tab.rise (if k=0 then 0 else t.place.getD (k - 1) 0 + 1)
   by_cases k0:k=0
   ·subst k0
    simp only[OR] at b1 b2 b3 ⊢
    rcases Nat.eq_zero_or_pos (below t.place 0) with z |z
    ·exact z
    ·have:=b2 0 z;omega
   ·rw[NL k0] at b1 b2 b3 ⊢
    have hk1:k - 1 < t.place.size:=by omega
    rcases Qy (below t.place (t.place.getD (k - 1) 0 + 1)) k with z |z |z
    ·have q:=b3 (k - 1) (by omega) hk1
     have e:t.place.getD (k - 1) (t.place.getD (k - 1) 0 + 1)=t.place.getD (k - 1) 0:=by simp[Array.getD,hk1]
     omega
    ·exact z
    ·have hks:k < t.place.size:=by omega
     have q:=b2 k z
     have e:t.place.getD k (t.place.getD (k - 1) 0 + 1)=t.place.getD k 0:=by simp[Array.getD,hks]
     have:=iM (d:=0) X.tab.rise (show k - 1 < k by omega) hks
     omega
  refine NF ?_
  rw[hbl]
  refine h _ (λhlt=>?_) (λe=>?_)
  ·have hlt2:k < t.place.size:=by omega
   refine⟨es[k].2,t.place[k] + 1,?_,?_,λ_=>?_⟩
   ·rw[Od hlt,Od hlt2]
   ·rw[et,Od hlt];rfl
   ·simp[Array.getD,hlt2]
  ·rw[Qc (by omega)]
def Bl {o:Obj}{es:Array (Int×Value)}{ep:Nat}{t:SetTable}(hh:A.handled=none)(hne:S≠I) :
  Walks prog w A I [I,S] [I] es.size (λi v=>(told w S ep es)[i]?.map (·.2)=some v) (λi h=>nc w S o es ep t I i h) where
 sub:=λb hb=>NI.mpr (.inl (N9.mp hb))
 frame:=λi h h' X k=>by
  obtain⟨slot,e,r⟩:=X.it
  exact⟨k S (by simp) _ X.set,X.data,X.cls,X.tab,X.led,slot,k I (by simp) _ e,r⟩
 item:=λi s Q E hi X hQ=>by
  obtain⟨slot,e,r⟩:=X.it
  have hT:s.TypeIs (.ref I) "set_iterator":=⟨_,e,rfl⟩
  unfold pyNext
  refine NA (wpAny_attempt (Pu (name:=Str.ofString "__next__") hT b6 (O1 b6 hT i6 ?_ (j7 _))))
  unfold Builtin.«set_iterator.__next__»
  refine NA (m:=slotArgs "__next__" 0 _) (NF ?_)
  dsimp only
  unfold fieldsOf
  refine NA (NA (wpAny_load e (NF ?_)))
  dsimp only
  unfold setEntries
  refine NA (NA (OD X.set X.data X.fits (NF ?_)))
  dsimp only
  rw[NL (by simp)]
  refine NA ?_
  simp only[Oa]
  refine zM X (Nat.le_of_lt hi) r λrr h1 _=>?_
  obtain⟨x,nx,rfl,h2,h3⟩:=h1 hi
  dsimp only
  refine NA (Py e rfl (by simp) ?_)
  have e2:=OB (Obj.mapFields λvs=>vs.setIfInBounds 0 (rawInt (nx:Int))) e rfl
  refine NA (Py e2 rfl (by simp) ?_)
  refine NF ⟨x,rfl,NF ?_⟩
  have sb:=(Heap.SameBut.update s.heap I (Obj.mapFields λvs=>vs.setIfInBounds 0 (rawInt (nx:Int)))).trans (Heap.SameBut.update _ I (Obj.mapFields λvs=>vs.setIfInBounds 1 (rawInt ((i:Int) + 1))))
  refine hQ x _ _ h2 ⟨(sb.2 S hne).trans X.set,X.data,X.cls,X.tab,X.led,nx,?_,λz=>?_⟩ λb o hb eb=>(sb.2 b (by simpa using hb)).trans eb
  ·exact OB (Obj.mapFields λvs=>vs.setIfInBounds 1 (rawInt ((i:Int) + 1))) e2 rfl
  ·rw[NL (by omega)];exact h3 z
 done:=λs Q E X hQ=>by
  obtain⟨slot,e,r⟩:=X.it
  have hT:s.TypeIs (.ref I) "set_iterator":=⟨_,e,rfl⟩
  unfold pyNext
  refine NA (wpAny_attempt (Pu (name:=Str.ofString "__next__") hT b6 (O1 b6 hT i6 ?_ (j7 _))))
  unfold Builtin.«set_iterator.__next__»
  refine NA (m:=slotArgs "__next__" 0 _) (NF ?_)
  dsimp only
  unfold fieldsOf
  refine NA (NA (wpAny_load e (NF ?_)))
  dsimp only
  unfold setEntries
  refine NA (NA (OD X.set X.data X.fits (NF ?_)))
  dsimp only
  rw[NL (by simp)]
  refine NA ?_
  simp only[Oa]
  refine zM X (NH _) r λrr _ h1=>?_
  rw[h1 rfl]
  dsimp only
  refine NA (Py e rfl (by simp) ?_)
  (show wpAny _ _ (newExc (.type "StopIteration") [] >>= λx=>raiseNew x) _ _ _)
  refine NA ?_
  simp only[newExc,newTuple]
  (refine NA (OH ?_ (by size_fits)))
  (refine NA (m:=firstArgMember _ _) (wpAny_of_eq (a:=Value.none) (by first |rfl | (simp only[firstArgMember];rfl)) ?_))
  (refine OH ?_ (by size_fits))
  simp only[raiseNew]
  refine NA (wpAny_handled ?_)
  (rw[show A.in1.handled=none from hh])
  refine NA (NF (wpAny_throw ?_))
  refine NA (wpAny_isInstance (T:="StopIteration") (b:=true) ⟨_,NQ _ rfl,rfl⟩ isSubtype_stop (NF (hQ _ _ λb o hb eb=>?_)))
  exact ND _ (ND _ (((Heap.SameBut.update ..).2 b (by simpa using hb)).trans eb))
 self:=λi s Q E X hQ=>by
  obtain⟨slot,e,r⟩:=X.it
  have hT:s.TypeIs (.ref I) "set_iterator":=⟨_,e,rfl⟩
  refine wpAny_pyIter_slot hT j3 (O1 j3 hT nH ?_ (oW _))
  show wpAny _ _ (ret (.ref I)) _ _ s
  exact NF ⟨_,rfl,"set_iterator",_,hT,b6.lookup,hQ⟩
def Dp {Q:Value->Shared->Prop}(ho:s.heap.get? S=some o)(hd:o.data=.set es ep t)(hc:o.cls=.type "set")(T:Tab t (es.toList.map (·.1)))(hl:t.led=gi w)
  (h:Q (.ref s.heap.objs.size) {s with heap:=s.heap.push (vk S 0 0 es.size ep)}):wpAny (model prog w) A (pyIter (.ref S)) Q E s:=by
 have hT:s.TypeIs (.ref S) "set":=⟨o,ho,hc⟩
 have hf:t.fits es.size=true:=pD T (by simp)
 refine wpAny_pyIter_slot hT F.slot_set_iter (O1 F.slot_set_iter hT qO ?_ (F.args_set_iter_1 _))
 unfold Builtin.«frozenset.__iter__» Builtin.Frozenset.slot0
 refine NA (NA (m:=slotArgs "__iter__" 0 _) (NF (NF ?_)))
 unfold Builtin.Frozenset.sizeOf setEntries
 refine NA (NA (NA (OD ho hd hf (NF (NF ?_)))))
 rw[DS]
 refine NA (NA (OD ho hd hf ?_))
 dsimp only
 refine NA (NA (Qh (NF (NF ?_))))
 rw[T.plain]
 simp only[P7,Bool.false_and,Bool.and_false,NZ,Ou]
 refine NA (NF ?_)
 unfold setEpoch
 refine NA (NA (OD ho hd hf (NF ?_)))
 refine NA (OH (NF ⟨_,rfl,"set_iterator",_,⟨_,NQ _ rfl,rfl⟩,b6.lookup,h⟩))
def vf {Q:List Value->Shared->Prop}(hh:A.handled=none)(ho:s.heap.get? S=some o)(hd:o.data=.set es ep t)(hc:o.cls=.type "set")(T:Tab t (es.toList.map (·.1)))(hl:t.led=gi w)
  (hn:es.size<=64) (h:∀h' tk vs,vs=(told w S ep es).toList.map (·.2)->(∀b o,s.heap.get? b=some o->h'.get? b=some o)->Q vs {s with heap:=h',toks:=tk}):wpAny (model prog w) A (collect (.ref S)) Q E s:=by
 have hz:es.size<=sizeLine:=by rw[N8];omega
 unfold collect
 (refine NA (wpAny_runValue (O9 F.entry_proto_collect ?_)))
 (rw[PR F.plain_proto_collect _])
 show wpAny _ A.in1 (newList [] >>= λl=>again (.builtin "list.__iadd__" ⟨[l,.ref S],[]⟩)) _ _ s
 refine NA (OH ?_)
 (refine NF ⟨plainId_quiet F.plain_list_iadd _,O9 F.entry_list_iadd ?_⟩)
 (rw[PR F.plain_list_iadd _])
 show wpAny _ A.in1 (Builtin.List.listExtendWith (.ref s.heap.objs.size) (.ref S) (.ref s.heap.objs.size)) _ _ {s with heap:=s.heap.push (seqObj "list" #[] 0)}
 generalize hH:s.heap.push (seqObj "list" #[] 0)=H1
 have kp1:∀b o,s.heap.get? b=some o->H1.get? b=some o:=λb o e=>by rw[<-hH];exact ND _ e
 have hD:H1.get? s.heap.objs.size=some (seqObj "list" #[] 0):=by rw[<-hH];exact NQ _ rfl
 have hHs:H1.objs.size=s.heap.objs.size + 1:=by rw[<-hH];exact O4 ..
 have hSD:S≠s.heap.objs.size:=Of (NO ho)
 have hT:Shared.TypeIs {s with heap:=H1} (.ref S) "set":=⟨o,kp1 _ _ ho,hc⟩
 unfold Builtin.List.listExtendWith
 refine NA (PZ hT ?_)
 have h1:Builtin.List.listSameRef (.ref s.heap.objs.size) (.ref S)=false:=by simp[Builtin.List.listSameRef,Ne.symm hSD]
 have h2:(Value.type "set" == Value.type "list")=false:=by decide
 have h3:(Value.type "set" == Value.type "tuple")=false:=by decide
 rw[h1,h2,h3]
 simp only[Bool.or_false,NZ,Ou]
 refine NA (Dp (s:={s with heap:=H1}) (kp1 _ _ ho) hd hc T hl ?_)
 refine NA (OS ?_)
 unfold Builtin.List.listLengthHint
 have hT2:Shared.TypeIs {s with heap:=H1.push (vk S 0 0 es.size ep)} (.ref S) "set":=⟨o,ND _ (kp1 _ _ ho),hc⟩
 refine NA (wpAny_specialOf hT2 F.slot_set_len.lookup ?_)
 wp_delta
 refine NA (wpAny_isInstance hT2 (b:=true) (by rw[Qx];kernel_rfl) ?_)
 show wpAny _ A.in1 (typeOf (Value.ref S) >>= λ_=>_) _ _ _
 refine NA (PZ hT2 ?_)
 refine NF ?_
 show wpAny _ A.in1 (rule "list.extend.makes-room" >>= λ_=>Builtin.List.listTouch (.ref s.heap.objs.size) >>= λ_=>again (.builtin "list.extend.loop" ⟨[.ref s.heap.objs.size,.ref H1.objs.size,.ref s.heap.objs.size],[]⟩)) _ _ _
 refine NA (wpAny_rule (NA ?_))
 generalize hH2:H1.push (vk S 0 0 es.size ep)=H2
 have kp2:∀b o,H1.get? b=some o->H2.get? b=some o:=λb o e=>by rw[<-hH2];exact ND _ e
 have hI:H2.get? H1.objs.size=some (vk S 0 0 es.size ep):=by rw[<-hH2];exact NQ _ rfl
 have hS0:=kp2 _ _ hD
 show wpAny _ A.in1 (updateSeq s.heap.objs.size (·.push .none) >>= λ_=>updateSeq s.heap.objs.size (·.pop)) _ _ _
 refine NA (wpAny_updateSeq (s:={s with heap:=H2}) hS0 rfl ?_)
 have hS2:=OB (Obj.mapSeq (·.push Value.none)) hS0 rfl
 refine wpAny_updateSeq (hz:=by seq_fits) hS2 rfl ?_
 have hS3:=OB (Obj.mapSeq (·.pop)) hS2 rfl
 have oth:∀b o,b≠s.heap.objs.size->H2.get? b=some o->((H2.update s.heap.objs.size (Obj.mapSeq (·.push Value.none))).update s.heap.objs.size (Obj.mapSeq (·.pop))).get? b=some o:=λb o hb e=>
  ((Heap.SameBut.update _ s.heap.objs.size (Obj.mapSeq (·.pop))).2 b hb).trans (((Heap.SameBut.update H2 s.heap.objs.size (Obj.mapSeq (·.push Value.none))).2 b hb).trans e)
 have hIS:S≠H1.objs.size:=by rw[hHs];exact Of (Nat.lt_succ_of_lt (NO ho))
 have hID:H1.objs.size≠s.heap.objs.size:=by rw[hHs];exact Nat.succ_ne_self _
 have hDf:s.heap.objs.size∉ [H1.objs.size,S]:=λz=>by
  rcases NI.mp z with e |z
  ·exact hID e.symm
  ·exact hSD (N9.mp z).symm
 have X0:nc w S o es ep t H1.objs.size 0 ((H2.update s.heap.objs.size (Obj.mapSeq (·.push Value.none))).update s.heap.objs.size (Obj.mapSeq (·.pop))):=
  ⟨oth _ _ hSD (kp2 _ _ (kp1 _ _ ho)),hd,hc,T,hl,0,oth _ _ hID hI,λ_=>rfl⟩
 refine NF ⟨plainId_quiet F.plain_extend_loop _,codeAny_extend_loopS (Bl (A:=A.in1) (o:=o) (t:=t) hh hIS).toS hz _ hDf _ es.size 0 _ _ _ rfl (Oh _) X0 hS3 (ItemsOf.nil _) λs' acc' c' hm hS' hacc=>?_⟩
 show wpAny _ A (load s.heap.objs.size >>= λ_=>_) _ _ s'
 refine NA (wpAny_load hS' (NF ?_))
 obtain⟨h',g',d',tk',os'⟩:=s'
 have eg:g'=s.gens:=hm.gens
 have ed:d'=s.drawn:=hm.drawn
 have eo:os'=s.os:=hm.os
 subst eg ed eo
 refine h h' tk' acc'.toList ?_ λb ob e=>hm.heap b ob (λhb=>?_) (oth b ob (Of (NO e)) (kp2 _ _ (kp1 _ _ e)))
 ·have hts:(told w S ep es).size=es.size:=by have:=(sx w S ep es).length_eq;simpa using this
  apply QA
  intro i
  rw[NP]
  by_cases hi:i < es.size
  ·have hi1:i < acc'.size:=by rw[hacc.1];exact hi
   have q:=hacc.2 i acc'[i] (Od hi1)
   rw[Pf,Pf,Od hi1]
   exact q.symm
  ·rw[Pf,Pf,Qc (by rw[hacc.1];omega),Qc (by omega)];rfl
 ·have hlt:=NO e
  rcases NI.mp hb with z |z
  ·rw[z] at hlt;exact Om _ hlt
  ·rw[N9.mp z,hHs] at hlt;exact absurd hlt (Nat.not_lt.mpr (PV _))
end
end L2.ST
namespace OM
abbrev Pr:=Int×Int
def GN (p q:Pr):Prop:=p.1 < q.1\/(p.1=q.1/\p.2 < q.2)
def jW (p:Pr):¬GN p p:=by unfold GN;omega
def By (a:GN p q)(b:GN q r):GN p r:=by unfold GN at *;omega
abbrev xa (l:List Pr):Prop:=l.Pairwise GN
theorem jz:∀{l m:List Pr},xa l->xa m->(∀x,x∈l↔x∈m)->l=m
 | [],[],_,_,_=>rfl
 | [],b :: m,_,_,h=>absurd ((h b).mpr (NN ..)) (by simp)
 |a :: l,[],_,_,h=>absurd ((h a).mp (NN ..)) (by simp)
 |a :: l,b :: m,hl,hm,h=>by
  have hl':=List.pairwise_cons.mp hl
  have hm':=List.pairwise_cons.mp hm
  have e:a=b:=by
   rcases NI.mp ((h a).mp (NN ..)) with e |e
   ·exact e
   ·rcases NI.mp ((h b).mpr (NN ..)) with e' |e'
    ·exact e'.symm
    ·exact absurd (By (hm'.1 a e) (hl'.1 b e')) (jW _)
  subst e
  congr 1
  refine jz hl'.2 hm'.2 λx=>⟨λhx=>?_,λhx=>?_⟩
  ·rcases NI.mp ((h x).mp (NJ _ hx)) with e |e
   ·subst e;exact absurd (hl'.1 x hx) (jW _)
   ·exact e
  ·rcases NI.mp ((h x).mpr (NJ _ hx)) with e |e
   ·subst e;exact absurd (hm'.1 x hx) (jW _)
   ·exact e
def g8 (h:xa l):l.Nodup:=h.imp λ{a b} hab e=>by subst e;exact jW _ hab
def xV (p:Pr->Bool)(h:xa l):xa (l.filter p):=h.sublist List.filter_sublist
def gG (n:Nat):List Pr:=(List.range (n * n)).map λk=>(((k / n:Nat):Int),((k % n:Nat):Int))
def gc :p∈gG n↔(0<=p.1/\p.1 < n)/\(0<=p.2/\p.2 < n):=by
 unfold gG
 rw[NT]
 constructor
 ·rintro⟨k,hk,rfl⟩
  have hk:=N6.mp hk
  have hn:0 < n:=by
   rcases Nat.eq_zero_or_pos n with e |e
   ·subst e;omega
   ·exact e
  have h1:k / n < n:=Nat.div_lt_of_lt_mul hk
  have h2:k % n < n:=Nat.mod_lt _ hn
  generalize k / n=q at h1
  generalize k % n=r at h2
  exact⟨⟨Int.natCast_nonneg _,by dsimp only;omega⟩,⟨Int.natCast_nonneg _,by dsimp only;omega⟩⟩
 ·rintro⟨⟨a0,a1⟩,⟨b0,b1⟩⟩
  have hn:0 < n:=by omega
  refine⟨p.1.toNat * n + p.2.toNat,N6.mpr ?_,?_⟩
  ·have h1:p.1.toNat + 1<=n:=by omega
   have h2:p.2.toNat < n:=by omega
   have:=Nat.mul_le_mul_right n h1
   rw[Nat.add_mul] at this
   omega
  ·have h2:p.2.toNat < n:=by omega
   have e1:(p.1.toNat * n + p.2.toNat) / n=p.1.toNat:=by
    rw[Nat.mul_comm,Nat.mul_add_div hn,Nat.div_eq_of_lt h2];rfl
   have e2:(p.1.toNat * n + p.2.toNat) % n=p.2.toNat:=by
    rw[Nat.mul_comm,Nat.mul_add_mod,Nat.mod_eq_of_lt h2]
   rw[e1,e2]
   refine Prod.ext ?_ ?_ <;> dsimp only <;> omega
def vD (n:Nat):xa (gG n):=by
 unfold gG
 refine OI.mpr (O2 ?_ List.pairwise_lt_range)
 intro a b ha hb hab
 have ha:=N6.mp ha
 have hb:=N6.mp hb
 have hn:0 < n:=by
  rcases Nat.eq_zero_or_pos n with e |e
  ·subst e;omega
  ·exact e
 have h1:a / n<=b / n:=Nat.div_le_div_right (Nat.le_of_lt hab)
 have e1:=Nat.div_add_mod a n
 have e2:=Nat.div_add_mod b n
 unfold GN
 dsimp only
 rcases ON (a / n) (b / n) with c |c
 ·left;omega
 ·right
  have e:a / n=b / n:=by omega
  rw[e] at e1
  omega
open Classical in
noncomputable def cu (n:Nat)(R:Int->Int->Prop):List Pr:=(gG n).filter λp=>decide (R p.1 p.2)
def bq {R:Int->Int->Prop}:p∈cu n R↔((0<=p.1/\p.1 < n)/\(0<=p.2/\p.2 < n))/\R p.1 p.2:=by
 unfold cu
 rw[Oc,gc]
 simp
def dC (n:Nat)(R:Int->Int->Prop):xa (cu n R):=xV _ (vD n)
def xg {n:Nat}{R S:Int->Int->Prop}(h:∀a b:Int,0<=a->a < n->0<=b->b < n->(R a b↔S a b)):cu n R=cu n S:=by
 refine jz (dC n R) (dC n S) λx=>?_
 rw[bq,bq]
 constructor
 ·rintro⟨⟨⟨a,b⟩,c,d⟩,r⟩;exact⟨⟨⟨a,b⟩,c,d⟩,(h _ _ a b c d).mp r⟩
 ·rintro⟨⟨⟨a,b⟩,c,d⟩,r⟩;exact⟨⟨⟨a,b⟩,c,d⟩,(h _ _ a b c d).mpr r⟩
def Wn (n:Nat)(l:List Pr):Prop:=∀p,p∈l->(0<=p.1/\p.1 < n)/\(0<=p.2/\p.2 < n)
abbrev Mem (l:List Pr)(a b:Int):Prop:=(a,b)∈l
def Br (w:Wn n l)(r:xa l):cu n (Mem l)=l:=by
 refine jz (dC n _) r λx=>?_
 rw[bq]
 exact⟨λh=>h.2,λh=>⟨w x h,h⟩⟩
def tR (n:Nat)(R:Int->Int->Prop):Wn n (cu n R):=λ_ h=>(bq.mp h).1
def C5 (n:Nat)(R:Int->Int->Prop):(cu n R).length<=n * n:=by
 unfold cu
 refine OT (PK ..) ?_
 unfold gG;simp
inductive Tr (R:Int->Int->Prop):Int->Int->Prop
 |one {a b}:R a b->Tr R a b
 |more {a b c}:R a b->Tr R b c->Tr R a c
theorem Tr.trans {R:Int->Int->Prop}(h:Tr R a b)(k:Tr R b c):Tr R a c:=by
 induction h with
 |one r=>exact .more r k
 |more r _ ih=>exact .more r (ih k)
theorem Tr.least {R S:Int->Int->Prop}(f:∀a b,R a b->S a b)(t:∀a b c,S a b->S b c->S a c)(h:Tr R a b):S a b:=by
 induction h with
 |one r=>exact f _ _ r
 |more r _ ih=>exact t _ _ _ (f _ _ r) ih
structure Ord (n:Nat)(l:List Pr):Prop where
 lo:1<=n
 hi:n<=8
 wn:Wn n l
 ris:xa l
 irr:∀a,(a,a)∉l
 tr:∀a b c,(a,b)∈l->(b,c)∈l->(a,c)∈l
def Ord.tr_mem (O:Ord n l):Tr (Mem l) a b↔(a,b)∈l:=
 ⟨λh=>h.least (λ_ _ r=>r) λa b c=>O.tr a b c,λh=>.one h⟩
def Ord.closed (O:Ord n l):cu n (Tr (Mem l))=l:=by
 rw[xg (S:=Mem l) λa b _ _ _ _=>O.tr_mem,Br O.wn O.ris]
def Iu (h1:1<=n)(h8:n<=8)(w:Wn n l)(hr:∀a,¬Tr (Mem l) a a):Ord n (cu n (Tr (Mem l))):=
 ⟨h1,h8,tR n _,dC n _,λa h=>hr a (bq.mp h).2,λa b c h k=>bq.mpr ⟨⟨(bq.mp h).1.1,(bq.mp k).1.2⟩,(bq.mp h).2.trans (bq.mp k).2⟩⟩
theorem fu {l m:List Pr}(hl:l.Nodup)(h:∀x,x∈l->x∈m):l.length<=m.length:=by
 induction l generalizing m with
 |nil=>exact Oh _
 |cons a l ih=>
  have ha:=h a (NN ..)
  have hl':=Og.mp hl
  have:=ih (m:=m.erase a) hl'.2 λx hx=>by
   refine (List.mem_erase_of_ne ?_).mpr (h x (NJ _ hx))
   rintro rfl;exact hl'.1 hx
  rw[Qt ha] at this
  have:0 < m.length:=List.length_pos_of_mem ha
  simp only[N0];omega
def sub_eq {l m:List Pr}(hl:xa l)(hm:xa m)(h:∀x,x∈l->x∈m)(e:l.length=m.length):l=m:=by
 refine jz hl hm λx=>⟨h x,λhx=>Classical.byContradiction λhn=>?_⟩
 have:=fu (l:=x :: l) (m:=m) (Og.mpr ⟨hn,g8 hl⟩) λy hy=>by
  rcases NI.mp hy with e |e
  ·subst e;exact hx
  ·exact h y e
 simp only[N0] at this
 omega
def more (l:List Pr):List Pr:=l.flatMap λp=>(l.filter λq=>decide (q.1=p.2)).map λq=>(p.1,q.2)
def p8 :x∈more l↔∃b,(x.1,b)∈l/\(b,x.2)∈l:=by
 unfold more
 rw[List.mem_flatMap]
 constructor
 ·rintro⟨p,hp,hx⟩
  obtain⟨q,hq,rfl⟩:=NT.mp hx
  obtain⟨hq,e⟩:=Oc.mp hq
  have e:q.1=p.2:=by simpa using e
  exact⟨p.2,hp,by rw[<-e];exact hq⟩
 ·rintro⟨b,h1,h2⟩
  exact⟨(x.1,b),h1,NT.mpr ⟨(b,x.2),Oc.mpr ⟨h2,by simp⟩,rfl⟩⟩
noncomputable def kn (n:Nat)(l:List Pr):List Pr:=cu n (Mem (l ++ more l))
structure Hm (n:Nat)(ps l:List Pr):Prop where
 wn:Wn n l
 ris:xa l
 sub:∀x,x∈ps->x∈l
 sup:∀x,x∈l->Tr (Mem ps) x.1 x.2
def Bj (w:Wn n ps):Hm n ps (cu n (Mem ps)):=
 ⟨tR n _,dC n _,λx hx=>bq.mpr ⟨w x hx,hx⟩,λ_ hx=>.one (bq.mp hx).2⟩
def Du (B:Hm n ps l):Wn n (l ++ more l):=λx hx=>by
 rcases N7.mp hx with h |h
 ·exact B.wn x h
 ·obtain⟨b,h1,h2⟩:=p8.mp h
  exact⟨(B.wn _ h1).1,(B.wn _ h2).2⟩
def vY (B:Hm n ps l):Hm n ps (kn n l)/\∀x,x∈l->x∈kn n l:=by
 have hs:∀x,x∈l->x∈kn n l:=λx hx=>bq.mpr ⟨B.wn x hx,OW _ hx⟩
 refine⟨⟨tR n _,dC n _,λx hx=>hs x (B.sub x hx),λx hx=>?_⟩,hs⟩
 rcases N7.mp (bq.mp hx).2 with h |h
 ·exact B.sup _ h
 ·obtain⟨b,h1,h2⟩:=p8.mp h
  exact (B.sup _ h1).trans (B.sup _ h2)
def Cw (B:Hm n ps l)(e:(kn n l).length=l.length):kn n l=cu n (Tr (Mem ps)):=by
 obtain⟨B2,hs⟩:=vY B
 have q:l=kn n l:=sub_eq B.ris B2.ris hs e.symm
 refine jz B2.ris (dC n _) λx=>⟨λh=>bq.mpr ⟨B2.wn x h,B2.sup x h⟩,λh=>?_⟩
 rw[<-q]
 have tr:∀a b c:Int,(a,b)∈l->(b,c)∈l->(a,c)∈l:=λa b c h1 h2=>by
  rw[q]
  exact bq.mpr ⟨⟨(B.wn _ h1).1,(B.wn _ h2).2⟩,Oo _ (p8.mpr ⟨b,h1,h2⟩)⟩
 exact (bq.mp h).2.least (S:=Mem l) (λa b r=>B.sub _ r) tr
abbrev Tb:=Nat->Nat->Bool
def Tb.set (M:Tb)(a b:Nat):Tb:=λx y=>if x=a/\y=b then true else M x y
def EA (M:Tb)(m:Nat):Prop:=∀k a b,k < m->M a k=true->M k b=true->M a b=true
def Phase (M0 M:Tb)(m:Nat)(D:Nat->Nat->Prop):Prop:=∀a b,M a b=true↔M0 a b=true\/(D a b/\M0 a m=true/\M0 m b=true)
def Phase.start (M:Tb)(m:Nat):Phase M M m λ_ _=>False:=λa b=>by simp
def Phase.row {D:Nat->Nat->Prop}(P:Phase M0 M m D)(a:Nat):M a m=true↔M0 a m=true:=by
 rw[P]
 exact⟨λh=>h.elim id λh=>h.2.1,.inl⟩
def Phase.col {D:Nat->Nat->Prop}(P:Phase M0 M m D)(b:Nat):M m b=true↔M0 m b=true:=by
 rw[P]
 exact⟨λh=>h.elim id λh=>h.2.2,.inl⟩
def Phase.step {D:Nat->Nat->Prop}(P:Phase M0 M m D)(x y:Nat) :
  Phase M0 (if M x m=true/\M m y=true then M.set x y else M) m (λa b=>D a b\/(a=x/\b=y)):=λa b=>by
 have r:=P.row x
 have c:=P.col y
 by_cases h:M x m=true/\M m y=true
 ·rw[NG h]
  unfold Tb.set
  by_cases e:a=x/\b=y
  ·rw[NG e]
   obtain⟨rfl,rfl⟩:=e
   simp only[true_iff]
   exact .inr ⟨.inr (by simp),r.mp h.1,c.mp h.2⟩
  ·rw[NL e,P]
   constructor
   ·rintro (q | ⟨d,q⟩)
    ·exact .inl q
    ·exact .inr ⟨.inl d,q⟩
   ·rintro (q | ⟨d |d,q⟩)
    ·exact .inl q
    ·exact .inr ⟨d,q⟩
    ·exact absurd d e
 ·rw[NL h,P]
  constructor
  ·rintro (q | ⟨d,q⟩)
   ·exact .inl q
   ·exact .inr ⟨.inl d,q⟩
  ·rintro (q | ⟨d | ⟨rfl,rfl⟩,q1,q2⟩)
   ·exact .inl q
   ·exact .inr ⟨d,q1,q2⟩
   ·exact absurd ⟨r.mpr q1,c.mpr q2⟩ h
def Phase.done {D:Nat->Nat->Prop}(P:Phase M0 M m D)(hD:∀a b,a < n->b < n->D a b)(hM:∀a b,M0 a b=true->a < n/\b < n)(T:EA M0 m) :
  EA M (m + 1)/\∀a b,M a b=true->a < n/\b < n:=by
 have hM':∀a b,M a b=true->a < n/\b < n:=λa b h=>by
  rcases (P a b).mp h with q | ⟨_,q1,q2⟩
  ·exact hM a b q
  ·exact⟨(hM _ _ q1).1,(hM _ _ q2).2⟩
 have put:∀a b,M0 a m=true->M0 m b=true->M a b=true:=λa b h1 h2=>(P a b).mpr (.inr ⟨hD a b (hM _ _ h1).1 (hM _ _ h2).2,h1,h2⟩)
 refine⟨λk a b hk h1 h2=>?_,hM'⟩
 rcases ON k m with c |c
 ·rcases (P a k).mp h1 with q1 | ⟨_,q1,q1'⟩
  ·rcases (P k b).mp h2 with q2 | ⟨_,q2,q2'⟩
   ·exact (P a b).mpr (.inl (T k a b c q1 q2))
   ·exact put a b (T k a m c q1 q2) q2'
  ·rcases (P k b).mp h2 with q2 | ⟨_,q2,q2'⟩
   ·exact put a b q1 (T k m b c q1' q2)
   ·exact put a b q1 q2'
 ·have e:k=m:=by omega
  subst e
  exact put a b ((P.row a).mp h1) ((P.col b).mp h2)
structure Tab (n:Nat)(ps:List Pr)(M:Tb):Prop where
 inn:∀a b,M a b=true->a < n/\b < n
 sub:∀a b:Nat,((a:Int),(b:Int))∈ps->M a b=true
 sup:∀a b:Nat,M a b=true->Tr (Mem ps) a b
def Tab.phase {D:Nat->Nat->Prop}(T:Tab n ps M0)(P:Phase M0 M m D):Tab n ps M:=
 ⟨λa b h=>by
  rcases (P a b).mp h with q | ⟨_,q1,q2⟩
  ·exact T.inn a b q
  ·exact⟨(T.inn _ _ q1).1,(T.inn _ _ q2).2⟩,
  λa b h=>(P a b).mpr (.inl (T.sub a b h)),
  λa b h=>by
  rcases (P a b).mp h with q | ⟨_,q1,q2⟩
  ·exact T.sup a b q
  ·exact (T.sup _ _ q1).trans (T.sup _ _ q2)⟩
def Tab.all (w:Wn n ps)(T:Tab n ps M)(H:EA M n)(a b:Nat):M a b=true↔Tr (Mem ps) a b:=by
 refine⟨T.sup a b,λh=>?_⟩
 have key:∀{x y:Int},Tr (Mem ps) x y->M x.toNat y.toNat=true:=λ{x y} h=>by
  induction h with
  | @one x y r=>
   have:=w _ r
   refine T.sub _ _ ?_
   have e1:((x.toNat:Nat):Int)=x:=by simp only at this;omega
   have e2:((y.toNat:Nat):Int)=y:=by simp only at this;omega
   rw[e1,e2];exact r
  | @more x y z r _ ih=>
   have:=w _ r
   have e1:((x.toNat:Nat):Int)=x:=by simp only at this;omega
   have e2:((y.toNat:Nat):Int)=y:=by simp only at this;omega
   have q:M x.toNat y.toNat=true:=T.sub _ _ (by rw[e1,e2];exact r)
   exact H y.toNat _ _ (T.inn _ _ q).2 q ih
 have:=key h
 simpa using this
end OM
namespace L2.ST
open PySem PySem.SetTable PySem.W PyProof.Rows
section
variable {prog:Program}{w:World}{A:Around}{E:Value->Shared->Prop}{s:Shared}
def IE (hs:∀p,p∈ps->Sm p)(P:L2.SO.Pm ps.length ix)(U:L2.SO.Up (qX ps) ix ps.length):OM.xa (ix.toList.map λi=>ps.getD i (0,0)):=by
 refine OI.mpr (PQ.mpr λi j hi hj hij=>?_)
 have hi':i < ix.size:=by simpa using hi
 have hj':j < ix.size:=by simpa using hj
 have q:=U i j hij (by rw[<-P.sz];exact hj')
 unfold L2.SO.Kp qX at q
 have ei:ix.getD i 0=ix.toList[i]:=by simp[Array.getD,hi']
 have ej:ix.getD j 0=ix.toList[j]:=by simp[Array.getD,hj']
 rw[ei,ej] at q
 have ai:ix.toList[i] < ps.length:=P.lt _ (by simp)
 have aj:ix.toList[j] < ps.length:=P.lt _ (by simp)
 have bi:Sm (ps.getD ix.toList[i] (0,0)):=by rw[Ob,NC ai];exact hs _ (OY ai)
 have bj:Sm (ps.getD ix.toList[j] (0,0)):=by rw[Ob,NC aj];exact hs _ (OY aj)
 exact (zZ bi bj).mp q
def Hv (P:L2.SO.Pm n ix)(hk:k < n):k∈ix.toList:=by
 refine Classical.byContradiction λhn=>?_
 have:=bF (l:=k :: ix.toList) (m:=List.range n) (Og.mpr ⟨hn,P.nd⟩) λx hx=>by
  rcases NI.mp hx with e |e
  ·rw[e];exact N6.mpr hk
  ·exact N6.mpr (P.lt x (by simpa using e))
 simp[P.sz] at this
 omega
theorem KU (hps:cX prog w h vs ps)(P:L2.SO.Pm vs.length ix) :
  cX prog w h (ix.toList.map λi=>vs.getD i Value.none) (ix.toList.map λi=>ps.getD i (0,0)):=by
 refine⟨by simp,λi v p h1 h2=>?_⟩
 rw[NP] at h1 h2
 cases e:ix.toList[i]? with
 |none=>rw[e] at h1;cases h1
 |some k=>
  rw[e] at h1 h2
  have hk:k < vs.length:=P.lt k (by simpa using NU e)
  have hk':k < ps.length:=by rw[<-hps.1];exact hk
  simp[hk,hk'] at h1 h2
  exact hps.2 k v p (by rw[NC hk,h1]) (by rw[NC hk',h2])
def An {v:Value}{Q:Value->Shared->Prop}(hps:cX prog w s.heap vs ps)(nd:ps.Nodup)(h64:vs.length < 64)
  (hcol:∀(Q':List Value->Shared->Prop),(∀h' tk,(∀b o,s.heap.get? b=some o->h'.get? b=some o)->Q' vs {s with heap:=h',toks:=tk})->wpAny (model prog w) A.in1 (collect v) Q' (λe s'=>E e s') s)
  (h:∀(h1 h':Heap) (tk:Nat) (D:Addr) (out:List Value) (qs:List Pr) (c:Nat),(∀b o,s.heap.get? b=some o->h1.get? b=some o)->D=h1.objs.size->(∀b o,h1.get? b=some o->h'.get? b=some o)->h'.get? D=some (seqObj "list" out.toArray c)->cX prog w h' out qs->(∀u,u∈out->u∈vs)->OM.xa qs->(∀p,p∈qs↔p∈ps)->
   Q (.ref D) {s with heap:=h',toks:=tk}):wpAny (model prog w) A (call (.builtin "sorted") [v]) Q E s:=by
 have hsm:∀p,p∈ps->Sm p:=λp hp=>by
  obtain⟨i,hi,e⟩:=Ol.mp hp
  have hi':i < vs.length:=by rw[hps.1];exact hi
  obtain⟨_,_,_,hs⟩:=hps.2 i vs[i] p (NC hi') (by rw[NC hi,e])
  exact hs
 (refine Calls.call_function_entry kind_sorted plain_sorted entry_sorted (args_sorted1 _) ?_)
 unfold Builtin.«sorted»
 refine NA (m:=checkCount "sorted" 1 1 ([v]:List Value).length) (NF ?_)
 refine NA (hcol _ λh1 tk1 k1=>?_)
 have hz:vs.length<=sizeLine:=by rw[N8];omega
 refine NA (wpAny_newList ?_ hz)
 show wpAny _ _ _ _ _ {s with heap:=h1.push (seqObj "list" vs.toArray 0),toks:=tk1}
 have hoL:(h1.push (seqObj "list" vs.toArray 0)).get? h1.objs.size=some (seqObj "list" vs.toArray 0):=NQ _ rfl
 have kp:∀b o,s.heap.get? b=some o->(h1.push (seqObj "list" vs.toArray 0)).get? b=some o:=λb o e=>ND _ (k1 b o e)
 have hp1:cX prog w (h1.push (seqObj "list" vs.toArray 0)) vs ps:=⟨hps.1,λi v p a b=>by
  obtain⟨c,e,⟨o,it,n,ho,r⟩,hs⟩:=hps.2 i v p a b
  exact⟨c,e,⟨o,it,n,kp _ _ ho,r⟩,hs⟩⟩
 have hne:∀b o,s.heap.get? b=some o->b≠h1.objs.size:=λb o e=>Of (NO (k1 b o e))
 refine NA (OS (O1 slot_list_sort ⟨_,hoL,rfl⟩ entry_list_sort ?_ (args_list_sort _)))
 refine vN (s:={s with heap:=h1.push (seqObj "list" vs.toArray 0),toks:=tk1}) hoL hp1 nd h64 λh' c ix P U hk ho=>?_
 refine⟨_,rfl,NF ⟨_,rfl,?_⟩⟩
 have kk:∀b o,s.heap.get? b=some o->h'.get? b=some o:=λb o e=>hk b o (hne b o e) (kp b o e)
 have P':L2.SO.Pm ps.length ix:=by rw[<-hps.1];exact P
 have k2:∀b o,h1.get? b=some o->h'.get? b=some o:=λb o e=>hk b o (Of (NO e)) (ND _ e)
 refine h h1 h' tk1 h1.objs.size _ (ix.toList.map λi=>ps.getD i (0,0)) c k1 rfl k2 ho (KU ⟨hps.1,λi v p a b=>?_⟩ P) (λu hu=>?_) (IE hsm P' (by rw[<-hps.1];exact U)) λp=>⟨λhp=>?_,λhp=>?_⟩
 ·obtain⟨c,e,⟨o,it,n,ho,r⟩,hs⟩:=hps.2 i v p a b
  exact⟨c,e,⟨o,it,n,kk _ _ ho,r⟩,hs⟩
 ·obtain⟨i,hi,rfl⟩:=NT.mp hu
  have:i < vs.length:=P.lt i (by simpa using hi)
  rw[Ob,NC this]
  exact OY this
 ·obtain⟨i,hi,rfl⟩:=NT.mp hp
  have:i < ps.length:=P'.lt i (by simpa using hi)
  rw[Ob,NC this]
  exact OY this
 ·obtain⟨i,hi,e⟩:=Ol.mp hp
  refine NT.mpr ⟨i,Hv P' hi,?_⟩
  rw[Ob,NC hi,e];rfl
end
end L2.ST
namespace L2
open PySem PySem.Spec PyProof.Rows
abbrev Pr:=Int×Int
abbrev Sm:=L2.ST.Sm
section
variable {X:Cx}{pins:List (Addr×Obj)}{σ:St}{H H':Hp}{s:Shared}
def iA (H H':Hp):Prop:=(∀b xs,H b=some (.tup xs)->H' b=some (.tup xs))/\∀b o u,H b=some (.bt o u)->H' b=some (.bt o u)
def iA.trans {H H1 H2:Hp}(a:iA H H1)(b:iA H1 H2):iA H H2:=⟨λc xs h=>b.1 c xs (a.1 c xs h),λc o u h=>b.2 c o u (a.2 c o u h)⟩
def aw.grow {H H':Hp}(e:aw H H'):iA H H':=⟨λb xs h=>e b _ h,λb o u h=>e b _ h⟩
def iA.new {H:Hp}(h:H l=none):iA H (upd H l o):=⟨λb xs e=>by rw[aB (aL e h)];exact e,λb o' u e=>by rw[aB (aL e h)];exact e⟩
def aw.new {H:Hp}(h:H l=none):aw H (upd H l o):=λb u e=>by rw[aB (aL e h)];exact e
def dU.grow {K:Frag}{a:Addr}{xs:List V}(h:dU K H a xs)(g:iA H H'):dU K H' a xs:=by
 rcases h with (h | ⟨o,h⟩) |h
 ·exact .inl (.inl (g.1 _ _ h))
 ·exact .inl (.inr ⟨o,g.2 _ _ _ h⟩)
 ·exact .inr h
def iA.list (h:H a=some (.lst ys)):iA H (upd H a o):=
 ⟨λb xs e=>by rw[aB (Hh e h (by intro z;cases z))];exact e,λb o' u e=>by rw[aB (Hh e h (by intro z;cases z))];exact e⟩
theorem rK {α β:Type}{f:α->β}:∀{l:List α} {m:List β},m.Perm (l.map f)->∃l':List α,m=l'.map f/\l'.Perm l:=by
 intro l m h
 generalize hk:l.map f=k at h
 induction h generalizing l with
 |nil=>
  have:l= []:=by simpa using hk
  exact⟨[],rfl,by rw[this]⟩
 | @cons x m1 m2 _ ih=>
  cases l with
  |nil=>cases hk
  |cons a l=>
   simp only[Oq,List.cons.injEq] at hk
   obtain⟨l',e,p⟩:=ih hk.2
   exact⟨a :: l',by rw[Oq,hk.1,e],p.cons a⟩
 |swap x y m1=>
  cases l with
  |nil=>cases hk
  |cons a l=>
   cases l with
   |nil=>simp at hk
   |cons b l=>
    simp only[Oq,List.cons.injEq] at hk
    exact⟨b :: a :: l,by rw[Oq,Oq,hk.1,hk.2.1,hk.2.2],List.Perm.swap ..⟩
 |trans _ _ ih1 ih2=>
  obtain⟨l1,e1,p1⟩:=ih2 hk
  obtain⟨l2,e2,p2⟩:=ih1 e1.symm
  exact⟨l2,e2,p2.trans p1⟩
def aW (K:Frag)(H:Hp):List V->List Pr->Prop:=Paired λv p=>∃a,v=.ref a/\dU K H a [.int p.1,.int p.2]
def aW.grow {K:Frag}{vs:List V}{ps:List Pr}(h:aW K H vs ps)(g:iA H H'):aW K H' vs ps:=Paired.mapP h λv p ⟨a,e,q⟩=>⟨a,e,q.grow g⟩
theorem Paired.getP {α β:Type}{F:α->β->Prop}:∀{l:List α} {m:List β} {i:Nat} {x:α},Paired F l m->l[i]? =some x->∃y,m[i]? =some y/\F x y
 |_,_,_,_,.nil,e=>by simp at e
 |_,_,0,_,.cons r _,e=>by simp at e;subst e;exact⟨_,rfl,r⟩
 |_,_,i + 1,x,.cons _ t,e=>by
  obtain⟨u,h1,h2⟩:=Paired.getP (i:=i) (x:=x) t (by simpa using e)
  exact⟨u,by simpa using h1,h2⟩
theorem Paired.getQ {α β:Type}{F:α->β->Prop}:∀{l:List α} {m:List β} {i:Nat} {y:β},Paired F l m->m[i]? =some y->∃x,l[i]? =some x/\F x y
 |_,_,_,_,.nil,e=>by simp at e
 |_,_,0,_,.cons r _,e=>by simp at e;subst e;exact⟨_,rfl,r⟩
 |_,_,i + 1,x,.cons _ t,e=>by
  obtain⟨u,h1,h2⟩:=Paired.getQ (i:=i) (y:=x) t (by simpa using e)
  exact⟨u,by simpa using h1,h2⟩
theorem tD (I:Inv X pins σ H s)(h:dU X.K H a [.int p.1,.int p.2]):L2.ST.bP X.prog X.w s.heap p a:=by
 obtain⟨its,r,⟨o,ho,hc,n,hd⟩,_⟩:=I.tuple h
 cases r with
 |cons r1 r=>
  cases r with
  |cons r2 r=>
   cases r
   obtain⟨t1,rfl⟩:=r1
   obtain⟨t2,rfl⟩:=r2
   exact⟨o,_,n,ho,hc,hd,.cons (intKind_is ..) (.cons (intKind_is ..) .nil)⟩
def pairs_at (I:Inv X pins σ H s)(hv:Vals vs us)(h:aW X.K H vs ps)(hs:∀p,p∈ps->Sm p):L2.ST.cX X.prog X.w s.heap us ps:=by
 refine⟨by rw[<-hv.length];exact Paired.length h,λi u p e1 e2=>?_⟩
 obtain⟨v,ev,a,rfl,q⟩:=Paired.getQ h e2
 obtain⟨u',eu,ru⟩:=hv.get ev
 rw[e1] at eu;cases eu
 cases ru
 exact⟨a,rfl,tD I q,hs p (NU e2)⟩
theorem qx (I:Inv X pins σ H s)(hv:Vals vs us)(h:aW X.K H vs ps)(k:∀b o,s.heap.get? b=some o->h'.get? b=some o):∀{out:List Value} {qs:List Pr},
  (∀u,u∈out->u∈us)->L2.ST.cX X.prog X.w h' out qs->∃ws,Vals ws out/\aW X.K H ws qs
 | [],[],_,_=>⟨[],.nil,.nil⟩
 | [],_ :: _,_,hp=>by have:=hp.1;simp at this
 |_ :: _,[],_,hp=>by have:=hp.1;simp at this
 |u :: out,q :: qs,hm,hp=>by
  obtain⟨ws,a1,a2⟩:=qx I hv h k (out:=out) (qs:=qs) (λx hx=>hm x (NJ _ hx)) ⟨by have:=hp.1;simpa using this,λi v p e1 e2=>hp.2 (i + 1) v p (by simpa using e1) (by simpa using e2)⟩
  obtain⟨i,hi,e⟩:=Ol.mp (hm u (NN ..))
  have hi':i < vs.length:=by rw[hv.length];exact hi
  obtain⟨u',eu,ru⟩:=hv.get (NC hi')
  rw[NC hi,e] at eu
  cases eu
  obtain⟨p,ep,a,ea,qa⟩:=Paired.getP h (NC hi')
  rw[ea] at ru
  cases ru
  obtain⟨b,eb,hb,_⟩:=hp.2 0 (.ref a) q rfl rfl
  cases eb
  have pa:L2.ST.bP X.prog X.w h' p a:=by
   obtain⟨o,it,n,ho,r⟩:=tD I qa
   exact⟨o,it,n,k _ _ ho,r⟩
  have:p=q:=L2.ST.bP.inj pa hb
  subst this
  exact⟨.ref a :: ws,.cons rfl a1,.cons ⟨a,rfl,qa⟩ a2⟩
def yD (I:Inv X pins σ H s)(hv:Vals vs us)(hp:aW X.K H vs ps)(hlen:ps.length < 64){Q:VK}
  (q:∀l ws qs,H l=none->aW X.K H ws qs->OM.xa qs->(∀p,p∈qs↔p∈ps)->Q (.ref l) (upd H l (.lst ws)))
  {h1 h':Heap} {tk:Nat} {D:Addr} {out:List Value} {qs:List Pr} {c:Nat} (k1:∀b o,s.heap.get? b=some o->h1.get? b=some o) (eD:D=h1.objs.size) (k2:∀b o,h1.get? b=some o->h'.get? b=some o)
  (ho:h'.get? D=some (seqObj "list" out.toArray c)) (hpq:L2.ST.cX X.prog X.w h' out qs) (hm:∀u,u∈out->u∈us) (hr:OM.xa qs) (hmem:∀p,p∈qs↔p∈ps):EP X pins σ Q (.ref D) {s with heap:=h',toks:=tk}:=by
 obtain⟨ws,r1,r2⟩:=qx I hv hp (λb o e=>k2 b o (k1 b o e)) hm hpq
 have I1:Inv X pins σ H {s with heap:=h1,toks:=tk}:=I.kept k1
 have hf:H D=none:=by rw[eD];exact I1.hok.fresh (NH _)
 have hz:ws.length<=sizeLine:=by
  have e1:=r1.length
  have e2:out.length=qs.length:=hpq.1
  have e3:=OM.fu (OM.g8 hr) λx hx=>(hmem x).mp hx
  rw[N8];omega
 have I2:Inv X pins σ (upd H D (.lst ws)) {s with heap:=h',toks:=tk}:=I1.laid (t':=tk) k2 (by rw[eD];exact NH _) (show bN X.prog X.w _ h' _ (.lst ws) from⟨hz,out,c,r1,ho⟩)
 exact⟨.ref D,_,I2,rfl,q D ws qs hf r2 hr hmem⟩
abbrev vq (qs:List (Addr×Pr)):List V:=qs.map λq=>V.ref q.1
abbrev pq (qs:List (Addr×Pr)):List Pr:=qs.map (·.2)
def GC (prog:Program)(w:World)(S:Addr)(qs:List (Addr×Pr))(h:Heap):Prop:=∃o ep t,h.get? S=some o/\o.ExactSet/\o.data=.set (qs.map λq=>(L2.ST.BI prog w q.2,Value.ref q.1)).toArray ep t/\L2.ST.Tab t (qs.map λq=>L2.ST.BI prog w q.2)/\t.led=L2.ST.gi w
def Bx (prog:Program)(w:World)(S:Addr)(qs:List (Addr×Pr)):HO:=.ext (GC prog w S qs)
def J1 (P:Program)(w:World)(K:Frag):List V->Hp->VK->Prop:=λxs H Q=>∃a vs ps,xs= [.ref a]/\(fj K H a vs\/dU K H a vs)/\aW K H vs ps/\(∀p,p∈ps->Sm p)/\
 ∀S qs,H S=none->aW K H (vq qs) (pq qs)->(pq qs).Nodup->(∀p,p∈pq qs↔p∈ps)->Q (.ref S) (upd H S (Bx P w S qs))
def B8 (hc:X.calm=true)(hu:X.A.units + 64 < cLine):cB X (.type "set") (J1 X.prog X.w X.K):=by
 intro pins s σ H xs us Q I r h
 obtain⟨a,vs,ps,rfl,hq,hp,hs,q⟩:=h
 obtain⟨u,rfl,rx⟩:=vals1 r
 cases rx
 have hh:=I.ok.hd hc
 have core:∀{its:List Value} {T:String} {itO:Obj} {St:Addr->Nat->Heap->Prop},Vals vs its->L2.ST.Src X.prog X.w s.heap a its T itO St->wpAny (model X.prog X.w) X.A (call (.type "set") [.ref a]) (EP X pins σ Q) X.xe s:=λ{its T itO St} rv src=>by
  refine L2.ST.p7 src hh hu (pairs_at I rv hp hs) λh' tk F k=>?_
  obtain⟨qs,P1,P2,P3⟩:=F
  have hlen:its.length=vs.length:=rv.length.symm
  have back:∀qv:Addr×Pr,qv∈qs->∃b,b=qv.1/\dU X.K H b [.int qv.2.1,.int qv.2.2]:=λqv hqv=>by
   obtain⟨i,hi,e⟩:=Ol.mp (Pj (P2 qv hqv).1)
   have hi':i < vs.length:=by rw[<-hlen];exact hi
   obtain⟨u',eu,ru⟩:=rv.get (NC hi')
   rw[NC hi,e] at eu
   cases eu
   obtain⟨p,ep,b,eb,qb⟩:=Paired.getP hp (NC hi')
   rw[eb] at ru
   cases ru
   have pa:L2.ST.bP X.prog X.w h' p qv.1:=by
    obtain⟨o,it,n,ho,r⟩:=tD I qb
    exact⟨o,it,n,k _ _ ho,r⟩
   have:p=qv.2:=L2.ST.bP.inj pa (P1.at' qv hqv).1
   subst this
   exact⟨_,rfl,qb⟩
  have hpv:∀{l:List (Addr×Pr)},(∀x,x∈l->x∈qs)->aW X.K H (vq l) (pq l):=λ{l}=>by
   induction l with
   |nil=>intro _;exact .nil
   |cons y l ih=>
    intro hl
    obtain⟨b,eb,qb⟩:=back y (hl y (NN ..))
    subst eb
    exact .cons ⟨_,rfl,qb⟩ (ih λx hx=>hl x (NJ _ hx))
  have hmem:∀p,p∈pq qs↔p∈ps:=λp=>by
   have hpl:ps.length=its.length:=by rw[hlen];exact (Paired.length hp).symm
   constructor
   ·intro hx
    obtain⟨qv,hqv,rfl⟩:=NT.mp hx
    exact Pj (P2 qv hqv).2
   ·intro hx
    exact P3 p (by rw[<-hpl,Pb (NH _)];exact hx)
  have hf:H s.heap.objs.size=none:=I.hok.fresh (NH _)
  obtain⟨o,ep,t,ho,r1⟩:=P1.ex
  have new:bN X.prog X.w (upd H s.heap.objs.size (Bx X.prog X.w s.heap.objs.size qs)) h' s.heap.objs.size (Bx X.prog X.w s.heap.objs.size qs):=
   ⟨⟨o,ep,t,ho,r1⟩,⟨o,ho⟩,λh1 h2 ⟨o1,ep1,t1,g1,g2⟩ kk=>⟨o1,ep1,t1,kk _ g1,g2⟩⟩
  exact⟨.ref _,_,I.laid (t':=tk) k (NH _) new,rfl,q _ qs hf (hpv λx hx=>hx) P1.nd hmem⟩
 rcases hq with hq |hq
 ·obtain⟨its,rv,pl,hz⟩:=I.list hq
  exact core rv (L2.ST.Src.list pl.isList)
 ·obtain⟨its,rv,pl,hz⟩:=I.tuple hq
  exact core rv (L2.ST.Src.tuple pl)
def vF (P:Program)(w:World)(K:Frag):List V->Hp->VK->Prop:=λxs H Q=>∃S qs,xs= [.ref S]/\H S=some (Bx P w S qs)/\aW K H (vq qs) (pq qs)/\(∀p,p∈pq qs->Sm p)/\(pq qs).Nodup/\qs.length < 64/\
 ∀l ws rs,H l=none->aW K H ws rs->OM.xa rs->(∀p,p∈rs↔p∈pq qs)->Q (.ref l) (upd H l (.lst ws))
def sZ (hc:X.calm=true):cB X (.builtin "sorted") (vF X.prog X.w X.K):=by
 intro pins s σ H xs us Q I r h
 obtain⟨S,qs,rfl,hS,hp,hs,nd,hl,q⟩:=h
 obtain⟨u,rfl,rx⟩:=vals1 r
 cases rx
 have hh:=I.ok.hd hc
 obtain⟨⟨o,ep,t,ho,hex,hd,T,hled⟩,_,_⟩:GC X.prog X.w S qs s.heap/\_:=I.hok S _ hS
 have T':L2.ST.Tab t ((qs.map λq=>(L2.ST.BI X.prog X.w q.2,Value.ref q.1)).toArray.toList.map (·.1)):=by
  rw[Pa,PD];exact T
 have htp:=L2.ST.sx X.w S ep (qs.map λq=>(L2.ST.BI X.prog X.w q.2,Value.ref q.1)).toArray
 have hmem:∀x,x∈(L2.ST.told X.w S ep (qs.map λq=>(L2.ST.BI X.prog X.w q.2,Value.ref q.1)).toArray).toList->∃q,q∈qs/\x=(L2.ST.BI X.prog X.w q.2,Value.ref q.1):=λx hx=>by
  have:=htp.mem_iff.mp hx
  simp only[Pa] at this
  obtain⟨q,hq,e⟩:=NT.mp this
  exact⟨q,hq,e.symm⟩
 obtain⟨q2,e2,p2⟩:∃q2:List (Addr×Pr),(L2.ST.told X.w S ep (qs.map λq=>(L2.ST.BI X.prog X.w q.2,Value.ref q.1)).toArray).toList=q2.map (λq=>(L2.ST.BI X.prog X.w q.2,Value.ref q.1))/\q2.Perm qs:=by
  have:=htp
  simp only[Pa] at this
  exact rK this
 have hp2:aW X.K H (vq q2) (pq q2):=by
  have key:∀{l:List (Addr×Pr)},(∀x,x∈l->x∈qs)->aW X.K H (vq l) (pq l):=λ{l}=>by
   induction l with
   |nil=>intro _;exact .nil
   |cons y l ih=>
    intro hl
    obtain⟨i,hi,e⟩:=Ol.mp (hl y (NN ..))
    obtain⟨p,ep',a,ea,qa⟩:=Paired.getP (l:=vq qs) (m:=pq qs) (i:=i) (x:=.ref y.1) hp (by simp[hi,e])
    have:p=y.2:=by simp[hi,e] at ep';exact ep'.symm
    subst this
    exact .cons ⟨a,ea,qa⟩ (ih λx hx=>hl x (NJ _ hx))
  exact key λx hx=>p2.mem_iff.mp hx
 have hv2:Vals (vq q2) (q2.map λq=>Value.ref q.1):=by
  induction q2 with
  |nil=>exact .nil
  |cons y l ih=>exact .cons rfl (by
    clear ih e2 p2 hp2
    induction l with
    |nil=>exact .nil
    |cons z l ih2=>exact .cons rfl ih2)
 have hm2:∀p,p∈pq q2↔p∈pq qs:=λp=>(p2.map (·.2)).mem_iff
 have hpa:=pairs_at I hv2 hp2 λp hpp=>hs p ((hm2 p).mp hpp)
 have hl2:q2.length < 64:=by rw[p2.length_eq];exact hl
 refine L2.ST.An (v:=.ref S) hpa ((p2.map (·.2)).nodup_iff.mpr nd) (by simpa using hl2) (λQ' hQ'=>L2.ST.vf (by simpa using hh) ho hd hex.1 T' hled (by simp;omega) λh' tk vs ev k=>?_) λh1 h' tk D out qs' c k1 eD k2 ho' hpq hm hr hmem'=>?_
 ·rw[ev,e2]
  rw[PD]
  exact hQ' h' tk k
 ·exact yD I hv2 hp2 (by simpa using hl2) (λl ws rs a1 a2 a3 a4=>q l ws rs a1 a2 a3 λp=>(a4 p).trans (hm2 p)) k1 eD k2 ho' hpq hm hr hmem'
end
def nS (cells:List (Str×Addr)):List (Str×NameKind)->List (Str×Addr)->List (Str×Addr)
 | [],cs=>cs
 | (n,k) :: r,cs=>nS cells r (if k == .free then (n,(cells.lookup n).getD 0) :: cs else cs)
def pR {scope:Scope}(h:∀y∈scope.names,y.2=.free->∃c,env.cells.lookup y.1=some c):closureFor scope env=pure (nS env.cells scope.names []):=by
 unfold closureFor
 have key:∀(l:List (Str×NameKind)) (cs:List (Str×Addr)),(∀y∈l,y.2=.free->∃c,env.cells.lookup y.1=some c)->
   (forIn l cs (λ(x:Str×NameKind) (r:List (Str×Addr))=>if (x.2 == NameKind.free)=true then (do let a <-cellOf env x.1;pure (ForInStep.yield ((x.1,a) :: r)):Sem _) else pure (ForInStep.yield r)):Sem (List (Str×Addr)))=pure (nS env.cells l cs):=by
  intro l
  induction l with
  |nil=>intro cs _;rfl
  |cons y l ih=>
   intro cs hy
   obtain⟨n,k⟩:=y
   rw[List.forIn_cons]
   unfold nS
   by_cases hk:(k == NameKind.free)=true
   ·have hk':k=.free:=by simpa using hk
    obtain⟨c,hc⟩:=hy (n,k) (NN ..) hk'
    have hce:cellOf env n=pure c:=by unfold cellOf;rw[hc]
    simp only[hk,OR]
    have hc':env.cells.lookup n=some c:=hc
    rw[hce,hc']
    simp only[pure_bind,Option.getD_some]
    exact ih _ λz hz=>hy z (NJ _ hz)
   ·simp only[hk,Ou,NZ]
    simp only[pure_bind]
    exact ih _ λz hz=>hy z (NJ _ hz)
 have:=key scope.names [] h
 simp only[bind_pure_comp] at this ⊢
 first
  |exact this
  | (rw[this];rfl)
  | (simpa using this)
theorem nY :∀{l:List (Str×NameKind)} {cs:List (Str×Addr)},((x,NameKind.free)∈l\/cs.lookup x=some ((cells.lookup x).getD 0))->(nS cells l cs).lookup x=some ((cells.lookup x).getD 0)
 | [],cs,h=>by
  rcases h with h |h
  ·cases h
  ·exact h
 | (n,k) :: r,cs,h=>by
  unfold nS
  refine nY ?_
  by_cases hk:(k == NameKind.free)=true
  ·rw[NG hk]
   by_cases hx:x=n
   ·subst hx;right;simp
   ·rcases h with h |h
    ·rcases NI.mp h with e |e
     ·injection e with e1 _;exact absurd e1 hx
     ·exact .inl e
    ·right
     rw[P4,show (x == n)=false by simpa using hx]
     exact h
  ·rw[NL hk]
   rcases h with h |h
   ·rcases NI.mp h with e |e
    ·injection e with _ e2;exact absurd (by rw[<-e2];rfl) hk
    ·exact .inl e
   ·exact .inr h
theorem nA :∀{l:List (Str×NameKind)} {cs:List (Str×Addr)},(nS cells l cs).lookup x=some c->((x,NameKind.free)∈l/\c=(cells.lookup x).getD 0)\/cs.lookup x=some c
 | [],cs,h=>.inr h
 | (n,k) :: r,cs,h=>by
  unfold nS at h
  rcases nA h with⟨a,b⟩ |a
  ·exact .inl ⟨NJ _ a,b⟩
  ·by_cases hk:(k == NameKind.free)=true
   ·rw[NG hk,P4] at a
    by_cases hx:x=n
    ·subst hx
     simp at a
     have:k=.free:=by simpa using hk
     subst this
     exact .inl ⟨NN ..,a.symm⟩
    ·rw[show (x == n)=false by simpa using hx] at a
     exact .inr a
   ·rw[NL hk] at a
    exact .inr a
theorem oo {f:Str->NameKind->NameKind}:∀(l:List (Str×NameKind)),(l.map λy=>(y.1,f y.1 y.2)).lookup x=(l.lookup x).map (f x)
 | []=>rfl
 | (n,k) :: l=>by
  rw[Oq,P4,P4]
  by_cases hx:x=n
  ·subst hx;simp
  ·have hb:(x == n)=false:=by simpa using hx
   simp only[hb]
   exact oo l
def p5 (scope:Scope)(env:Env)(x:Str):(relabel scope env).names.lookup x=(scope.names.lookup x).map λk=>if (k == .free && env.scope.kind == .function && env.kindOf x == some .cell) then .cell else k:=by
 have e:(relabel scope env).names=scope.names.map λy=>(y.1,if (y.2 == .free && env.scope.kind == .function && env.kindOf y.1 == some .cell) then .cell else y.2):=by
  unfold relabel
  dsimp only
  refine OG λy _=>?_
  obtain⟨n,k⟩:=y
  dsimp only
  split <;> rfl
 rw[e]
 exact oo (f:=λn k=>if (k == .free && env.scope.kind == .function && env.kindOf n == some .cell) then .cell else k) scope.names
def iS (X:Cx)(NB:List Str)(scope:Scope)(C:Addr)(ex:List Addr)(s3:Shared)(H3:Hp)(pn:List (Addr×Obj)):Cx:=
 {X with N:=NB,s₀:=s3,H₀:=H3,env:=compEnvC scope (nS X.env.cells scope.names []) C X.env,outer:=X.stack,ex:=ex,fn:=λ_=>false,pn:=pn,xe:=λ_ _=>False}
def bJ (own:Nat)(ixs:List Nat)(σ:St):St:=List.replicate own none ++ ixs.map λi=>(σ[i]?).join
structure cZ (X:Cx)(NB:List Str)(own:Nat)(ixs:List Nat)(scope:Scope):Prop where
 kind:scope.kind=.function
 nocell:∀y∈scope.names,y.2≠.cell
 names:∀y∈scope.names,scope.names.lookup y.1=some y.2
 frees:∀y∈scope.names,y.2=.free->X.env.kindOf y.1=some .cell\/X.env.kindOf y.1=some .free
 nd:NB.Nodup
 len:NB.length=own + ixs.length
 at':∀k,k < ixs.length->NB[own + k]? =X.N[ixs.getD k 0]?/\∀x,NB[own + k]? =some x->(x,NameKind.free)∈scope.names
section
variable {X:Cx}{NB:List Str}{own:Nat}{ixs:List Nat}{scope:Scope}{pins:List (Addr×Obj)}{σ:St}{H:Hp}{s:Shared}
def Ag (S:cZ X NB own ixs scope)(I:Inv X pins σ H s)(hfp:∀b∈fp,nI X pins H b)(hob:∀b∈fp,∃o,s.heap.get? b=some o){h1:Heap}{tk:Nat}
  (hn:h1.Ns s.heap.objs.size (λ_=>none)) (hk:∀b o,s.heap.get? b=some o->h1.get? b=some o) :
  Inv (iS X NB scope s.heap.objs.size fp s H (X.pn ++ pins)) [] (bJ own ixs σ) H {s with heap:=h1,toks:=tk}:=by
 have stk:=I.stack
 have frees:∀{x:Str},(x,NameKind.free)∈scope.names->∃c,X.env.cells.lookup x=some c:=λ{x} hx=>I.ok.has x (S.frees _ hx rfl)
 have clE:∀{x:Str} {c:Addr},(nS X.env.cells scope.names []).lookup x=some c->(x,NameKind.free)∈scope.names/\X.env.cells.lookup x=some c:=λ{x c} h=>by
  rcases nA h with⟨a,b⟩ |a
  ·obtain⟨c',e⟩:=frees a
   rw[e] at b
   exact⟨a,by rw[e,b];rfl⟩
  ·simp at a
 have kindB:∀x,(iS X NB scope s.heap.objs.size fp s H (X.pn ++ pins)).env.kindOf x=(scope.names.lookup x).map λk=>if (k == .free && X.env.scope.kind == .function && X.env.kindOf x == some .cell) then .cell else k:=λx=>p5 scope X.env x
 have isFree:∀{x:Str},((iS X NB scope s.heap.objs.size fp s H (X.pn ++ pins)).env.kindOf x=some .cell\/(iS X NB scope s.heap.objs.size fp s H (X.pn ++ pins)).env.kindOf x=some .free)->(x,NameKind.free)∈scope.names:=λ{x} h=>by
  rw[kindB] at h
  cases e:scope.names.lookup x with
  |none=>rw[e] at h;simp at h
  |some k=>
   have hm:=Px e
   cases k with
   |free=>exact hm
   |cell=>exact absurd rfl (S.nocell _ hm)
   |_=>rw[e] at h;simp at h
 have neN:∀b o,s.heap.get? b=some o->b≠s.heap.objs.size:=λb o e=>Of (NO e)
 have cellN:∀{x:Str} {c:Addr},X.env.cells.lookup x=some c->c < s.heap.objs.size:=λ{x c} e=>by
  obtain⟨v,o,ho,_⟩:=I.cell x c e
  exact NO ho
 have ok:(iS X NB scope s.heap.objs.size fp s H (X.pn ++ pins)).Ok:=by
  refine⟨I.ok.mod,S.kind,I.ok.glob,I.ok.blt,NH _,λx y c h1 h2=>I.ok.inj x y c (clE h1).2 (clE h2).2,λx hx=>?_,λx c h=>(by cases h),I.ok.hd,I.ok.frames,.inl rfl,λb hb=>?_,I.bs,OT I.ok.bsz I.sz,λb o e hb=>?_,λb hb hs=>?_,stk,I.stkFree⟩
  ·have hm:=isFree hx
   exact⟨_,nY (.inl hm)⟩
  ·obtain⟨_,f1,f2,f3,f4,f5⟩:=hfp b hb
   refine⟨?_,λx c h z=>f4 x c (clE h).2 z⟩
   obtain⟨o,ho⟩:=hob b hb
   exact neN b o ho
  ·obtain⟨_,f1,f2,f3,f4,f5⟩:=hfp b hb
   rcases f3 with f3 |f3
   ·exact I.ok.noex b o e f3
   ·exact absurd (N5 (NO e) (OT I.ok.bsz f3)) (Om _)
  ·obtain⟨_,f1,f2,f3,f4,f5⟩:=hfp b hb
   rcases NI.mp (I.stkSub b hs) with z |z
   ·exact f1 z
   ·exact f2 z
 refine⟨ok,rfl,I.bare,Un.kept hk,⟨_,hn,λi x v h1' h2' h3'=>?_⟩,λx c h=>?_,I.hok.fresh (NH _),λx c h=>I.freeC x c (clE h).2,λp hp=>?_,I.hok.kept hk,?_⟩
 ·
  have h1':NB[i]? =some x:=h1'
  have hown:own<=i:=by
   refine Classical.byContradiction λhc=>?_
   have hlt:i < own:=Nat.lt_of_not_le hc
   unfold bJ at h2'
   rw[Ow (by simpa using hlt),O6,NG hlt] at h2'
   cases h2'
  obtain⟨k,rfl⟩:∃k,i=own + k:=⟨i - own,by omega⟩
  have hk':k < ixs.length:=by
   have:=(NV.mp h1').1
   rw[S.len] at this;omega
  obtain⟨e1,e2⟩:=S.at' k hk'
  have hm:=e2 x h1'
  unfold bJ at h2'
  rw[Oj (by simp),Pe,Nat.add_sub_cancel_left,NP,NC hk'] at h2'
  simp only[Option.map_some,Option.some.injEq] at h2'
  have hix:ixs.getD k 0=ixs[k]:=by simp[hk']
  have hσ:σ[ixs[k]]? =some (some v):=by
   cases e:σ[ixs[k]]? with
   |none=>rw[e] at h2';cases h2'
   |some o=>rw[e] at h2';simp at h2';rw[h2']
  rw[e1,hix] at h1'
  have hkind:=S.frees _ hm rfl
  have hvis:xm X.env.scope x:=hkind.elim (λz=>.inr (.inl z)) (λz=>.inr (.inr z))
  obtain⟨m,hm',hl⟩:=I.loc
  obtain⟨u,r,look⟩:=hl _ x v h1' hσ hvis
  refine⟨u,r,.inr ⟨?_,?_⟩⟩
  ·rw[kindB]
   have hfr:scope.names.lookup x=some .free:=S.names _ hm
   rw[hfr]
   simp only[Option.map_some]
   split
   ·exact .inl rfl
   ·exact .inr rfl
  ·rcases look with⟨z,_⟩ | ⟨_,c,hc,hcell⟩
   ·rcases hkind with q |q
    ·rw[q] at z;cases z
    ·rw[q] at z;cases z
   ·refine⟨c,?_,?_⟩
    ·have:=nY (cells:=X.env.cells) (cs:=[]) (.inl hm)
     rw[hc] at this
     exact this
    ·obtain⟨o,ho,hd⟩:=hcell
     exact⟨o,hk _ _ ho,hd⟩
 ·obtain⟨v,o,ho,hd⟩:=I.cell x c (clE h).2
  exact⟨v,o,hk _ _ ho,hd⟩
 ·have hp':p∈X.pn ++ pins:=by
   rcases N7.mp hp with z |z
   ·exact z
   ·cases z
  obtain⟨e,n,ne,nf,d⟩:=I.pin p hp'
  refine⟨hk _ _ e,n,neN _ _ e,λz=>?_,d⟩
  rcases NI.mp (I.stkSub _ z) with q |q
  ·exact ne q
  ·exact nf q
 ·show (bJ own ixs σ).length=NB.length
  unfold bJ
  rw[S.len];simp
end
abbrev zt (ifs:List Expr)(env:Env):Sem Bool:=forIn ifs true λc r=>if r=true then do let ok <-isTrue c env (eval c env);pure (ForInStep.yield ok) else pure (ForInStep.yield r)
theorem Bs {prog:Program}{w:World}{A:Around}{R:Result->Shared->Prop}{s:Shared}{elt target iter:Expr}{ifs:List Expr}{scope:Scope}{pos:Pos}{it acc:Value}{env:Env}(I:Nat->Shared->Prop)
  (turn:∀n s,I n s->wpAny (model prog w) A (pyNext it) (λr s1=>match r with
   |none=>R (.ok .next) s1
   |some v=>wpAny (model prog w) A (letOwnedTupleGo target it v) (λ_ s1'=>wpAny (model prog w) A (assign target env v) (λ_ s2=>
     wpAny (model prog w) A (zt ifs env) (λok s3=>
      if ok=true then wpAny (model prog w) A (eval elt env) (λx s4=>wpAny (model prog w) A (call (.builtin "list.append") [acc,x]) (λ_ s5=>∃m,m < n/\I m s5) (λ_ _=>False) s4) (λ_ _=>False) s3
      else ∃m,m < n/\I m s3) (λ_ _=>False) s2) (λ_ _=>False) s1') (λ_ _=>False) s1) (λ_ _=>False) s)
  (n:Nat) (h:I n s):codeAny (model prog w) A (.compLoop (.ListComp elt [⟨target,iter,ifs,0⟩] scope pos) 0 it acc env) R s:=by
 refine codeAny_loop rfl I (λn s hI=>?_) n h
 (show wpAny _ A ((compTurn (.ListComp elt [⟨target,iter,ifs,0⟩] scope pos) 0 it acc env).onRaise (λx=>do (noteFrame x env);theTreesLotGoes x)) _ _ s)
 refine wpAny_noted ?_
 rw[compTurn_list]
 refine NA (wpAny_standAt (NA (OX (turn n s hI) (λr s1 h1=>?_) λ_ _ z=>z.elim)))
 cases r with
 |none=>exact NF h1
 |some v=>
  refine NA (OX h1 (λ_ s1' h1'=>?_) λ_ _ z=>z.elim)
  refine NA (OX h1' (λ_ s2 h2=>NA (OX h2 (λok s3 h3=>?_) λ_ _ z=>z.elim)) λ_ _ z=>z.elim)
  cases ok with
  |false=>exact NF ⟨rfl,h3⟩
  |true=>exact NA (NA (OX h3 (λx s4 h4=>NA (OX h4 (λ_ s5 h5=>NF (NF ⟨rfl,h5⟩)) λ_ _ z=>z.elim)) λ_ _ z=>z.elim))
def CK (X:Cx)(ifs:List Expr)(t:TT):Prop:=
 ∀(pins:List (Addr×Obj)) (s:Shared) (σ:St) (H:Hp) (Q:Bool->Hp->Prop),Inv X pins σ H s->t σ H Q->wpAny (model X.prog X.w) X.A (zt ifs X.env) (TP X pins σ Q) X.xe s
def Ht:TT:=λ_ H Q=>Q true H
def tY {X:Cx}:CK X [] Ht:=λpins s σ H Q I h=>NF ⟨H,I,h⟩
def yY {X:Cx}(h:PT X c t):CK X [c] t:=λpins s σ H Q I q=>wpAny_tests_one (h pins s σ H Q I q)
def xk (own:Nat)(ixs:List Nat)(wi:TI)(g:TG)(tt:TT)(te:TE)(σ:St)(H:Hp)(Q:VK):Prop:=wi σ H λJ H1=>∀D,H1 D=none->∃W:Nat->Nat->St->Hp->Prop,(∃m,W 0 m (bJ own ixs σ) (upd H1 D (.lst [])))/\∀i m σ' H',W i m σ' H'->
 (J.stop i H'/\(∃acc,H' D=some (.lst acc))/\Q (.ref D) H')\/
 (J.go i H'/\∃N:St->Hp->Prop,(∀σ2 H2,N σ2 H2->∃m',m' < m/\W (i + 1) m' σ2 H2)/\∀x H2,J.yld i H' x H2->g x σ' H2 λσ3 H3=>tt σ3 H3 λb H4=>
  if b=true then te σ3 H4 λv H5=>∃acc,H5 D=some (.lst acc)/\acc.length < sizeLine/\N σ3 (upd H5 D (.lst (acc ++ [v]))) else N σ3 H4)
section
variable {X:Cx}{NB:List Str}{own:Nat}{ixs:List Nat}{scope:Scope}{elt tg iter:Expr}{ifs:List Expr}{pos:Pos}{wi:TI}{g:TG}{tt:TT}{te:TE}
def sF (hc:X.calm=true)(S:cZ X NB own ixs scope)
  (hg:∀C ex s3 H3 pn,PG (iS X NB scope C ex s3 H3 pn) tg g) (ht:∀C ex s3 H3 pn,CK (iS X NB scope C ex s3 H3 pn) ifs tt) (he:∀C ex s3 H3 pn,PE (iS X NB scope C ex s3 H3 pn) elt te)
  {pins:List (Addr×Obj)} {σ:St} {H1:Hp} {s2:Shared} {it:Addr} {fp:List Addr} {tn:Nat->Heap->Prop} {J:It} {Q:VK} (I2:Inv X pins σ H1 s2) (T:Turn X.prog X.w X.K tg J fp it tn) (st2:tn 0 s2.heap) (f2:∀b∈fp,nI X pins H1 b)
  (hQ:∀D,H1 D=none->∃W:Nat->Nat->St->Hp->Prop,(∃m,W 0 m (bJ own ixs σ) (upd H1 D (.lst [])))/\∀i m σ' H',W i m σ' H'->
   (J.stop i H'/\(∃acc,H' D=some (.lst acc))/\Q (.ref D) H')\/
   (J.go i H'/\∃N:St->Hp->Prop,(∀σ2 H2,N σ2 H2->∃m',m' < m/\W (i + 1) m' σ2 H2)/\∀x H2,J.yld i H' x H2->g x σ' H2 λσ3 H3=>tt σ3 H3 λb H4=>
    if b=true then te σ3 H4 λv H5=>∃acc,H5 D=some (.lst acc)/\acc.length < sizeLine/\N σ3 (upd H5 D (.lst (acc ++ [v]))) else N σ3 H4))
  {E:Value->Shared->Prop} {RR:Value->Addr->Result->Shared->Prop}
  (fin:∀D C H' s' m,Inv X pins σ H' s'->Q (.ref D) H'->s'.heap.Ns C m->H' C=none->C≠X.env.locals->(∀x c,X.env.cells.lookup x=some c->c≠C)->X.s₀.heap.objs.size<=C->(∀p∈X.pn ++ pins,p.1≠C)->RR (.ref D) C (.ok .next) s') :
  wpAny (model X.prog X.w) X.A (newList []) (λacc s3=>wpAny (model X.prog X.w) X.A (newFunctionEnv scope X.env.globals (nS X.env.cells scope.names []) [] X.env.qual none .none (some X.env)) (λcenv s4=>
   codeAny (model X.prog X.w) X.A (.compStart (.ListComp elt [⟨tg,iter,ifs,0⟩] scope pos) 0 (.ref it) acc {cenv with scope:=relabel scope X.env}) (RR acc cenv.locals) s4) E s3) E s2:=by
 refine wpAny_newList ?_ (Oh _)
 have hD:H1 s2.heap.objs.size=none:=I2.hok.fresh (NH _)
 obtain⟨W,⟨m0,w0⟩,turn⟩:=hQ s2.heap.objs.size hD
 generalize hs3:({s2 with heap:=s2.heap.push (seqObj "list" ([]:List Value).toArray 0)}:Shared)=s3
 have I3:Inv X pins σ (upd H1 s2.heap.objs.size (.lst [])) s3:=by
  rw[<-hs3]
  exact I2.lnew (ys:=[]) (its:=[]) (t':=s2.toks) .nil (Oh _)
 have k3:∀b o,s2.heap.get? b=some o->s3.heap.get? b=some o:=λb o e=>by rw[<-hs3];exact ND _ e
 have sz3:s3.heap.objs.size=s2.heap.objs.size + 1:=by rw[<-hs3];exact O4 ..
 have ob2:∀b∈fp,∃o,s2.heap.get? b=some o:=λb hb=>let ⟨o,e,_⟩:=T.obj 0 _ st2 b hb;⟨o,e⟩
 have neD:∀b∈fp,b≠s2.heap.objs.size:=λb hb=>let ⟨o,e⟩:=ob2 b hb;Of (NO e)
 have f3:∀b∈fp,nI X pins (upd H1 s2.heap.objs.size (.lst [])) b:=λb hb=>by
  obtain⟨a1,a2⟩:=f2 b hb
  exact⟨by rw[aB (neD b hb)];exact a1,a2⟩
 have st3:tn 0 s3.heap:=T.keep _ _ _ st2 λb _ o e=>k3 b o e
 refine wpAny_newFunctionEnv S.nocell (λy hy=>by simp at hy) (λh4 hn4 sb4=>?_) S.kind
 have k4:∀b o,s3.heap.get? b=some o->h4.get? b=some o:=λb o e=>sb4.extBut b o (Of (NO e)) (ND _ e)
 have I4:Inv (iS X NB scope s3.heap.objs.size fp s3 (upd H1 s2.heap.objs.size (.lst [])) (X.pn ++ pins)) [] (bJ own ixs σ) (upd H1 s2.heap.objs.size (.lst [])) {s3 with heap:=h4,toks:=s3.toks + ([]:List (Str×Value)).length}:=
  Ag S I3 f3 (λb hb=>let ⟨o,e⟩:=ob2 b hb;⟨o,k3 _ _ e⟩) (by simpa using hn4) k4
 have st4:tn 0 h4:=T.keep _ _ _ st3 λb _ o e=>k4 b o e
 generalize hB:iS X NB scope s3.heap.objs.size fp s3 (upd H1 s2.heap.objs.size (.lst [])) (X.pn ++ pins)=B at I4
 have hgB:PG B tg g:=by rw[<-hB];exact hg _ _ _ _ _
 have htB:CK B ifs tt:=by rw[<-hB];exact ht _ _ _ _ _
 have heB:PE B elt te:=by rw[<-hB];exact he _ _ _ _ _
 have eP:B.prog=X.prog:=by rw[<-hB];rfl
 have eW:B.w=X.w:=by rw[<-hB];rfl
 have eK:B.K=X.K:=by rw[<-hB];rfl
 have eA:B.A=X.A:=by rw[<-hB];rfl
 have eC:B.calm=true:=by rw[<-hB];exact hc
 have eX:B.xe=λ_ _=>False:=by rw[<-hB];rfl
 have eE:B.env=compEnvC scope (nS X.env.cells scope.names []) s3.heap.objs.size X.env:=by rw[<-hB];rfl
 have ex:B.ex=fp:=by rw[<-hB];rfl
 have eL:B.env.locals=s3.heap.objs.size:=by rw[eE];rfl
 have stat:∀{H':Hp},(∀b∈fp,H' b=none)->∀b∈fp,nI B [] H' b:=λ{H'} hn b hb=>by
  obtain⟨a1,a2,a3,a4,a5,a6⟩:=f3 b hb
  obtain⟨o,eo⟩:=ob2 b hb
  refine⟨hn b hb,?_,λz=>?_,.inl (by rw[ex];exact hb),λx c e z=>?_,λp hp z=>?_⟩
  ·rw[eL];exact Of (NO (k3 _ _ eo))
  ·have hz:b∈eO X.stack:=by rw[<-hB] at z;exact z
   rcases NI.mp (I3.stkSub b hz) with q |q
   ·exact a2 q
   ·exact a3 q
  ·rw[eE] at e
   rcases nA e with⟨m1,m2⟩ |m1
   ·obtain⟨c',e'⟩:=I3.ok.has x (S.frees _ m1 rfl)
    rw[e'] at m2
    exact a5 x c' e' (by rw[<-z,m2];rfl)
   ·simp at m1
  ·have hp':p∈X.pn ++ pins:=by
    rw[<-hB] at hp
    rcases N7.mp hp with q |q
    ·exact q
    ·cases q
   exact a6 p hp' z
 have back:∀{σ':St} {H':Hp} {s':Shared},Inv B [] σ' H' s'->Inv X pins σ H' s':=λ{σ' H' s'} J'=>by
  have u:=J'.base
  have os:=J'.os
  have bare:=J'.bare
  have hok:=J'.hok
  subst hB
  exact I3.call' (ch:=fp) os u hok bare λb hb=>by
   obtain⟨a1,a2,a3,a4,a5,a6⟩:=f3 b hb
   exact⟨a4,a2,a5,a6⟩
 have loop:∀s5:Shared,s5={s3 with heap:=h4,toks:=s3.toks + ([]:List (Str×Value)).length}->
   codeAny (model X.prog X.w) X.A (.compLoop (.ListComp elt [⟨tg,iter,ifs,0⟩] scope pos) 0 (.ref it) (.ref s2.heap.objs.size) (compEnvC scope (nS X.env.cells scope.names []) s3.heap.objs.size X.env)) (RR (.ref s2.heap.objs.size) s3.heap.objs.size) s5:=by
  rintro s5 rfl
  refine Bs (λn s'=>∃i σ' H',Inv B [] σ' H' s'/\tn i s'.heap/\(∀b∈fp,H' b=none)/\W i n σ' H') ?_ m0 ⟨0,_,_,I4,st4,λb hb=>(f3 b hb).1,w0⟩
  rintro n s6 ⟨i,σ6,H6,I6,st6,fr6,w6⟩
  rcases turn i n σ6 H6 w6 with⟨stop,⟨acc,hacc⟩,qn⟩ | ⟨go,N,hN,step⟩
  ·have:=T.done B eP eW eK eC i [] s6 σ6 H6 (λ_ _=>False) I6 (stat fr6) st6 stop
   rw[eA] at this
   refine cx this λr s7 ⟨hr,I7⟩=>?_
   subst hr
   obtain⟨m7,hn7,_⟩:=I7.loc
   rw[eL] at hn7
   have J7:=back I7
   refine fin _ _ H6 s7 m7 J7 qn hn7 (by rw[<-eL];exact I7.free) (λz=>?_) (λx c e z=>?_) ?_ λp hp z=>?_
   ·have:=I3.lt
    rw[<-z] at this
    exact Om _ this
   ·obtain⟨v,o,ho,_⟩:=I3.cell x c e
    exact absurd (NO ho) (by rw[z];exact Om _)
   ·exact I3.sz
   ·have:=NO (I3.pin p hp).1
    rw[z] at this
    exact Om _ this
  ·have hitem:=T.item B eP eW eK eC i [] s6 σ6 H6 (λ_ _=>False) I6 (stat fr6) st6 go
   rw[eA] at hitem
   refine cx hitem λr s7 ⟨u,hr,h7⟩=>?_
   subst hr
   refine cx h7 λ_ s8 ⟨x,H8,I8,r8,y8,st8,fr8⟩=>?_
   have I8':=I8.pinned (stat fr8) (T.obj _ _ st8)
   have ha:=hgB _ s8 σ6 H8 x u _ I8' r8 (step x H8 y8)
   rw[eP,eW,eA,eE,eX] at ha
   refine cx ha λ_ s9 ⟨σ9,H9,I9,q9⟩=>?_
   have hb:=htB _ s9 σ9 H9 _ I9 q9
   rw[eP,eW,eA,eE,eX] at hb
   refine cx hb λok s10 ⟨H10,I10,q10⟩=>?_
   have again:∀{σ7:St} {H7:Hp} {s7:Shared},Inv B ([] ++ pX fp s8.heap) σ7 H7 s7->N σ7 H7->∃m,m < n/\∃i σ' H',Inv B [] σ' H' s7/\tn i s7.heap/\(∀b∈fp,H' b=none)/\W i m σ' H':=λ{σ7 H7 s7} I7 n7=>by
    obtain⟨m',hm,w7⟩:=hN σ7 H7 n7
    refine⟨m',hm,i + 1,σ7,H7,I7.unpinned,T.keep _ _ _ st8 λb hb o e=>(I7.pin (b,o) (Oo _ (Oo _ (jF hb e)))).1,λb hb=>?_,w7⟩
    obtain⟨o,e,d⟩:=T.obj _ _ st8 b hb
    exact (I7.pin (b,o) (Oo _ (Oo _ (jF hb e)))).2.1
   cases ok with
   |false=>
    simp only[NZ,Ou] at q10 ⊢
    exact again I10 q10
   |true=>
    simp only[OR] at q10 ⊢
    have hv:=heB _ s10 σ9 H10 _ I10 q10
    rw[eP,eW,eA,eE,eX] at hv
    refine cx hv λy s11 ⟨v,H11,I11,r11,acc,hacc,hz,q11⟩=>?_
    have hap:=og (X:=B) _ s11 σ9 H11 (.ref s2.heap.objs.size) [v] (.ref s2.heap.objs.size) [y] (λz H'=>z=.non/\N σ9 H') I11 rfl (.cons r11 .nil) ⟨_,acc,v,rfl,rfl,hacc,hz,rfl,q11⟩
    rw[eP,eW,eA,eX] at hap
    exact cx hap λ_ s12 ⟨_,H12,I12,_,_,q12⟩=>again I12 q12
 exact codeAny_compStart_list (loop _ rfl) (T.self X.A 0 _ _ _ st4 (loop _ rfl))
def wX (hc:X.calm=true)(S:cZ X NB own ixs scope)(hi:PI X tg iter wi)
  (hg:∀C ex s3 H3 pn,PG (iS X NB scope C ex s3 H3 pn) tg g) (ht:∀C ex s3 H3 pn,CK (iS X NB scope C ex s3 H3 pn) ifs tt) (he:∀C ex s3 H3 pn,PE (iS X NB scope C ex s3 H3 pn) elt te)
  (hs:∀x,foldedSetIterable iter X.env x=pure x:=by intro _;rfl) :
  PE X (.ListComp elt [⟨tg,iter,ifs,0⟩] scope pos) (xk own ixs wi g tt te):=by
 intro pins s σ H Q I h
 rw[eval_ListComp]
 refine wpAny_comprehension_free (use:=none) rfl hs (pR λy hy e=>I.ok.has _ (S.frees y hy e)) S.kind (λy hy e=>by rw[S.names y hy,e]) ?_
 refine cx (hi pins s σ H _ I h) λv s1 h1=>cx h1 λitv s2 h2=>?_
 obtain⟨it,fp,tn,J,H2,e,I2,T,st2,f2,q2⟩:=h2
 subst e
 refine sF hc S hg ht he I2 T st2 f2 q2 (RR:=λacc C=>compPost (model X.prog X.w) X.A X.xe none (EP X pins σ Q) acc C) λD C H' s' m J' q hn hC n1 n2 n3 n4=>?_
 refine⟨m,hn,λh'' sb=>⟨.ref D,H',?_,rfl,q⟩⟩
 exact J'.turned (t':=s'.toks) (it:=C) (λb o hb e=>sb.extBut b o hb e) hC n1 (.inr n3) n2 n4
def B5 {i:Nat}{y:Str}{py spos:Pos}(hc:X.calm=true)(S:cZ X NB own ixs scope)(hi:PI X tg iter wi)
  (hg:∀C ex s3 H3 pn,PG (iS X NB scope C ex s3 H3 pn) tg g) (ht:∀C ex s3 H3 pn,CK (iS X NB scope C ex s3 H3 pn) ifs tt) (he:∀C ex s3 H3 pn,PE (iS X NB scope C ex s3 H3 pn) elt te)
  (hN:X.N.Nodup) (hy:X.N[i]? =some y) (hl:X.env.scope.names.lookup y=some .local)
  (hsw:swapsWith (.ListComp elt [⟨tg,iter,ifs,0⟩] scope pos) (some (.Name y py)) spos.line X.env=pure true)
  (hs:∀x,foldedSetIterable iter X.env x=pure x:=by intro _;rfl) :
  PS X (.Assign [.Name y py] (.ListComp elt [⟨tg,iter,ifs,0⟩] scope pos) spos) (λD σ H=>xk own ixs wi g tt te σ H λv H'=>D.nx (σ.set i (some v)) H'):=by
 intro pins s σ H D I h
 rw[exec_Assign_Name_used _ _ _ _ hsw]
 refine NA (wpAny_standAt (NA ?_))
 show wpAny _ X.A (comprehension (.ListComp elt [⟨tg,iter,ifs,0⟩] scope pos) scope X.env _ (newList []) false (eval iter X.env) (some (assign (.Name y py) X.env)) >>= λ_=>pure ()) _ _ s
 refine NA (OX (wpAny_comprehension_free (use:=some (assign (.Name y py) X.env)) (Q:=λ_ s'=>SP X pins D .next s') rfl hs (pR λy hy e=>I.ok.has _ (S.frees y hy e)) S.kind (λy hy e=>by rw[S.names y hy,e]) ?_)
  (λ_ s' hq=>NF (NF hq)) λ_ _ e=>e)
 refine cx (hi pins s σ H _ I h) λv s1 h1=>cx h1 λitv s2 h2=>?_
 obtain⟨it,fp,tn,J,H2,e,I2,T,st2,f2,q2⟩:=h2
 subst e
 refine sF hc S hg ht he I2 T st2 f2 q2 (Q:=λv H'=>D.nx (σ.set i (some v)) H') (RR:=λacc C=>compPost (model X.prog X.w) X.A X.xe (some (assign (.Name y py) X.env)) (λ_ s'=>SP X pins D .next s') acc C) λD' C H' s' m J' q hn hC n1 n2 n3 n4=>?_
 show wpAny _ X.A (assign (.Name y py) X.env (.ref D')) _ _ s'
 refine wpAny_assign_Name (so J' hN hy (.inl hl) (v:=.ref D') rfl (λs'' I'' ⟨a,sb,ha⟩=>?_) (.inr hl))
 have hCa:C≠a:=by
  rcases ha with z |z
  ·rw[z];exact n1
  ·exact (n2 _ _ z).symm
 refine⟨m,hn.sameBut sb hCa,λh3 sb3=>⟨_,H',?_,q⟩⟩
 exact I''.turned (t':=s''.toks) (it:=C) (λb o hb e=>sb3.extBut b o hb e) hC n1 (.inr n3) n2 n4
end
section
variable {own:Nat}{ixs:List Nat}{g:TG}{tt:TT}{te:TE}{σ:St}{H:Hp}{Q:VK}{K:Frag}{D a:Addr}{xs:List V}
abbrev eT (g:TG)(tt:TT)(te:TE)(D:Addr)(x:V)(σ:St)(H:Hp)(N:St->Hp->Prop):Prop:=g x σ H λσ3 H3=>tt σ3 H3 λb H4=>
  if b=true then te σ3 H4 λv H5=>∃acc,H5 D=some (.lst acc)/\acc.length < sizeLine/\N σ3 (upd H5 D (.lst (acc ++ [v]))) else N σ3 H4
def A8 (Pv:Nat->St->Hp->Prop)(h0:Pv 0 (bJ own ixs σ) (upd H D (.lst [])))(hl:∀i σ H,i<=xs.length->Pv i σ H->fj K H a xs)
  (hs:∀i x σ H,xs[i]? =some x->Pv i σ H->eT g tt te D x σ H (Pv (i + 1))) (hd:∀σ H,Pv xs.length σ H->(∃acc,H D=some (.lst acc))/\Q (.ref D) H) :
  ∃W:Nat->Nat->St->Hp->Prop,(∃m,W 0 m (bJ own ixs σ) (upd H D (.lst [])))/\∀i m σ' H',W i m σ' H'->
   ((A2 K a).stop i H'/\(∃acc,H' D=some (.lst acc))/\Q (.ref D) H')\/
   ((A2 K a).go i H'/\∃N:St->Hp->Prop,(∀σ2 H2,N σ2 H2->∃m',m' < m/\W (i + 1) m' σ2 H2)/\∀x H2,(A2 K a).yld i H' x H2->eT g tt te D x σ' H2 N):=by
 refine⟨λi m σ H=>m=xs.length - i/\i<=xs.length/\Pv i σ H,⟨xs.length,by simp,Oh _,h0⟩,?_⟩
 rintro i m σ H ⟨rfl,hi,p⟩
 have q:=hl i σ H hi p
 by_cases hlt:i < xs.length
 ·refine .inr ⟨⟨xs,xs[i],q,by simp[hlt]⟩,Pv (i + 1),λσ' H' p'=>⟨xs.length - (i + 1),by omega,rfl,hlt,p'⟩,λx H' y=>?_⟩
  obtain⟨e,y⟩:=y
  subst e
  exact hs i x σ _ (y xs q) p
 ·have e:i=xs.length:=by omega
  subst e
  exact .inl ⟨⟨xs,q,NH _⟩,hd σ H p⟩
def yK {lo:Int}{n:Nat}(Pv:Nat->St->Hp->Prop)(h0:Pv 0 (bJ own ixs σ) (upd H D (.lst [])))
  (hs:∀i σ H,i < n->Pv i σ H->eT g tt te D (.int (lo + i)) σ H (Pv (i + 1))) (hd:∀σ H,Pv n σ H->(∃acc,H D=some (.lst acc))/\Q (.ref D) H) :
  ∃W:Nat->Nat->St->Hp->Prop,(∃m,W 0 m (bJ own ixs σ) (upd H D (.lst [])))/\∀i m σ' H',W i m σ' H'->
   ((BC lo n).stop i H'/\(∃acc,H' D=some (.lst acc))/\Q (.ref D) H')\/
   ((BC lo n).go i H'/\∃N:St->Hp->Prop,(∀σ2 H2,N σ2 H2->∃m',m' < m/\W (i + 1) m' σ2 H2)/\∀x H2,(BC lo n).yld i H' x H2->eT g tt te D x σ' H2 N):=by
 refine⟨λi m σ H=>m=n - i/\i<=n/\Pv i σ H,⟨n,by simp,Oh _,h0⟩,?_⟩
 rintro i m σ H ⟨rfl,hi,p⟩
 by_cases hlt:i < n
 ·refine .inr ⟨hlt,Pv (i + 1),λσ' H' p'=>⟨n - (i + 1),by omega,rfl,hlt,p'⟩,λx H' y=>?_⟩
  obtain⟨e,y⟩:=y
  subst e y
  exact hs i σ _ hlt p
 ·have e:i=n:=by omega
  subst e
  exact .inl ⟨NH _,hd σ H p⟩
end
mutual
inductive Rep (K:Frag)(H:Hp):V->PyData->Prop
 |non:Rep K H .non .none
 |bl (b:Bool):Rep K H (.bl b) (.bool b)
 |int (i:Int):Rep K H (.int i) (.int i)
 |str (x:Str):Rep K H (.str x) (.str x)
 |tup {a:Addr} {xs:List V} {ds:List PyData}:dU K H a xs->kG K H xs ds->Rep K H (.ref a) (.tuple ds)
 |lst {a:Addr} {xs:List V} {ds:List PyData}:fj K H a xs->kG K H xs ds->Rep K H (.ref a) (.list ds)
inductive kG (K:Frag)(H:Hp):List V->List PyData->Prop
 |nil:kG K H [] []
 |cons {x:V} {xs:List V} {d:PyData} {ds:List PyData}:Rep K H x d->kG K H xs ds->kG K H (x :: xs) (d :: ds)
end
section
variable {X:Cx}{pins:List (Addr×Obj)}{σ:St}{H H':Hp}{s:Shared}
mutual
theorem Rep.reads (I:Inv X pins σ H s):∀{x:V} {d:PyData} {u:Value},Rep X.K H x d->RelV x u->∃as,Reads s.heap u d as
 |_,_,_,.non,r=>by cases r;exact⟨_,.none⟩
 |_,_,_,.bl b,r=>by cases r;exact⟨_,.bool b⟩
 |_,_,_,.int i,r=>by obtain⟨t,rfl⟩:=r;exact⟨_,.int i t⟩
 |_,_,_,.str x,r=>by obtain⟨t,rfl⟩:=r;exact⟨_,.str x t⟩
 |_,_,_,.tup h hs,r=>by
  cases r
  obtain⟨its,rv,⟨o,ho,hc,n,hd⟩,_⟩:=I.tuple h
  obtain⟨as,q⟩:=kG.reads I hs rv
  exact⟨_,.tuple ho hc hd (by simpa using q)⟩
 |_,_,_,.lst h hs,r=>by
  cases r
  obtain⟨its,rv,pl,_⟩:=I.list h
  obtain⟨o,ho,hc,n,hd⟩:=pl.isList
  obtain⟨as,q⟩:=kG.reads I hs rv
  exact⟨_,.list ho hc hd (by simpa using q)⟩
theorem kG.reads (I:Inv X pins σ H s):∀{xs:List V} {ds:List PyData} {us:List Value},kG X.K H xs ds->Vals xs us->∃as,ReadsAll s.heap us ds as
 |_,_,_,.nil,r=>by cases r;exact⟨_,.nil⟩
 |_,_,_,.cons h hs,r=>by
  cases r with
  |cons r1 r2=>
   obtain⟨as,q⟩:=Rep.reads I h r1
   obtain⟨bs,q'⟩:=kG.reads I hs r2
   exact⟨_,.cons q q'⟩
end
def Hs (K:Frag)(neg:Bool):R2:=λx y H Q=>∃d e,Rep K H x d/\Rep K H y e/\SeqAt.shaped d=true/\SeqAt.shaped e=true/\Q (.bl (if neg then !PyData.eqv d e else PyData.eqv d e)) H
def gA (hu:X.A.units + 64 < cLine):kg X (compareOp .Eq) (Hs X.K false):=by
 intro pins s σ H x y v u Q I rx ry h
 obtain⟨d,e,h1,h2,s1,s2,q⟩:=h
 obtain⟨as,r1⟩:=h1.reads I rx
 obtain⟨bs,r2⟩:=h2.reads I ry
 exact SeqAt.compareEq_shaped r1 r2 s1 s2 hu ⟨.bl _,H,I,rfl,q⟩
def iw (hu:X.A.units + 64 < cLine):kg X (compareOp .NotEq) (Hs X.K true):=by
 intro pins s σ H x y v u Q I rx ry h
 obtain⟨d,e,h1,h2,s1,s2,q⟩:=h
 obtain⟨as,r1⟩:=h1.reads I rx
 obtain⟨bs,r2⟩:=h2.reads I ry
 exact SeqAt.compareNe_shaped r1 r2 s1 s2 hu ⟨.bl _,H,I,rfl,q⟩
def KJ (K:Frag)(neg:Bool):R2:=λx y H Q=>∃p xs d ds,y=.ref p/\(fj K H p xs\/dU K H p xs)/\kG K H xs ds/\Rep K H x d/\SeqAt.shaped d=true/\(∀e,e∈ds->SeqAt.shaped e=true)/\
 Q (.bl (if neg then !(ds.any λe=>PyData.eqv e d) else ds.any λe=>PyData.eqv e d)) H
theorem kG.at' {K:Frag}:∀{xs:List V} {ds:List PyData} {i:Nat} {x:V},kG K H xs ds->xs[i]? =some x->∃d,ds[i]? =some d/\Rep K H x d
 |_,_,_,_,.nil,e=>by simp at e
 |_,_,0,_,.cons r _,e=>by simp at e;subst e;exact⟨_,rfl,r⟩
 |_,_,i + 1,x,.cons _ t,e=>by
  obtain⟨u,h1,h2⟩:=kG.at' (i:=i) (x:=x) t (by simpa using e)
  exact⟨u,by simpa using h1,h2⟩
open Classical in
theorem v3 (I:Inv X pins σ H s)(d:PyData):∀{xs:List V} {us:List Value} {ds:List PyData},Vals xs us->kG X.K H xs ds->(∀e,e∈ds->SeqAt.shaped e=true)->∃f:Value->Bool,us.any f=(ds.any λe=>PyData.eqv e d)/\∀u,u∈us->∃e as,e∈ds/\Reads s.heap u e as/\f u=PyData.eqv e d:=by
 intro xs us ds hv hr hs
 let f:Value->Bool:=λu=>if h:∃e as,SeqAt.shaped e=true/\Reads s.heap u e as then PyData.eqv (Classical.choose h) d else false
 have hf:∀{u:Value} {e:PyData} {as:List Addr},SeqAt.shaped e=true->Reads s.heap u e as->f u=PyData.eqv e d:=λ{u e as} h1 h2=>by
  have hx:∃e as,SeqAt.shaped e=true/\Reads s.heap u e as:=⟨e,as,h1,h2⟩
  show (if h:∃e as,SeqAt.shaped e=true/\Reads s.heap u e as then PyData.eqv (Classical.choose h) d else false)=_
  rw[dif_pos hx]
  obtain⟨bs,q1,q2⟩:=Classical.choose_spec hx
  rw[SeqAt.Reads.unique _ _ _ _ _ (Qd q1) q2 h2]
 refine⟨f,?_,?_⟩
 ·induction hv generalizing ds with
  |nil=>cases hr;rfl
  | @cons x u xs us r1 r2 ih=>
   cases hr with
   | @cons _ _ e es h1 h2=>
    obtain⟨as,q⟩:=h1.reads I r1
    rw[P8,P8,hf (hs e (NN ..)) q,ih h2 λz hz=>hs z (NJ _ hz)]
 ·intro u hu
  obtain⟨i,hi,e0⟩:=Ol.mp hu
  have hi':i < xs.length:=by rw[hv.length];exact hi
  obtain⟨u',eu,ru⟩:=hv.get (NC hi')
  rw[NC hi,e0] at eu
  cases eu
  obtain⟨e,ee,re⟩:=kG.at' hr (NC hi')
  obtain⟨as,q⟩:=re.reads I ru
  have hm:=NU ee
  exact⟨e,as,hm,q,hf (hs e hm) q⟩
inductive E3 (K:Frag)(H:Hp):V->String->Prop
 |non:E3 K H .non "NoneType"
 |bl (b:Bool):E3 K H (.bl b) "bool"
 |int (i:Int):E3 K H (.int i) "int"
 |str (x:Str):E3 K H (.str x) "str"
 |tup {a:Addr} {xs:List V}:dU K H a xs->E3 K H (.ref a) "tuple"
 |lst {a:Addr} {xs:List V}:fj K H a xs->E3 K H (.ref a) "list"
 |dic {a:Addr} {kvs:List (Key×V)}:H a=some (.dK kvs)->E3 K H (.ref a) "dict"
def MM (K:Frag):List V->Hp->VK->Prop:=λxs H Q=>∃x T t b,xs= [x,.ty T]/\E3 K H x t/\PySem.W.kitOne K (.type t) (.type T)=some b/\Q (.bl b) H
theorem DB:cB X (.builtin "isinstance") (MM X.K):=by
 intro pins s σ H xs us Q I r h
 obtain⟨x,T,t,b,rfl,ty,e,q⟩:=h
 obtain⟨u,c,rfl,rx,rc⟩:=vals2 r
 cases rc
 have fin:∀tk,EP X pins σ Q (.bool b) {s with toks:=tk}:=λtk=>⟨.bl b,H,I.tok tk,rfl,q⟩
 cases ty with
 |non=>exact jo I rx .non e fin
 |bl b=>exact jo I rx (.bl b) e fin
 |int i=>exact jo I rx (.int i) e fin
 |str z=>exact jo I rx (.str z) e fin
 |dic hk=>exact jo I rx (.dK hk) e fin
 |tup hq=>
  cases rx
  obtain⟨its,rv,⟨o,h1,h2,_⟩,_⟩:=I.tuple hq
  exact OA PySem.W.kitx_tuple I.kIn ⟨o,h1,h2⟩ e (λz=>nomatch z) fin
 |lst hq=>
  cases rx
  obtain⟨its,rv,pl,_⟩:=I.list hq
  obtain⟨o,h1,h2,_⟩:=pl.isList
  exact OA PySem.W.kitx_list I.kIn ⟨o,h1,h2⟩ e (λz=>nomatch z) fin
def wa {A:Around}{its:List Value}{bs:List Bool}(hv:Vals (bs.map V.bl) its):TruthOf X.prog X.w A (λi v=>its[i]? =some v) (λi=>bs.getD i false):=λi v s Q E hi hq=>by
 have hl:=hv.length
 have hi2:i < bs.length:=by
  have:=(NV.mp hi).1
  rw[<-hl] at this;simpa using this
 obtain⟨u,eu,ru⟩:=hv.get (i:=i) (x:=.bl bs[i]) (by simp[hi2])
 rw[hi] at eu;cases eu
 cases ru
 refine O7 ?_
 have:bs.getD i false=bs[i]:=by simp[hi2]
 rw[<-this];exact hq
theorem range_all (bs:List Bool):(List.range bs.length).all (λi=>bs.getD i false)=bs.all id:=by
 induction bs with
 |nil=>rfl
 |cons b bs ih=>
  rw[N0,List.range_succ_eq_map,all_cons,all_map,all_cons,<-ih]
  rfl
theorem range_any (bs:List Bool):(List.range bs.length).any (λi=>bs.getD i false)=bs.any id:=by
 induction bs with
 |nil=>rfl
 |cons b bs ih=>
  rw[N0,List.range_succ_eq_map,P8,List.any_map,P8,<-ih]
  rfl
def yB (K:Frag)(f:List Bool->Bool):List V->Hp->VK->Prop:=λxs H Q=>∃a bs,xs= [.ref a]/\fj K H a (bs.map V.bl)/\Q (.bl (f bs)) H
def qh (hc:X.calm=true){a:Addr}{bs:List Bool}{Q:VK}(I:Inv X pins σ H s)(hq:fj X.K H a (bs.map V.bl)){f:List Bool->Bool}{g:(Nat->Bool)->Nat->Bool}(hfg:g (λi=>bs.getD i false) bs.length=f bs)(q:Q (.bl (f bs)) H) :
  wpAny (model X.prog X.w) X.A.in1 (pyIter (.ref a)) (λit s2=>∃Ii fp wr n P St tr,it=.ref Ii/\Walks X.prog X.w X.A.in1 Ii fp wr n P St/\St 0 s2.heap/\TruthOf X.prog X.w X.A.in1 P tr/\
   ∀h' tk,(∀b o,b∉wr->s2.heap.get? b=some o->h'.get? b=some o)->EP X pins σ Q (.bool (g tr n)) {s2 with heap:=h',toks:=tk}) X.xe s:=by
 obtain⟨its,rv,pl,hz⟩:=I.list hq
 have hh:X.A.in1.handled=none:=I.ok.hd hc
 have hlen:its.length=bs.length:=by rw[<-rv.length];simp
 obtain⟨o,ho,_⟩:=id pl.isList
 refine Qe pl.isList ?_
 have W:=Walks.list (prog:=X.prog) (w:=X.w) hh s.heap.objs.size a (Of (NO ho)) its.toArray
 refine⟨s.heap.objs.size,_,_,_,_,_,λi=>bs.getD i false,rfl,W,⟨⟨_,NQ _ rfl,rfl,rfl⟩,pl.isList.push _⟩,?_,λh' tk k=>?_⟩
 ·have:=wa (X:=X) (A:=X.A.in1) rv
  simpa using this
 ·have e:its.toArray.size=bs.length:=by simpa using hlen
  rw[e,hfg]
  have I1:Inv X pins σ H {s with heap:=s.heap.push {cls:=.type "list_iterator",data:=.fields #[.ref a,.int 0 0]}}:=I.kept (t':=s.toks) λb o e=>ND _ e
  have hf:H s.heap.objs.size=none:=I.hok.fresh (NH _)
  have fp:=I.fpOk (H':=H) (b:=s.heap.objs.size) (NH _) hf
  refine⟨.bl _,H,I1.turned (it:=s.heap.objs.size) (t':=tk) (λb o hb e=>k b o (by simpa using hb) e) hf fp.2.1 fp.2.2.2.1 fp.2.2.2.2.1 fp.2.2.2.2.2,rfl,q⟩
def mG (hc:X.calm=true):cB X (.builtin "all") (yB X.K λbs=>bs.all id):=by
 intro pins s σ H xs us Q I r h
 obtain⟨a,bs,rfl,hq,q⟩:=h
 obtain⟨u,rfl,rx⟩:=vals1 r
 cases rx
 exact call_all_walk (qh hc I hq (f:=λbs=>bs.all id) (g:=λtr n=>(List.range n).all tr) (range_all bs) q)
def Cq (hc:X.calm=true):cB X (.builtin "any") (yB X.K λbs=>bs.any id):=by
 intro pins s σ H xs us Q I r h
 obtain⟨a,bs,rfl,hq,q⟩:=h
 obtain⟨u,rfl,rx⟩:=vals1 r
 cases rx
 exact call_any_walk (qh hc I hq (f:=λbs=>bs.any id) (g:=λtr n=>(List.range n).any tr) (range_any bs) q)
def Cd:cB X (.type "range") (λxs H Q=>∃n:Int,xs= [.int n]/\∀p,H p=none->Q (.ref p) (upd H p (.eB 0 n))):=by
 intro pins s σ H xs us Q I r h
 obtain⟨n,rfl,q⟩:=h
 obtain⟨u,rfl,rx⟩:=vals1 r
 obtain⟨t,rfl⟩:=rx
 refine call_range_1 ⟨.ref s.heap.objs.size,upd H s.heap.objs.size (.eB 0 n),?_,rfl,q _ (I.hok.fresh (NH _))⟩
 exact I.laid (λb o e=>ND _ e) (NH _) ⟨_,_,_,NQ _ rfl⟩
def rC (hc:X.calm=true):cB X (.type "list") (λxs H Q=>∃p n,xs= [.ref p]/\H p=some (.eB 0 n)/\0<=n/\n<=1000/\∀l,H l=none->Q (.ref l) (upd H l (.lst ((List.range n.toNat).map λ(i:Nat)=>V.int (i:Int))))):=by
 intro pins s σ H xs us Q I r h
 obtain⟨p,n,rfl,hp,h0,h1,q⟩:=h
 obtain⟨u,rfl,rx⟩:=vals1 r
 cases rx
 obtain⟨t,u,v,hr⟩:∃t u v,s.heap.get? p=some {cls:=.type "range",data:=.fields #[.int 0 t,.int n u,.int 1 v]}:=I.hok p _ hp
 have hsz:Builtin.Range.rangeSize 0 n 1=(n.toNat:Int):=by rw[rangeSize_one];split <;> omega
 refine call_list_range (I.ok.hd hc) hr (small_one (by omega) (by omega) (by omega) (by omega)) hsz (by omega) λh' tk acc c k hS hacc=>?_
 have hv:Vals ((List.range n.toNat).map λ(i:Nat)=>V.int (i:Int)) acc.toList:=by
  have key:∀(m:Nat) (us:List Value) (j:Nat),us.length=m->(∀(i:Nat) (v:Value),us[i]? =some v->∃t,v=Value.int ((j + i:Nat):Int) t)->Vals ((List.range' j m).map λ(i:Nat)=>V.int (i:Int)) us:=by
   intro m
   induction m with
   |zero=>intro us j hl _;cases us with
    |nil=>exact .nil
    |cons a b=>simp at hl
   |succ m ih=>
    intro us j hl hh
    cases us with
    |nil=>simp at hl
    |cons u us=>
     rw[List.range'_succ,Oq]
     refine .cons (by have:=hh 0 u rfl;simp at this;exact this) (ih us (j + 1) (by simpa using hl) λi v hi=>?_)
     obtain⟨t,e⟩:=hh (i + 1) v (by simpa using hi)
     exact⟨t,by rw[e];congr 2;omega⟩
  have:=key n.toNat acc.toList 0 (by simpa using hacc.1) λi v hi=>by
   obtain⟨t,e⟩:=hacc.2 i v (by simpa using hi)
   exact⟨t,by rw[e];simp⟩
  rw[List.range_eq_range'];exact this
 refine⟨.ref s.heap.objs.size,_,I.laid (t':=tk) k (NH _) (show bN X.prog X.w _ h' _ (.lst _) from⟨by simp;rw[N8];omega,acc.toList,c,hv,by simpa using hS⟩),rfl,q _ (I.hok.fresh (NH _))⟩
end
def Rc (h:Heap)(e:Addr)(cls:Value)(T:Addr)(fl:Value):Prop:=∃oe vs oT ts,h.get? e=some oe/\oe.cls=cls/\oe.dict=none/\oe.data=.fields vs/\vs[1]? =some (.ref T)/\T≠e/\h.get? T=some oT/\oT.data=.fields ts/\ts[3]? =some fl
abbrev Keeps (F:List Addr)(ch:List Addr)(h h':Heap):Prop:=∀b o,h.get? b=some o->b∉F->b∉ch->h'.get? b=some o
abbrev Slots (F:List Addr)(h h':Heap):Prop:=∀b o,h.get? b=some o->b∈F->∃sl,h'.get? b=some {o with slots:=sl}
section
variable {M:Model}{A:Around}{E:Value->Shared->Prop}{s:Shared}{base:Heap}{env:Env}{outer:List Env}{L e:Addr}{cls:Value}{Q:Unit->Shared->Prop}
def CF {head:Value}{hadNext:Bool}(hfr:A.frames=some (env :: outer))(hl:s.heap.FunFrames base (env :: outer))(hf:env.frame=some L)(he:s.heap.get? e=some oe)(hc:oe.cls=cls)(hdd:oe.dict=none)(hd:oe.data=.fields vs)(hsz:1 < vs.size)
  (h:∀h' T,Keeps (eO (env :: outer)) [e] s.heap h'->Slots (eO (env :: outer)) s.heap h'->s.heap.get? T=none->Rc h' e cls T (rawInt L)->Q () {s with heap:=h'}) :
  wpAny M A (do let a <-frameOf env;let pl <-entryPlaceOf L hadNext;let b <-EntryCells.newEntry head a .none (rawInt L) .none pl;setField (.ref e) 1 b) Q E s:=by
 have eF:e∉eO (env :: outer):=λz=>by
  obtain⟨_,o,q,n⟩:=hl.mem z
  rw[he] at q;cases q;exact n _ hd
 refine NA (wpAny_frameOf_fun hfr hl hf λh1 s1=>?_)
 refine NA (wpAny_entryPlaceOf λpl hpl=>?_)
 unfold EntryCells.newEntry newFields
 refine NA (OH ?_ (hpl.sizeOk5 _ _ _ _ _))
 have e1:h1.get? e=some oe:=(s1.2.1 e eF).trans he
 have e2:=ND (h:=h1) {cls:=.type "traceback",dict:=none,data:=.fields ([head,.ref L,.none,rawInt L,.none] ++ (if pl.isEmpty then List.replicate 6 Value.none else pl)).toArray} e1
 have tn:h1.objs.size≠e:=Nat.ne_of_gt (NO e1)
 refine Py e2 hd hsz (h _ h1.objs.size (λb o q hb hn=>?_) (λb o q hb=>?_) ?_ ?_)
 ·have hbe:b≠e:=by simpa using hn
  have q1:h1.get? b=some o:=(s1.2.1 b hb).trans q
  rw[OQ _ _ (Ne.symm hbe)]
  exact ND _ q1
 ·obtain⟨sl,q1⟩:=s1.2.2 b o q
  have hbe:b≠e:=λz=>eF (z▸hb)
  refine⟨sl,?_⟩
  rw[OQ _ _ (Ne.symm hbe)]
  exact ND _ q1
 ·cases q:s.heap.get? h1.objs.size with
  |none=>rfl
  |some o=>obtain⟨sl,q1⟩:=s1.2.2 _ o q;exact absurd (NO q1) (Om _)
 ·have d3:=Qv hd (·.setIfInBounds 1 (Value.ref h1.objs.size))
  have e3:=OB (Obj.mapFields (·.setIfInBounds 1 (Value.ref h1.objs.size))) e2 (Obj.isFreed_of_fields d3)
  refine⟨_,_,_,_,e3,(Obj.cls_mapFields _ _).trans hc,?_,d3,by simp[hsz],tn,(OQ _ _ (Ne.symm tn)).trans (NQ h1 rfl),rfl,?_⟩
  ·unfold Obj.mapFields
   split <;> exact hdd
  ·rcases hpl with rfl | ⟨_,_,_,_,_,_,_,rfl⟩ <;> simp
def yu (hfr:A.frames=some (env :: outer))(hl:s.heap.FunFrames base (env :: outer))(hf:env.frame=some L)(he:s.heap.get? e=some oe)(hc:oe.cls=cls)(hdd:oe.dict=none)(hd:oe.data=.fields vs)(h1:vs[1]? =some .none)
  (h:∀h' T,Keeps (eO (env :: outer)) [e] s.heap h'->Slots (eO (env :: outer)) s.heap h'->s.heap.get? T=none->Rc h' e cls T (rawInt L)->Q () {s with heap:=h'}):wpAny M A (noteFrame (.ref e) env) Q E s:=by
 unfold noteFrame
 simp only[hf]
 refine NA (PU he hd h1 ?_)
 rw[NL (by decide)]
 exact CF hfr hl hf he hc hdd hd (OC.mp h1).1 h
def rT (hfr:A.frames=some (env :: outer))(hl:s.heap.FunFrames base (env :: outer))(hf:env.frame=some L)(r:Rc s.heap e cls T0 .none)
  (h:∀h' T,Keeps (eO (env :: outer)) [e,T0] s.heap h'->Slots (eO (env :: outer)) s.heap h'->(s.heap.get? T=none\/T=T0)->Rc h' e cls T (rawInt L)->Q () {s with heap:=h'}):wpAny M A (noteFrame (.ref e) env) Q E s:=by
 obtain⟨oe,vs,oT,ts,he,hc,hdd,hd,h1,hTe,hT,hdT,h3⟩:=r
 have tF:T0∉eO (env :: outer):=λz=>by
  obtain⟨_,o,q,n⟩:=hl.mem z
  rw[hT] at q;cases q;exact n _ hdT
 unfold noteFrame
 simp only[hf]
 refine NA (PU he hd h1 ?_)
 rw[NG (show (Value.ref T0 != Value.none)=true from by simp)]
 refine NA (PU hT hdT h3 ?_)
 rw[NL (show ¬((Value.none == rawInt L)=true) from by simp[rawInt])]
 refine NA (Py hT hdT (OC.mp h3).1 ?_)
 have oth:∀b,b≠T0->(s.heap.update T0 (Obj.mapFields (·.setIfInBounds 3 Value.none))).get? b=s.heap.get? b:=λb hb=>OQ _ _ (Ne.symm hb)
 have nf:∀b o,s.heap.get? b=some o->(∀ws,o.data≠.fields ws)->b≠T0:=λb o q n z=>by
  rw[z,hT] at q;cases q;exact n _ hdT
 refine CF (base:=base) hfr (hl.of_keeps λb o q n=>⟨o,(oth b (nf b o q n)).trans q,rfl⟩) hf ((oth e (Ne.symm hTe)).trans he) hc hdd hd (OC.mp h1).1 λh' T kp sl tn rc=>?_
 refine h h' T (λb o q hb hn=>?_) (λb o q hb=>?_) ?_ rc
 ·simp only[NI,Oi,O3,not_or] at hn
  exact kp b o ((oth b hn.2).trans q) hb (by simp[hn.1])
 ·exact sl b o ((oth b λz=>tF (z▸hb)).trans q) hb
 ·by_cases z:T=T0
  ·exact .inr z
  ·exact .inl ((oth T z).symm.trans tn)
def pC (r:Rc s.heap e cls T fl)(h:∀h',Keeps [] [T] s.heap h'->Rc h' e cls T .none->Q () {s with heap:=h'}):wpAny M A (setFlight (.ref e) none) Q E s:=by
 obtain⟨oe,vs,oT,ts,he,hc,hdd,hd,h1,hTe,hT,hdT,h3⟩:=r
 have sz:3 < ts.size:=(OC.mp h3).1
 unfold setFlight
 refine NA (PU he hd h1 ?_)
 rw[NG (show (Value.ref T != Value.none)=true from by simp)]
 refine Py hT hdT sz (h _ (λb o q _ hn=>?_) ?_)
 ·have hb:b≠T:=by simpa using hn
  exact (OQ _ _ (Ne.symm hb)).trans q
 ·have d3:=Qv hdT (·.setIfInBounds 3 ((none:Option Addr).elim Value.none λf=>rawInt f))
  exact⟨oe,vs,_,_,(OQ _ _ hTe).trans he,hc,hdd,hd,h1,hTe,OB _ hT (Obj.isFreed_of_fields d3),d3,by simp[sz]⟩
end
section
variable {P:Program}{w:World}
theorem bN.there {H:Hp}(x:bN P w H h a o):∃u,h.get? a=some u:=by
 cases o with
 |lst xs=>obtain⟨_,_,_,_,e⟩:=x;exact⟨_,e⟩
 |tup xs=>obtain⟨_,_,_,u,e,_⟩:=x;exact⟨u,e⟩
 |dK kvs=>obtain⟨_,_,_,_,o,_,_,e,_⟩:=x;exact⟨_,e⟩
 |dT kvs=>obtain⟨_,_,_,_,o,_,_,e,_⟩:=x;exact⟨_,e⟩
 |set S n=>obtain⟨o,_,_,_,e,_⟩:=x;exact⟨_,e⟩
 |ins C dx fs=>obtain⟨_,_,_,e,_⟩:=x;exact⟨_,e⟩
 |own y=>obtain⟨_,e⟩:=x;exact⟨_,e⟩
 |xd fs=>obtain⟨_,⟨_,_,_,e,_⟩,_⟩:=x;exact⟨_,e⟩
 |eB lo hi=>obtain⟨_,_,_,e⟩:=x;exact⟨_,e⟩
 |bt ob u=>obtain⟨e,_⟩:=x;exact⟨_,e⟩
 |tbl ps=>exact⟨_,show h.get? a=some _ from x⟩
 |met f y=>exact⟨_,show h.get? a=some _ from x⟩
 |ext φ=>obtain⟨_,⟨_,e⟩,_⟩:=x;exact⟨_,e⟩
end
structure Lies (h₀:Heap)(H:Hp)(h:Heap)(e:Addr)(cls:Value):Prop where
 free:H e=none
 new:h₀.get? e=none
 ob:∃T,Rc h e cls T .none/\H T=none/\h₀.get? T=none
def me (P:Program)(w:World):vP:=λouter H s E e s'=>∃ea cls H',e=.ref ea/\s'.os=s.os/\AllBare s'.gens/\Un (eO outer) [] H H' s.heap s'.heap/\kc P w H' s'.heap/\Lies s.heap H' s'.heap ea cls/\E cls none H'
section
variable {P:Program}{w:World}{M:Model}{A:Around}{E':Value->Shared->Prop}{s:Shared}{env:Env}{outer:List Env}{L e:Addr}{cls:Value}{base h₀:Heap}{H:Hp}{Q:Unit->Shared->Prop}
def mY (hok:kc P w H h)(k:∀b o,h.get? b=some o->(∃u,H b=some u)->h'.get? b=some o):kc P w H h':=λa o ha=>
 (hok a o ha).stay (λb u hb q=>k b u q (hb.elim (λz=>⟨o,by rw[z];exact ha⟩) λz=>⟨_,z⟩)) (λ_ q=>q) λ_ _ q=>q
def Df (hfr:A.frames=some (env :: outer))(hf:env.frame=some L)(hfn:s.heap.FunFrames base (env :: outer))(hok:kc P w H s.heap)(hff:∀b∈eO (env :: outer),H b=none)(Ly:Lies h₀ H s.heap e cls)(hex:∀b o,h₀.get? b=some o->∃o',s.heap.get? b=some o')
  (hQ:∀h',(∀b o,s.heap.get? b=some o->b∉eO (env :: outer)->((∃o0,h₀.get? b=some o0)\/∃u,H b=some u)->h'.get? b=some o)->(∀b o,s.heap.get? b=some o->b∈eO (env :: outer)->∃sl,h'.get? b=some {o with slots:=sl})->Lies h₀ H h' e cls->kc P w H h'->Q () {s with heap:=h'}) :
  wpAny M A (leaving env (.ref e)) Q E' s:=by
 obtain⟨fr,nw,T0,rc,hHT,hnT⟩:=Ly
 obtain⟨oe,vs,oT,ts,he,hc,hdd,hd,h1,hTe,hT,hdT,h3⟩:=id rc
 have tF:T0∉eO (env :: outer):=λz=>by
  obtain⟨_,o,q,n⟩:=hfn.mem z
  rw[hT] at q;cases q;exact n _ hdT
 unfold leaving
 refine NA (rT hfr hfn hf rc λh4 T kp sl tn rc4=>pC rc4 λh5 kp5 rc5=>?_)
 have nT:∀b o,s.heap.get? b=some o->b≠T0->b≠T:=λb o q n z=>by
  rcases tn with tn |tn
  ·rw[z,tn] at q;cases q
  ·exact n (z.trans tn)
 have kept:∀b o,s.heap.get? b=some o->b∉eO (env :: outer)->((∃o0,h₀.get? b=some o0)\/∃u,H b=some u)->h5.get? b=some o:=λb o q hb hor=>by
  have be:b≠e:=λz=>by subst z;rcases hor with⟨_,z⟩ | ⟨_,z⟩ <;> simp_all
  have bT:b≠T0:=λz=>by subst z;rcases hor with⟨_,z⟩ | ⟨_,z⟩ <;> simp_all
  exact kp5 b o (kp b o q hb (by simp[be,bT])) (by simp) (by simp[nT b o q bT])
 have slot:∀b o,s.heap.get? b=some o->b∈eO (env :: outer)->∃sl,h5.get? b=some {o with slots:=sl}:=λb o q hb=>by
  obtain⟨x,q4⟩:=sl b o q hb
  exact⟨x,kp5 b _ q4 (by simp) (by simp[nT b o q λz=>tF (z▸hb)])⟩
 have fresh:H T=none/\h₀.get? T=none:=by
  rcases tn with tn |tn
  ·refine⟨?_,?_⟩
   ·cases q:H T with
    |none=>rfl
    |some u=>obtain⟨o,qo⟩:=(hok T u q).there;rw[tn] at qo;cases qo
   ·cases q:h₀.get? T with
    |none=>rfl
    |some u=>obtain⟨o,qo⟩:=hex T u q;rw[tn] at qo;cases qo
  ·rw[tn];exact⟨hHT,hnT⟩
 refine hQ h5 kept slot ⟨fr,nw,T,rc5,fresh.1,fresh.2⟩ (mY hok λb o q hu=>kept b o q (λz=>?_) (.inr hu))
 obtain⟨u,hu⟩:=hu
 rw[hff b z] at hu;cases hu
def xN (hfr:A.frames=some (env :: outer))(hf:env.frame=some L)(hfn:h.FunFrames base (env :: outer))(hok:kc P w H h)(hff:∀b∈eO (env :: outer),H b=none)(hex:∀b o,h₀.get? b=some o->∃o',h.get? b=some o')(hx:Heap.MadeExcOf h s.heap e cls args)
  (hQ:∀h',(∀b o,h.get? b=some o->b∉eO (env :: outer)->h'.get? b=some o)->(∀b o,h.get? b=some o->b∈eO (env :: outer)->∃sl,h'.get? b=some {o with slots:=sl})->Lies h₀ H h' e cls->kc P w H h'->Q () {s with heap:=h'}) :
  wpAny M A (leaving env (.ref e)) Q E' s:=by
 obtain⟨t,he,_,_⟩:=hx.there
 unfold leaving
 refine NA (yu (cls:=cls) hfr (hfn.of_keeps λb o q _=>⟨o,hx.keeps b o q,rfl⟩) hf he rfl rfl rfl rfl λh4 T kp sl tn rc4=>pC rc4 λh5 kp5 rc5=>?_)
 have ne:∀b o,h.get? b=some o->b≠e:=λb o q z=>by rw[z,hx.new] at q;cases q
 have nT:∀b o,h.get? b=some o->b≠T:=λb o q z=>by
  have:=hx.keeps b o q
  rw[z,tn] at this;cases this
 have kept:∀b o,h.get? b=some o->b∉eO (env :: outer)->h5.get? b=some o:=λb o q hb=>kp5 b o (kp b o (hx.keeps b o q) hb (by simp[ne b o q])) (by simp) (by simp[nT b o q])
 have slot:∀b o,h.get? b=some o->b∈eO (env :: outer)->∃sl,h5.get? b=some {o with slots:=sl}:=λb o q hb=>by
  obtain⟨x,q4⟩:=sl b o (hx.keeps b o q) hb
  exact⟨x,kp5 b _ q4 (by simp) (by simp[nT b o q])⟩
 have fresh:∀{b:Addr},h.get? b=none->H b=none/\h₀.get? b=none:=λ{b} hb=>by
  refine⟨?_,?_⟩
  ·cases q:H b with
   |none=>rfl
   |some u=>obtain⟨o,qo⟩:=(hok b u q).there;rw[hb] at qo;cases qo
  ·cases q:h₀.get? b with
   |none=>rfl
   |some u=>obtain⟨o,qo⟩:=hex b u q;rw[hb] at qo;cases qo
 have no:h.get? T=none:=by
  cases q:h.get? T with
  |none=>rfl
  |some o=>exact absurd rfl (nT T o q)
 obtain⟨f1,f2⟩:=fresh hx.new
 obtain⟨g1,g2⟩:=fresh no
 refine hQ h5 kept slot ⟨f1,f2,T,rc5,g1,g2⟩ (mY hok λb o q hu=>kept b o q λz=>?_)
 obtain⟨u,hu⟩:=hu
 rw[hff b z] at hu;cases hu
end
section
variable {P:Program}{w:World}{K:Frag}{mg:Str->Option Value}{base:Heap}{N:List Str}{qual:Str}{scope:Scope}{f:Addr}{cd:Value}{A:Around}{outer:List Env}{s0:Shared}{H0:Hp}{E:XK}
def aV:Passes (me P w) (kE (me P w) P w K mg base N qual scope f cd A outer s0 H0 E) E:=by
 intro pins σ H s e s' I hcx
 obtain⟨ea,cls,H',rfl,os,bare,un,hok,Ly,q⟩:=hcx
 have I':=I.call' os un hok bare (λb hb=>absurd hb (by simp))
 have old:∀{b:Addr},s.heap.get? b=none->s0.heap.get? b=none:=λ{b} hb=>by
  cases z:s0.heap.get? b with
  |none=>rfl
  |some o=>obtain⟨o',z'⟩:=I.base.there b o z (show b∉([]:List Addr) by simp);rw[hb] at z';cases z'
 have Ly0:Lies s0.heap H' s'.heap ea cls:=by
  obtain⟨fr,nw,T,rc,hHT,hnT⟩:=Ly
  exact⟨fr,old nw,T,rc,hHT,old hnT⟩
 have above:s0.heap.objs.size<=(envOfC qual scope s0.heap.objs.size f cd).locals:=I.ok.above
 refine Df (base:=base) (h₀:=s0.heap) I'.ok.frames rfl I'.stack I'.hok I'.stkFree Ly0 (λb o z=>I'.base.there b o z (show b∉([]:List Addr) by simp)) λh' kept slot Ly' hok'=>?_
 have nL:∀{b:Addr} {o:Obj},s0.heap.get? b=some o->b∉eO outer->b∉eO (envOfC qual scope s0.heap.objs.size f cd :: outer):=λ{b o} z hb hm=>by
  rcases NI.mp (I'.stkSub b hm) with e |e
  ·have:=NO z
   rw[e] at this
   exact absurd (N5 this above) (Om _)
  ·exact hb e
 have inn:∀{b:Addr},b∈eO outer->b∈eO (envOfC qual scope s0.heap.objs.size f cd :: outer):=λ{b} hb=>by
  obtain⟨en,h1,h2⟩:=Pd.mp hb
  exact Pd.mpr ⟨en,NJ _ h1,h2⟩
 refine⟨ea,cls,H',rfl,os.trans I.os,bare,⟨λb o z n hb _=>?_,λb o z n hb _=>?_,λb o z n _=>I'.base.free b o z n (show b∉([]:List Addr) by simp),λb o z _=>?_,I'.base.tups,I'.base.frzs,I'.base.tbls⟩,hok',Ly',q⟩
 ·exact kept b o (I'.base.keep b o z n hb (show b∉([]:List Addr) by simp)) (nL z hb) (.inl ⟨o,z⟩)
 ·obtain⟨sl,z1⟩:=I'.base.slot b o z n hb (show b∉([]:List Addr) by simp)
  obtain⟨sl2,z2⟩:=slot b _ z1 (inn hb)
  exact⟨sl2,z2⟩
 ·obtain⟨o',z1⟩:=I'.base.there b o z (show b∉([]:List Addr) by simp)
  by_cases hb:b∈eO (envOfC qual scope s0.heap.objs.size f cd :: outer)
  ·obtain⟨sl,z2⟩:=slot b o' z1 hb
   exact⟨_,z2⟩
  ·exact⟨o',kept b o' z1 hb (.inl ⟨o,z⟩)⟩
def Jo (C:Addr)(E:XK)(t:TA):TS:=λ_ σ H=>t σ H λvs H1=>vs.length<=sizeLine/\E (.ref C) none H1
def D0 {x:Str}{np cpos pos:Pos}{e0:Expr}{es:List Expr}{t:TA}(FB:ExcBaseFacts Bn newId initId bmB)(hbb:bmB.contains (.type "BaseException")=true)(q:PySem.W.excIn K C bmB newId=true)
  (hg:Gl (kE (me P w) P w K mg base N qual scope f cd A outer s0 H0 E) x) (hm:mg x=some (.ref C)) (ha:PA (kE (me P w) P w K mg base N qual scope f cd A outer s0 H0 E) (e0 :: es) t)
  (he:starEach (e0 :: es) (envOfC qual scope s0.heap.objs.size f cd)=(false,eval e0 (envOfC qual scope s0.heap.objs.size f cd)) :: starEach es (envOfC qual scope s0.heap.objs.size f cd):=by rfl)
  (hpl:(backTo cpos (starEach es (envOfC qual scope s0.heap.objs.size f cd))).any (·.1)=false:=by rfl) (hdb:(x == ("__debug__":Str))=false:=by decide) :
  PS (kE (me P w) P w K mg base N qual scope f cd A outer s0 H0 E) (.Raise (some (.Call (.Name x np) (e0 :: es) [] cpos)) none pos) (Jo C E t):=by
 intro pins s σ H D I h
 have own:∀{hh:Heap},K.In hh->∃bm Nn nm qn bs hdct sn sub ab col dd k0 k1 k2 k3 k5 mN,hh.get? C=some (excClassObj nm qn C Nn bs bm hdct sn sub ab col dd k0 k1 k2 k3 k5 newId)/\hh.Ns Nn mN/\mN "__init__"=none/\OwnTail hh bmB bm:=λ{hh} X=>by
  have q:=q
  unfold PySem.W.excIn at q
  split at q
  ·rename_i dd cdd sl ho
   split at q
   ·rename_i C' bm k0 k1 k2 k3 n k5 hm hs
    simp only[N3,beq_iff_eq,Pq] at q
    obtain⟨⟨⟨⟨⟨rfl,rfl⟩,hdel⟩,ht⟩,hok⟩,hni⟩:=q
    obtain⟨nm,bs,mro,ns,qn,hd,sn,sub,ab,col,del⟩:=cdd
    dsimp only at hm hdel hok hni
    subst hm hdel
    have hsl:sl=#[k0,k1,k2,k3,some (.builtin n),k5]:=by
     obtain⟨l⟩:=sl
     simp only at hs
     rw[hs]
    subst hsl
    exact⟨bm,ns,nm,qn,bs,hd,sn,sub,ab,col,dd,k0,k1,k2,k3,k5,_,X _ _ ho,.of_isNs (PySem.W.isNs_of_in X hok),PySem.W.nsMap_none_of_in X hok hni,PySem.W.tail_of_in X ht⟩
   ·cases q
  ·cases q
 obtain⟨bm,Nn,nm,qn,bs,hdct,sn,sub,ab,col,dd,k0,k1,k2,k3,k5,mN,hC,hN,hni,TL⟩:=own I.ok.mod.kin
 have hA:=ha cpos pins s σ H _ I h
 refine wpAny_Raise_call_subT (C:=C) (nm:=nm) (q:=qn) (N:=Nn) (bs:=bs) (bm:=bm) (hdct:=hdct) (sn:=sn) (sub:=sub) (ab:=ab) (col:=col) (dd:=dd) (k0:=k0) (k1:=k1) (k2:=k2) (k3:=k3) (k5:=k5) FB (mN:=mN) (TL.hasType hbb) (I.ok.hd rfl) ?_ hni (mZ I hg hm ⟨rfl,?_⟩ hdb)
 ·show (backTo cpos (starEach (e0 :: es) (envOfC qual scope s0.heap.objs.size f cd))).any (·.1)=false
  rw[he]
  show (false || (backTo cpos (starEach es (envOfC qual scope s0.heap.objs.size f cd))).any (·.1))=false
  rw[hpl];rfl
 have hA:wpAny _ _ (spliced (backTo cpos (starEach (e0 :: es) (envOfC qual scope s0.heap.objs.size f cd)))) _ _ s:=hA
 show wpAny _ _ (evalArgs (.ref C) true (backTo cpos (starEach (e0 :: es) (envOfC qual scope s0.heap.objs.size f cd))) []) _ _ s
 rw[he] at hA ⊢
 refine Calls.evalArgs_plain (cx hA λus s2 ⟨vs,H2,I2,r2,hl2,q2⟩=>⟨rfl,by show us.length<=_;rw[<-r2.length];exact hl2,I2.bk _ _ hC,hN.keeps I2.bk,TL.keeps I2.bk,λh' e hx=>?_⟩)
 have above:s0.heap.objs.size<=(envOfC qual scope s0.heap.objs.size f cd).locals:=I2.ok.above
 have nil:∀b:Addr,b∉([]:List Addr):=λb=>by simp
 refine xN (s:={s2 with heap:=h'}) (h:=s2.heap) (base:=base) (h₀:=s0.heap) I2.ok.frames rfl I2.stack I2.hok I2.stkFree (λb o z=>I2.base.there b o z (nil b)) hx λh2 kept slot Ly hok=>?_
 have nL:∀{b:Addr} {o:Obj},s0.heap.get? b=some o->b∉eO outer->b∉eO (envOfC qual scope s0.heap.objs.size f cd :: outer):=λ{b o} z hb hm=>by
  rcases NI.mp (I2.stkSub b hm) with e |e
  ·have:=NO z
   rw[e] at this
   exact absurd (N5 this above) (Om _)
  ·exact hb e
 have inn:∀{b:Addr},b∈eO outer->b∈eO (envOfC qual scope s0.heap.objs.size f cd :: outer):=λ{b} hb=>by
  obtain⟨en,h1,h2⟩:=Pd.mp hb
  exact Pd.mpr ⟨en,NJ _ h1,h2⟩
 refine⟨e,.ref C,H2,rfl,I2.os,I2.bare,⟨λb o z n hb _=>?_,λb o z n hb _=>?_,λb o z n _=>I2.base.free b o z n (nil b),λb o z _=>?_,I2.base.tups,I2.base.frzs,I2.base.tbls⟩,hok,Ly,q2⟩
 ·exact kept b o (I2.base.keep b o z n hb (nil b)) (nL z hb)
 ·obtain⟨sl,z1⟩:=I2.base.slot b o z n hb (nil b)
  obtain⟨sl2,z2⟩:=slot b _ z1 (inn hb)
  exact⟨sl2,z2⟩
 ·obtain⟨o',z1⟩:=I2.base.there b o z (nil b)
  by_cases hb:b∈eO (envOfC qual scope s0.heap.objs.size f cd :: outer)
  ·obtain⟨sl,z2⟩:=slot b o' z1 hb
   exact⟨_,z2⟩
  ·exact⟨o',kept b o' z1 hb⟩
end
section
variable {X:Cx}{pins:List (Addr×Obj)}{σ:St}{H:Hp}{s:Shared}{h':Heap}{e T:Addr}{oe oT:Obj}{vs ts:Array Value}
def Inv.exc {tk:Nat}(I:Inv X pins σ H s)(hex:X.ex= [])(he:s.heap.get? e=some oe)(hd:oe.data=.fields vs)(hT:s.heap.get? T=some oT)(hdT:oT.data=.fields ts)(n1:X.s₀.heap.get? e=none)(n2:X.s₀.heap.get? T=none)(pn:∀p∈X.pn ++ pins,p.1≠e/\p.1≠T)
  (kept:∀b o,s.heap.get? b=some o->b∉eO X.stack->b≠e->b≠T->h'.get? b=some o) (slot:∀b o,s.heap.get? b=some o->b∈eO X.stack->∃sl,h'.get? b=some {o with slots:=sl}) (hok:kc X.prog X.w H h') :
  Inv X pins σ H {s with heap:=h',toks:=tk}:=by
 have nil:∀b:Addr,b∉X.ex:=λb=>by rw[hex];simp
 have any:∀b o,s.heap.get? b=some o->(∀ws,o.data≠.fields ws)->∃sl,h'.get? b=some {o with slots:=sl}:=λb o q n=>by
  by_cases hb:b∈eO X.stack
  ·exact slot b o q hb
  ·refine⟨o.slots,kept b o q hb (λz=>?_) λz=>?_⟩
   ·rw[z,he] at q;cases q;exact n _ hd
   ·rw[z,hT] at q;cases q;exact n _ hdT
 have cellK:∀{c:Addr} {v:Option Value},s.heap.IsCell c v->h'.IsCell c v:=λ{c v} ⟨o,ho,hdc⟩=>by
  obtain⟨sl,q⟩:=any c o ho λws z=>by rw[hdc] at z;cases z
  exact⟨_,q,hdc⟩
 have nsub:∀{b:Addr},b≠X.env.locals->b∉X.fs->b∉eO X.stack:=λ{b} h1 h2 hb=>(NI.mp (I.stkSub b hb)).elim h1 h2
 have neL:∀b o,X.s₀.heap.get? b=some o->b≠X.env.locals:=λb o q=>Of (N5 (NO q) I.ok.above)
 have ne2:∀b o,X.s₀.heap.get? b=some o->b≠e/\b≠T:=λb o q=>⟨λz=>by (rw[z,n1] at q;cases q),λz=>by (rw[z,n2] at q;cases q)⟩
 refine⟨I.ok,I.os,I.bare,⟨λb o q n hb hx=>?_,λb o q n hb hx=>?_,I.base.free,λb o q hx=>?_,I.base.tups,I.base.frzs,I.base.tbls⟩,?_,λx c q=>?_,I.free,I.freeC,λp hp=>?_,hok,I.len⟩
 ·exact kept b o (I.base.keep b o q n hb hx) (nsub (neL b o q) hb) (ne2 b o q).1 (ne2 b o q).2
 ·obtain⟨sl,q1⟩:=I.base.slot b o q n hb hx
  by_cases hs:b∈eO X.stack
  ·obtain⟨sl2,q2⟩:=slot b _ q1 hs
   exact⟨sl2,q2⟩
  ·exact⟨sl,kept b _ q1 hs (ne2 b o q).1 (ne2 b o q).2⟩
 ·obtain⟨o',q1⟩:=I.base.there b o q hx
  by_cases hs:b∈eO X.stack
  ·obtain⟨sl2,q2⟩:=slot b _ q1 hs
   exact⟨_,q2⟩
  ·exact⟨o',kept b _ q1 hs (ne2 b o q).1 (ne2 b o q).2⟩
 ·obtain⟨m,⟨o,es,ep,ho,hdd,r⟩,hl⟩:=I.loc
  obtain⟨sl,q⟩:=any _ o ho λws z=>by rw[hdd] at z;cases z
  refine⟨m,⟨_,es,ep,q,hdd,r⟩,λi x v e1 e2 e3=>?_⟩
  obtain⟨u,r',l⟩:=hl i x v e1 e2 e3
  refine⟨u,r',?_⟩
  rcases l with l | ⟨k,c,q,z⟩
  ·exact .inl l
  ·exact .inr ⟨k,c,q,cellK z⟩
 ·obtain⟨v,z⟩:=I.cell x c q
  exact⟨v,cellK z⟩
 ·obtain⟨q,n,ne,nf,d⟩:=I.pin p hp
  exact⟨kept p.1 p.2 q (nsub ne nf) (pn p hp).1 (pn p hp).2,n,ne,nf,d⟩
def ja (e:Addr)(cls:Value)(h:Heap):Prop:=∃o vs,h.get? e=some o/\o.cls=cls/\o.dict=none/\o.data=.fields vs
def Rc.isExc {e T:Addr}{cls fl:Value}(r:Rc h e cls T fl):ja e cls h:=let ⟨oe,vs,_,_,a,b,c,d,_⟩:=r;⟨oe,vs,a,b,c,d⟩
def Inv.track {cls:Value}(I:Inv X pins σ H s)(he:ja e cls s.heap)(hn:H e=none)(n1:X.s₀.heap.get? e=none)(hL:e≠X.env.locals)(hc:∀x c,X.env.cells.lookup x=some c->c≠e)(pn:∀p∈X.pn ++ pins,p.1≠e) :
  Inv X pins σ (upd H e (.ext (ja e cls))) s:=by
 have un:∀{b:Addr},b≠e->upd H e (.ext (ja e cls)) b=H b:=λ{b} z=>aB z
 have keepT:∀{b:Addr} {o:HO},H b=some o->upd H e (.ext (ja e cls)) b=some o:=λ{b o} q=>by rw[un (aL q hn)];exact q
 refine⟨I.ok,I.os,I.bare,⟨I.base.keep,I.base.slot,λb o q n hx=>?_,I.base.there,λb xs q=>keepT (I.base.tups b xs q),λb o u q=>keepT (I.base.frzs b o u q),λb ps q=>?_⟩,I.loc,I.cell,?_,λx c q=>?_,λp hp=>?_,λa o ha=>?_,I.len⟩
 ·rw[un (λz=>by rw[z,n1] at q;cases q)];exact I.base.free b o q n hx
 ·obtain⟨m,q1⟩:=I.base.tbls b ps q
  exact⟨m,keepT q1⟩
 ·rw[un hL.symm];exact I.free
 ·rw[un (hc x c q)];exact I.freeC x c q
 ·obtain⟨q,n,ne,nf,d⟩:=I.pin p hp
  exact⟨q,by rw[un (pn p hp)];exact n,ne,nf,d⟩
 ·by_cases z:a=e
  ·subst z
   rw[au] at ha
   cases ha
   obtain⟨o,vs,q,c⟩:=he
   exact⟨⟨o,vs,q,c⟩,⟨o,q⟩,λh1 h2 ⟨o1,v1,q1,c1⟩ k=>⟨o1,v1,k o1 q1,c1⟩⟩
  ·rw[un z] at ha
   exact (I.hok a o ha).stay (λb u _ q=>q) (λb q=>keepT q) λb xs q=>keepT q
def Aq {M:Model}{A:Around}{E:Value->Shared->Prop}{Q:Unit->Shared->Prop}(I:Inv X pins σ H s)(hN:X.N.Nodup)(hi:X.N[i]? =some x)(hk:X.env.scope.names.lookup x=some .local)(hv:σ[i]? =some (some v))
  (h:∀s',Inv X pins (σ.set i none) H s'->Q () s'):wpAny M A (unbindName X.env x) Q E s:=by
 obtain⟨m,hn,hl⟩:=id I.loc
 have hcls:(X.env.scope.kind == .class || (X.env.scope.kind == .module && X.env.locals != X.env.globals))=false:=by rw[I.ok.kind];rfl
 obtain⟨u,_,look⟩:=hl i x v hi hv (.inl hk)
 have hm:m x=some u:=by
  rcases look with⟨_,q⟩ | ⟨k,_⟩
  ·exact q
  ·have hk':X.env.kindOf x=some .local:=hk
   rw[hk'] at k
   rcases k with k |k <;> cases k
 refine wpAny_unbindName_local hk hn hm hcls λh' u' hn' hs=>?_
 obtain⟨oL,_,_,hoL,_⟩:=id hn
 have same:∀{b:Addr} {o:Obj},b≠X.env.locals->s.heap.get? b=some o->h'.get? b=some o:=λ{b o} z q=>(hs.2 b z).trans q
 have neL:∀{b:Addr} {o:Obj},X.s₀.heap.get? b=some o->b≠X.env.locals:=λ{b o} q=>Of (N5 (NO q) I.ok.above)
 have hok:kc X.prog X.w H h':=mY I.hok λb o q hu=>same (λz=>by obtain⟨w',hw⟩:=hu;rw[z,I.free] at hw;cases hw) q
 refine h _ ⟨I.ok,I.os,I.bare,⟨λb o q n hb hx=>same (neL q) (I.base.keep b o q n hb hx),λb o q n hb hx=>?_,I.base.free,λb o q hx=>?_,I.base.tups,I.base.frzs,I.base.tbls⟩,⟨_,hn',λj y v' e1 e2 e3=>?_⟩,λy c q=>?_,I.free,I.freeC,λp hp=>?_,hok,by simpa using I.len⟩
 ·obtain⟨sl,q1⟩:=I.base.slot b o q n hb hx
  exact⟨sl,same (neL q) q1⟩
 ·obtain⟨o',q1⟩:=I.base.there b o q hx
  exact⟨o',same (neL q) q1⟩
 ·by_cases hj:j=i
  ·subst hj
   rw[NW (by rw[I.len];exact (NV.mp hi).1)] at e2
   cases e2
  ·rw[NX (Ne.symm hj)] at e2
   obtain⟨u2,r',q⟩:=hl j y v' e1 e2 e3
   refine⟨u2,r',?_⟩
   rcases q with⟨k,q⟩ | ⟨k,c,q,z⟩
   ·have:y≠x:=λz=>hj (pH hN e1 (z▸hi))
    exact .inl ⟨k,by simp[this,q]⟩
   ·exact .inr ⟨k,c,q,z.sameBut hs (I.cne y c q)⟩
 ·obtain⟨w',z⟩:=I.cell y c q
  exact⟨w',z.sameBut hs (I.cne y c q)⟩
 ·obtain⟨q,n,ne,nf,d⟩:=I.pin p hp
  exact⟨same ne q,n,ne,nf,d⟩
end
def yn (bmB:List Value)(newId:String)(C:Addr)(bm:List Value)(h:Heap):Prop:=∃Nn nm qn bs hdct sn sub ab col dd k0 k1 k2 k3 k5,h.get? C=some (excClassObj nm qn C Nn bs bm hdct sn sub ab col dd k0 k1 k2 k3 k5 newId)/\OwnTail h bmB bm
def mroIn (K:Frag)(C:Addr):List Value:=match K.lookup C with
 |some ⟨_,_,.cls cd,_⟩=>cd.mro
 |_=>[]
def zl {K:Frag}{C:Addr}{bmB:List Value}{newId:String}(q:PySem.W.excIn K C bmB newId=true):∃bm,mroIn K C=.ref C :: bm/\∀{h:Heap},K.In h->yn bmB newId C bm h:=by
 have q0:=q
 unfold PySem.W.excIn at q
 split at q
 ·rename_i dd cdd sl ho
  split at q
  ·rename_i C' bm k0 k1 k2 k3 n k5 hm hs
   simp only[N3,beq_iff_eq,Pq] at q
   obtain⟨⟨⟨⟨⟨rfl,rfl⟩,hdel⟩,ht⟩,hok⟩,hni⟩:=q
   refine⟨bm,by unfold mroIn;rw[ho];exact hm,λ{h} X=>?_⟩
   obtain⟨nm,bs,mro,ns,qn,hd,sn,sub,ab,col,del⟩:=cdd
   dsimp only at hm hdel hok hni
   subst hm hdel
   have hsl:sl=#[k0,k1,k2,k3,some (.builtin n),k5]:=by
    obtain⟨l⟩:=sl
    simp only at hs
    rw[hs]
   subst hsl
   exact⟨ns,nm,qn,bs,hd,sn,sub,ab,col,dd,k0,k1,k2,k3,k5,X _ _ ho,PySem.W.tail_of_in X ht⟩
  ·cases q
 ·cases q
def Ck {M:Model}{A:Around}{E:Value->Shared->Prop}{s:Shared}{Q:Bool->Shared->Prop}{C D e:Addr}(oC:yn bmB nC C bm s.heap)(oD:yn bmB2 nD D bmD s.heap)(he:s.heap.get? e=some oe)(hcls:oe.cls=.ref C)
  (hb:bmB2.contains (.type "BaseException")=true) (hup:(Value.ref C :: bm).contains (.ref D)=true) (hq:Q true s):wpAny M A (excMatches (.ref e) (.ref D)) Q E s:=by
 obtain⟨N1,nm1,qn1,bs1,hd1,sn1,sub1,ab1,col1,dd1,a0,a1,a2,a3,a5,hC,TC⟩:=oC
 obtain⟨N2,nm2,qn2,bs2,hd2,sn2,sub2,ab2,col2,dd2,b0,b1,b2,b3,b5,hD,TD⟩:=oD
 have hcB:(Value.ref D :: bmD).contains (.type "BaseException")=true:=by rw[List.contains_cons,TD.hasType hb,Bool.or_true]
 have f:=tc_notTuple
 obtain⟨h,g,d,t,os⟩:=s
 unfold excMatches
 repeat (first
  | (with_reducible refine wpAny_loadPart_at he ?_;rw[hcls])
  |with_reducible refine wpAny_loadPart_at hD ?_
  | (with_reducible refine wpAny_isSubtype_exc hD ?_;rw[hcB])
  | (with_reducible refine wpAny_isSubtype_exc hC ?_;rw[hup])
  |wp_step)
 exact hq
def Mt (K:Frag)(cls:Value)(D:Addr):Prop:=∀{M:Model} {A:Around} {E:Value->Shared->Prop} {s:Shared} {Q:Bool->Shared->Prop} {e:Addr} {oe:Obj},K.In s.heap->s.heap.get? e=some oe->oe.cls=cls->Q true s->wpAny M A (excMatches (.ref e) (.ref D)) Q E s
def GV {K:Frag}{C D:Addr}{bmB bmB2:List Value}{nC nD:String}(qC:PySem.W.excIn K C bmB nC=true)(qD:PySem.W.excIn K D bmB2 nD=true)(hb:bmB2.contains (.type "BaseException")=true)(hup:(mroIn K C).contains (.ref D)=true):Mt K (.ref C) D:=by
 intro M A E s Q e oe X he hc hq
 obtain⟨bm,e1,o1⟩:=zl qC
 obtain⟨bmD,e2,o2⟩:=zl qD
 rw[e1] at hup
 exact Ck (o1 X) (o2 X) he hc hb hup hq
abbrev Cx.inTry (X:Cx)(Ex:Value->Shared->Prop)(pn:List (Addr×Obj)):Cx:={X with xe:=Ex,pn:=pn}
abbrev Cx.inEx (X:Cx)(e:Addr):Cx:={X with A:=X.A.mark (some (.ref e)),calm:=false,xe:=λ_ _=>False}
section
variable {X:Cx}{pins:List (Addr×Obj)}{σ:St}{H:Hp}{s:Shared}
def Inv.toTry (I:Inv X pins σ H s)(Ex:Value->Shared->Prop):Inv (X.inTry Ex (X.pn ++ pins)) [] σ H s:=
 ⟨⟨I.ok.mod,I.ok.kind,I.ok.glob,I.ok.blt,I.ok.above,I.ok.inj,I.ok.has,I.ok.cab,I.ok.hd,I.ok.frames,I.ok.stk,I.ok.exf,I.ok.bs,I.ok.bsz,I.ok.noex,I.ok.exfs,I.ok.funs,I.ok.frf⟩,I.os,I.bare,I.base,I.loc,I.cell,I.free,I.freeC,λp hp=>I.pin p (by simpa using hp),I.hok,I.len⟩
def Inv.ofTry {Ex:Value->Shared->Prop}(I:Inv (X.inTry Ex (X.pn ++ pins)) pins2 σ H s):Inv X pins σ H s:=
 ⟨⟨I.ok.mod,I.ok.kind,I.ok.glob,I.ok.blt,I.ok.above,I.ok.inj,I.ok.has,I.ok.cab,I.ok.hd,I.ok.frames,I.ok.stk,I.ok.exf,I.ok.bs,I.ok.bsz,I.ok.noex,I.ok.exfs,I.ok.funs,I.ok.frf⟩,I.os,I.bare,I.base,I.loc,I.cell,I.free,I.freeC,λp hp=>I.pin p (OW _ hp),I.hok,I.len⟩
def Inv.toEx (I:Inv X pins σ H s)(e:Addr):Inv (X.inEx e) pins σ H s:=
 ⟨⟨I.ok.mod,I.ok.kind,I.ok.glob,I.ok.blt,I.ok.above,I.ok.inj,I.ok.has,I.ok.cab,λz=>absurd z NY,I.ok.frames,I.ok.stk,I.ok.exf,I.ok.bs,I.ok.bsz,I.ok.noex,I.ok.exfs,I.ok.funs,I.ok.frf⟩,I.os,I.bare,I.base,I.loc,I.cell,I.free,I.freeC,I.pin,I.hok,I.len⟩
def Inv.ofEx (ok:X.Ok)(I:Inv (X.inEx e) pins σ H s):Inv X pins σ H s:=
 ⟨ok,I.os,I.bare,I.base,I.loc,I.cell,I.free,I.freeC,I.pin,I.hok,I.len⟩
theorem SP.ofTry {Ex:Value->Shared->Prop}{D:Ends}(h:SP (X.inTry Ex (X.pn ++ pins)) [] D f s'):SP X pins D f s':=by
 cases f with
 |next=>obtain⟨σ',H',I,q⟩:=h;exact⟨σ',H',I.ofTry,q⟩
 |brk=>obtain⟨σ',H',I,q⟩:=h;exact⟨σ',H',I.ofTry,q⟩
 |cont=>obtain⟨σ',H',I,q⟩:=h;exact⟨σ',H',I.ofTry,q⟩
 |ret u=>obtain⟨v,σ',H',I,r,q⟩:=h;exact⟨v,σ',H',I.ofTry,r,q⟩
end
def GJ (i:Nat)(D:Ends):Ends:={nx:=λσ H=>D.nx ((σ.set i (some .non)).set i none) H,rt:=D.rt,bk:=λσ H=>D.bk ((σ.set i (some .non)).set i none) H,ct:=λσ H=>D.ct ((σ.set i (some .non)).set i none) H}
def LM (K:Frag)(Dc:Addr)(i len:Nat)(tb:XK->TS)(th:Addr->TS):TS:=λD σ H=>∃Eb:XK,tb Eb D σ H/\∀cls d H',Eb cls d H'->Mt K cls Dc/\∀(ea:Addr) (σ':St),H' ea=none->σ'.length=len->th ea (GJ i D) (σ'.set i (some (.ref ea))) (upd H' ea (.ext (ja ea cls)))
section
variable {X:Cx}
def Jh {n x:Str}{i:Nat}{Dc:Addr}{np hpos pos:Pos}{body suite:List Stmt}{b0:Stmt}{tb:XK->TS}{th:Addr->TS}(hst:X.stack=X.env :: X.outer)(hfr:X.env.frame=some X.env.locals)(hex:X.ex= [])
  (hb:∀Eb Ex pn,Passes (me X.prog X.w) (X.inTry Ex pn) Eb->oP (X.inTry Ex pn) body (tb Eb)) (hs:∀e,oP (X.inEx e) (b0 :: suite) (th e)) (hg:Gl X x) (hm:X.mg x=some (.ref Dc)) (hN:X.N.Nodup) (hi:X.N[i]? =some n) (hk:X.env.scope.names.lookup n=some .local)
  (hdb:(x == ("__debug__":Str))=false:=by decide) :
  PS X (.Try body [.ExceptHandler (some (.Name x np)) (some n) (b0 :: suite) hpos] [] [] pos) (LM X.K Dc i X.N.length tb th):=by
 intro pins s σ H D I h
 obtain⟨Eb,h1,h2⟩:=h
 refine wpAny_Try_except ?_
 refine OX (hb Eb (λe s₁=>wpAny (model X.prog X.w) X.A (noteFrame e X.env) (λ_ s₂=>wpAny (model X.prog X.w) X.A (setFlight e none) (λ_ s₃=>wpAny (model X.prog X.w) X.A (handleBy e X.env [.ExceptHandler (some (.Name x np)) (some n) (b0 :: suite) hpos]) (SP X pins D) X.xe s₃) X.xe s₂) X.xe s₁) (X.pn ++ pins) ?_ [] s σ H D (I.toTry _) h1) (λf s1 q=>?_) λe s1 q=>q
 ·intro pins2 σ2 H2 s2 e s3 I2 hcx
  obtain⟨ea,cls,H',rfl,os,bare,un,hok,Ly,q⟩:=hcx
  have I3:Inv X pins σ2 H' s3:=(I2.call' os un hok bare (λb hb=>absurd hb (by simp))).ofTry
  have I2':Inv X pins σ2 H2 s2:=I2.ofTry
  have nil:∀b:Addr,b∉X.ex:=λb=>by rw[hex];simp
  obtain⟨mt,hth⟩:=h2 cls none H' q
  obtain⟨fr,nw,T,rc,hHT,hnT⟩:=Ly
  obtain⟨oe,vs,oT,ts,he,hc,hdd,hd,hv1,hTe,hT,hdT,hv3⟩:=id rc
  have old:∀{b:Addr},s2.heap.get? b=none->X.s₀.heap.get? b=none:=λ{b} hb=>by
   cases z:X.s₀.heap.get? b with
   |none=>rfl
   |some o=>obtain⟨o',z'⟩:=I2'.base.there b o z (nil b);rw[hb] at z';cases z'
  have hpn:∀p∈X.pn ++ pins,p.1≠ea/\p.1≠T:=λp hp=>by
   have:=(I2'.pin p hp).1
   exact⟨λz=>by (rw[z,nw] at this;cases this),λz=>by (rw[z,hnT] at this;cases this)⟩
  have hfn:=I3.stack
  have mem:∀{b:Addr},b∈eO X.stack->∃o,s3.heap.get? b=some o/\∀ws,o.data≠.fields ws:=λ{b} hb=>(hfn.mem hb).2
  have tF:T∉eO X.stack:=λz=>by
   obtain⟨o,q,n⟩:=mem z
   rw[hT] at q;cases q;exact n _ hdT
  have hfn':s3.heap.FunFrames X.base (X.env :: X.outer):=by rw[<-hst];exact hfn
  have step:∀{h':Heap} {tk:Nat},Keeps (eO X.stack) [ea,T] s3.heap h'->Slots (eO X.stack) s3.heap h'->Inv X pins σ2 H' {s3 with heap:=h',toks:=tk}:=λ{h' tk} kp sl=>by
   have kept:∀b o,s3.heap.get? b=some o->b∉eO X.stack->b≠ea->b≠T->h'.get? b=some o:=λb o q hb n1 n2=>kp b o q hb (by simp[n1,n2])
   refine I3.exc hex he hd hT hdT (old nw) (old hnT) hpn kept sl (mY I3.hok λb o q hu=>?_)
   obtain⟨u,hu⟩:=hu
   refine kept b o q (λz=>?_) (λz=>?_) λz=>?_
   ·rw[I3.stkFree b z] at hu;cases hu
   ·rw[z,fr] at hu;cases hu
   ·rw[z,hHT] at hu;cases hu
  have hfr':X.A.frames=some (X.env :: X.outer):=by rw[<-hst];exact I3.ok.frames
  have more:∀{h4 h5:Heap} {T2:Addr},(s3.heap.get? T2=none\/T2=T)->Keeps [] [T2] h4 h5->Keeps (eO X.stack) [ea,T] s3.heap h4->Slots (eO X.stack) s3.heap h4->Keeps (eO X.stack) [ea,T] s3.heap h5/\Slots (eO X.stack) s3.heap h5:=λ{h4 h5 T2} tn k5 kp sl=>by
   have nT:∀b o,s3.heap.get? b=some o->b≠T->b≠T2:=λb o q n z=>by
    rcases tn with tn |tn
    ·rw[z,tn] at q;cases q
    ·exact n (z.trans tn)
   refine⟨λb o q hb hn=>k5 b o (kp b o q hb hn) (by simp) ?_,λb o q hb=>?_⟩
   ·simp only[NI,Oi,O3,not_or] at hn
    simp[nT b o q hn.2]
   ·obtain⟨x,q4⟩:=sl b o q hb
    exact⟨x,k5 b _ q4 (by simp) (by simp[nT b o q λz=>tF (z▸hb)])⟩
  have key:∀{h5:Heap} {T2:Addr},(s3.heap.get? T2=none\/T2=T)->Rc h5 ea cls T2 .none->Keeps (eO X.stack) [ea,T] s3.heap h5->Slots (eO X.stack) s3.heap h5->wpAny (model X.prog X.w) X.A (handleBy (.ref ea) X.env [.ExceptHandler (some (.Name x np)) (some n) (b0 :: suite) hpos]) (SP X pins D) X.xe {s3 with heap:=h5}:=λ{h5 T2} tn rc5 kp5 sl5=>by
   have I5:Inv X pins σ2 H' {s3 with heap:=h5}:=step (tk:=s3.toks) kp5 sl5
   obtain⟨oe5,vs5,he5,hc5,_,_⟩:=rc5.isExc
   refine wpAny_handleBy_cons (codeAny_handlers_test (mZ (X:=X.inEx ea) (I5.toEx ea) hg hm ?_ hdb)) (by intro q;cases q)
   refine mt I5.kIn he5 hc5 ?_
   refine codeAny_handlers_suite_as (pC (s:={s3 with heap:=h5}) rc5 λh6 k6 rc6=>?_)
   obtain⟨kp6,sl6⟩:=more tn k6 kp5 sl5
   have I6:Inv X pins σ2 H' {s3 with heap:=h6}:=step (tk:=s3.toks) kp6 sl6
   have eL:ea≠X.env.locals:=λz=>by
    obtain⟨m,⟨o,es,ep,ho,hdd,r⟩,_⟩:=I3.loc
    rw[<-z,he] at ho;cases ho
    rw[hd] at hdd;cases hdd
   have eC:∀y c,X.env.cells.lookup y=some c->c≠ea:=λy c q z=>by
    obtain⟨v,o,ho,hdd⟩:=I3.cell y c q
    rw[z,he] at ho;cases ho
    rw[hd] at hdd;cases hdd
   have I7:=I6.track (cls:=cls) rc6.isExc fr (old nw) eL eC λp hp=>(hpn p hp).1
   refine mw I7 hN hi (.inl hk) (v:=.ref ea) rfl (λs8 I8=>?_) (.inr hk)
   refine OX (hs ea pins s8 _ _ (GJ i D) (I8.toEx ea) (hth ea σ2 fr I3.len)) (λf s9 q9=>?_) λ_ _ z=>z.elim
   have back:∀{σ9:St} {H9:Hp} {Q:Unit->Shared->Prop},Inv (X.inEx ea) pins σ9 H9 s9->(∀s',Inv X pins ((σ9.set i (some .non)).set i none) H9 s'->Q () s')->wpAny (model X.prog X.w) X.A (do bindName X.env n .none;unbindBehindTheSuite X.env n hpos) Q X.xe s9:=λ{σ9 H9 Q} I9 hQ=>by
    refine NA (wpAny_bindName (mw (I9.ofEx I.ok) hN hi (.inl hk) (v:=.non) rfl (λs10 I10=>?_) (.inr hk)))
    have hl:i < σ9.length:=by rw[I9.len];exact (NV.mp hi).1
    exact wpAny_onRaise (Aq (v:=.non) I10 hN hi hk (by rw[NW hl]) hQ)
   cases f with
   |next=>obtain⟨σ9,H9,I9,q⟩:=q9;exact back I9 λs' I'=>⟨_,H9,I',q⟩
   |brk=>obtain⟨σ9,H9,I9,q⟩:=q9;exact back I9 λs' I'=>⟨_,H9,I',q⟩
   |cont=>obtain⟨σ9,H9,I9,q⟩:=q9;exact back I9 λs' I'=>⟨_,H9,I',q⟩
   |ret u=>obtain⟨v,σ9,H9,I9,r,q⟩:=q9;exact back I9 λs' I'=>⟨v,_,H9,I',r,q⟩
  refine rT hfr' hfn' hfr rc λh4 T2 kp4 sl4 tn rc4=>pC (s:={s3 with heap:=h4}) rc4 λh5 k5 rc5=>?_
  rw[<-hst] at kp4 sl4
  obtain⟨kp5,sl5⟩:=more tn k5 kp4 sl4
  exact key tn rc5 kp5 sl5
 ·cases f with
  |next=>exact Qm (SP.ofTry q)
  |brk=>exact SP.ofTry q
  |cont=>exact SP.ofTry q
  |ret u=>exact SP.ofTry q
end
structure mq (k:Nat)(A:Around):Prop where
 dp:A.depth + 3 * k + 5 < recursionLimit
 un:A.units + 16 * k + 200 < cLine
 gd:A.guards=some []
def dZ.h {k:Nat}(r:dZ k A):mq k A:=⟨r.dp,r.un,r.gd⟩
def dZ.mark {k:Nat}(r:dZ k A)(v:Option Value):mq k (A.mark v):=⟨r.dp,r.un,r.gd⟩
def mq.deeper {k:Nat}(r:mq (k + 1) A)(env:Env):mq k (A.deeper env):=
 ⟨by have:=r.dp;show A.depth + 1 + 3 * k + 5 < _;omega,by have:=r.un;show A.units + 3 + 16 * k + 200 < _;omega,r.gd⟩
structure r6 (P:Program)(w:World)(K:Frag)(mg:Str->Option Value)(base:Heap)(CX:vP)(k:Nat)(f:Addr)(fd:FuncData)(ps:List Str)(sp:Sp):Prop where
 len:∀vs H Q E,sp vs H Q E->vs.length=ps.length
 run:∀(A:Around) (outer:List Env) (s:Shared) (H:Hp) (args:Args) (us:List Value) (vs:List V) (Q:VK) (E:XK),mq k A->xZ P w K mg base A outer s H->BindsTo s fd args (ps.zip us)->Vals vs us->sp vs H Q E->
  codeAny (model P w) A (.call (.ref f) args) (CR CX outer P w H s Q E) s
abbrev zz (CX:vP)(P:Program)(w:World)(K:Frag)(mg:Str->Option Value)(base:Heap)(N:List Str)(qual:Str)(scope:Scope)(f:Addr)(cd:Value)(A:Around)(outer:List Env)(s:Shared)(H:Hp)(E:XK):Cx:=
 {kE CX P w K mg base N qual scope f cd A outer s H E with calm:=false}
def yN {CX:vP}{P:Program}{w:World}{K:Frag}{mg:Str->Option Value}{base:Heap}{N ps:List Str}{qual:Str}{scope:Scope}{f:Addr}{cd:Value}{A:Around}{outer:List Env}{s s1:Shared}{H:Hp}{E:XK}{us:List Value}{vs:List V}
  (S:aK N ps scope) (e0:xZ P w K mg base A outer s H) (hl:vs.length=ps.length) (r:Vals vs us)
  (x:InCallC s s.heap.objs.size (bindL (envOfC qual scope s.heap.objs.size f cd).kindOf (ps.zip us) λ_=>none) (cellsFrom (s.heap.objs.size + 1) scope.names []) (bindC (envOfC qual scope s.heap.objs.size f cd).kindOf (ps.zip us) λ_=>none) s1) :
  Inv (zz CX P w K mg base N qual scope f cd A outer s H E) [] (start N vs) H s1:=by
 have e1:xZ P w K mg base {A with handled:=none} outer s H:=⟨e0.frames,e0.mod,e0.bs,e0.bsz,e0.funs,e0.frf,e0.hok,e0.bare⟩
 have I:=rR (CX:=CX) (E:=E) (A:={A with handled:=none}) S rfl e1 hl r x
 exact⟨⟨I.ok.mod,I.ok.kind,I.ok.glob,I.ok.blt,I.ok.above,I.ok.inj,I.ok.has,I.ok.cab,λz=>absurd z NY,Around.frames_deeper e0.frames,I.ok.stk,I.ok.exf,I.ok.bs,I.ok.bsz,I.ok.noex,I.ok.exfs,I.ok.funs,I.ok.frf⟩,I.os,I.bare,I.base,I.loc,I.cell,I.free,I.freeC,I.pin,I.hok,I.len⟩
section
variable {P:Program}{w:World}{K:Frag}{mg:Str->Option Value}{base:Heap}
theorem BK.okH {x qual:Str}{st:Stmt}{f:Addr}{fd:FuncData}{N ps:List Str}{k:Nat}{sp:Sp}(F:BK K x qual st f fd)(S:aK N ps (av st))(len:∀vs H Q E,sp vs H Q E->vs.length=ps.length)
  (hbody:∀(cdv:Value) (A:Around) (outer:List Env) (s:Shared) (H:Hp) (vs:List V) (Q:VK) (E:XK),mq k (A.deeper (envOfC qual (av st) s.heap.objs.size f cdv))->sp vs H Q E->
   ∃t,oP (zz ye P w K mg base N qual (av st) f cdv A outer s H E).nox (bX st) t/\t {nx:=λ_ H'=>Q .non H',rt:=Q} (start N vs) H):r6 P w K mg base ye (k + 1) f fd ps sp:=by
 obtain⟨oc,od,kV,doc,pm,an,cdv,ct,osl,rfl,lk,hcd⟩:=F.ex
 refine⟨len,λA outer s H args us vs Q E hr e0 hb r hsp=>?_⟩
 have hl:=len _ _ _ _ hsp
 have KX:K.In s.heap:=e0.mod.kin.keeps λb o e=>(e0.bs b o e).1
 have lim:s.heap.NoLimit:=e0.mod.nolimit.keeps λb o e=>(e0.bs b o e).1
 have hkind:∀y∈ps.zip us,(av st).names.lookup y.1=some .local\/((av st).names.lookup y.1=some .cell/\((cellsFrom (s.heap.objs.size + 1) (av st).names []).lookup y.1).isSome=true):=λ⟨n,v⟩ hy=>by
  rcases S.par n (of_mem_zip hy).1 with q |q
  ·exact .inl q
  ·exact .inr ⟨q,PySem.W.cellsFrom_some _ _ _ (.inl q)⟩
 have hdep:A.depth < recursionLimit:=by have:=hr.dp;omega
 refine codeAny_call_function hdep (KX _ _ lk) rfl S.co S.gen rfl (PySem.W.codeRec_of KX hcd) (hb _ _ _ _ ?_)
 refine wpAny_newFunctionEnv_cells S.kind hkind λenv he s1 x=>?_
 subst he
 refine⟨lim.keeps x.toInCall.keep,codeAny_func ?_⟩
 obtain⟨t,ht,hq⟩:=hbody cdv A outer s H vs Q E (hr.deeper _) hsp
 have I:Inv (zz ye P w K mg base N qual (av st) f cdv A outer s H E) [] (start N vs) H s1:=yN S e0 hl r x
 refine OX (ht.nox [] s1 (start N vs) H _ I hq) (λfl s' hs=>?_) λe s' hs=>hs
 have fin:∀{σ':St} {H':Hp} {v:V} {u:Value},Inv (zz ye P w K mg base N qual (av st) f cdv A outer s H E) [] σ' H' s'->RelV v u->Q v H'->CE outer P w H s Q u s':=
  λ{σ' H' v u} J rv q=>⟨v,H',J.os,J.bare,J.base,J.hok,rv,q⟩
 cases fl with
 |ret u=>
  obtain⟨v,σ',H',J,rv,q⟩:=hs
  exact fin J rv q
 |next=>
  obtain⟨σ',H',J,q⟩:=hs
  exact fin (v:=V.non) (u:=Value.none) J rfl q
 |brk=>
  obtain⟨_,_,_,q⟩:=hs
  exact False.elim q
 |cont=>
  obtain⟨_,_,_,q⟩:=hs
  exact False.elim q
def BK.u9 {x qual:Str}{st:Stmt}{f:Addr}{fd:FuncData}{N ps:List Str}{k:Nat}{sp:Sp}(F:BK K x qual st f fd)(S:aK N ps (av st))(len:∀vs H Q E,sp vs H Q E->vs.length=ps.length)
  (hbody:∀(cdv:Value) (A:Around) (outer:List Env) (s:Shared) (H:Hp) (vs:List V) (Q:VK) (E:XK),dZ k (A.deeper (envOfC qual (av st) s.heap.objs.size f cdv))->sp vs H Q E->
   ∃t,oP (kE (me P w) P w K mg base N qual (av st) f cdv A outer s H E) (bX st) t/\t {nx:=λ_ H'=>Q .non H',rt:=Q} (start N vs) H):gj P w K mg base (me P w) (k + 1) f fd ps sp:=by
 obtain⟨oc,od,kV,doc,pm,an,cdv,ct,osl,rfl,lk,hcd⟩:=F.ex
 exact GR lk hcd S len λA outer s H vs Q E hr hsp=>hbody cdv A outer s H vs Q E hr hsp
end
section
variable {X:Cx}{CX:vP}{k:Nat}{f:Addr}{fd:FuncData}{ps:List Str}{sp:Sp}{dvs:List V}{ds:List Value}{E:XK}{x:Str}{p pos:Pos}{e:Expr}{es:List Expr}{t:TA}
theorem C6 (F:r6 X.prog X.w X.K X.mg X.base CX k f fd ps sp)(hr:mq k X.A)(hg:Gl X x)(hm:X.mg x=some (.ref f))(hk:PySem.W.keepIn X.K (.ref f)=true)(hb:Binds X.K fd ps ds)(hd:Vals dvs ds)(hx:Passes CX X E)
  (ha:PA X (e :: es) t) (hdb:(x == ("__debug__":Str))=false:=by decide) (he:starEach (e :: es) X.env=(false,eval e X.env) :: starEach es X.env:=by rfl) (hpl:(backTo pos (starEach es X.env)).any (·.1)=false:=by rfl) :
  PE X (.Call (.Name x p) (e :: es) [] pos) (GQ sp dvs E t):=by
 intro pins s σ H Q I h
 refine Qr (mZ I hg hm ?_ hdb)
 refine PySem.W.callWith_K (h₀:=X.base) I.ok.mod.kin hk (cx (ha pos pins s σ H _ I h) λus s1 ⟨vs,H1,I1,r,q⟩=>⟨I1.kIn,?_⟩) he hpl
 have r2:Vals (vs ++ dvs) (us ++ ds):=r.append hd
 have hl:(us ++ ds).length=ps.length:=by rw[<-r2.length];exact F.len _ _ _ _ q
 refine wpAny_call (Pz (F.run X.A X.stack s1 H1 ⟨us,[]⟩ (us ++ ds) (vs ++ dvs) Q E hr I1.env0 (hb s1 us I1.kIn hl) r2 q) λr s' hq=>?_)
 cases r with
 |error e=>exact hx pins σ H1 s1 e s' I1 hq
 |ok fl=>
  cases fl with
  |ret u=>exact I1.after hq
  |next=>exact False.elim hq
  |brk=>exact False.elim hq
  |cont=>exact False.elim hq
end
section
variable {prog:Program}{w:World}{A:Around}{E:Value->Shared->Prop}{s:Shared}{K:Frag}{x D:Addr}{ox:Obj}
structure vV (K:Frag)(D:Addr):Prop where
 cl:(PySem.W.clsIn K D).isSome=true
 ga:PySem.W.findIn K (.ref D) "__getattribute__"=some (some (.builtin "BaseException.__getattribute__"))
 gn:PySem.W.findIn K (.ref D) "__getattr__"=some none
 cls:PySem.W.findIn K (.ref D) "__class__"=some (some (.builtin "object.__class__"))
 get:PySem.W.specialIn K (.builtin "object.__class__") "__get__"=some (some (.builtin "getset_descriptor.__get__"))
 tk:PySem.W.takesIn K (.builtin "object.__class__")=some true
 ob:PySem.W.mroIn K D (.type "object")=some true
 be:PySem.W.mroIn K D (.type "BaseException")=some true
def Ed (e:vV K D):PySem.W.findObj K D none "__class__"=some (.bind (.builtin "getset_descriptor.__get__") (.builtin "object.__class__")):=by
 obtain⟨cd,hc⟩:=PY.mp e.cl
 unfold PySem.W.findObj
 rw[hc,Option.bind_some,e.cls,Option.bind_some]
 simp[e.get,e.tk]
def Bi {Q:Unit->Shared->Prop}(e:vV K D)(X:K.In s.heap)(I:PySem.W.InstAt s.heap x ox D none)(hq:Q () s):wpAny M A (checkBuiltinCall "BaseException.__getattribute__" ⟨[.ref x,nameV],[]⟩) Q E s:=by
 have hk:builtinKind "BaseException.__getattribute__"=some .slot:=by decide +kernel
 have hsp:splitId "BaseException.__getattribute__"=some ("BaseException","__getattribute__"):=by decide +kernel
 have ha:=F.args_bexc_ga (.ref x) nameV
 have L0:=I.type (M:=M)
 have L1:=PySem.W.looks_mroIn (M:=M) X e.be
 simp only[checkBuiltinCall,hk,hsp]
 obtain⟨hh,g,d,t,os⟩:=s
 refine NA ?_
 unfold isInstance
 repeat (first
  |with_reducible refine L0.at ?_
  |with_reducible refine L1.at ?_
  |wp_step)
 exact hq
def Fm {Q:Fin->Shared->Prop}(e:vV K D)(X:K.In s.heap)(I:PySem.W.InstAt s.heap x ox D none)(hq:Q (.done (.ret (.ref D))) s):wpAny (model prog w) A (Builtin.«object.__getattribute__» ⟨[.ref x,.str "__class__" tk],[]⟩) Q E s:=by
 have L0:=I.type (M:=model prog w)
 have L1:=PySem.W.looks_find (M:=model prog w) X I (Ed e)
 obtain⟨hh,g,d,t,os⟩:=s
 repeat (any_goals (first
  |assumption
  |with_reducible refine L0.at ?_
  |with_reducible refine L1.at ?_
  |wp_step))
 exact PySem.W.class_get X I e.ob (NF hq)
def IX {Q:Value->Shared->Prop}(FB:ExcAttrFacts "ValueError")(e:vV K D)(X:K.In s.heap)(I:PySem.W.InstAt s.heap x ox D none)(hq:Q (.ref D) s):wpAny (model prog w) A (getAttrBy (.ref x) (.str "__class__" tk) false) Q E s:=by
 have f3:=FB.ga.bind (.ref x)
 have hx2:(Value.builtin "BaseException.__getattribute__" == Value.builtin "object.__getattribute__")=false:=by decide +kernel
 have hx1:(onTheHeap (Value.ref D) && Value.builtin "BaseException.__getattribute__" == Value.builtin "object.__getattribute__")=false:=by rw[hx2];rfl
 have L0:=I.type (M:=model prog w)
 have L1:=PySem.W.looks_findIn (M:=model prog w) X e.ga
 have L2:=PySem.W.looks_findIn (M:=model prog w) X e.gn
 obtain⟨hh,g,d,t,os⟩:=s
 repeat (any_goals (first
  |assumption
  |with_reducible refine L0.at ?_
  |with_reducible refine L1.at ?_
  |with_reducible refine L2.at ?_
  |wp_step))
 exact codeAny_call_builtin FB.ga.plain F.entry_bexc_ga (Bi e X I (Fm e X I (PySem.W.handed_on rfl hq)))
def DL {Q:Option Value->Shared->Prop}(FB:ExcAttrFacts "ValueError")(e:vV K D)(X:K.In s.heap)(I:PySem.W.InstAt s.heap x ox D none)(hq:Q (some (.ref D)) {s with toks:=s.toks + 1}):wpAny (model prog w) A (getAttr? (.ref x) "__class__") Q E s:=by
 unfold getAttr? getAttrBy?
 exact NA (wpAny_mkText (NA (wpAny_attempt (IX FB e X I (NF hq)))))
def ja.inst (i:ja x (.ref D) h):∃ox,PySem.W.InstAt h x ox D none:=by
 obtain⟨o,vs,a,b,c,d⟩:=i
 exact⟨o,a,b,by unfold PySem.W.notCls;rw[d],by rw[c];trivial⟩
def B7 (e:vV K D):PySem.W.KitX K (.ref x) (.ref D) (ja x (.ref D)) where
 ty:=λ_ _ _ i=>let ⟨_,I⟩:=i.inst;I.type
 it:=λ_ _ X _=>by
  obtain⟨cdD,hcD⟩:=PY.mp e.cl
  unfold PySem.W.clsIn at hcD
  split at hcD
  ·rename_i c' d' cd' sl' ho
   intro A' Q' E' s' k q
   unfold isType loadHead
   exact NA (wpAny_loadPart (k _ _ (X _ _ ho)) (NF q))
  ·cases hcD
 ne:=λh tp dd its n sl X htp=>by
  obtain⟨cdD,hcD⟩:=PY.mp e.cl
  refine Bool.eq_false_iff.mpr λq=>?_
  have e:D=tp:=Value.ref.inj (beq_iff_eq.mp q)
  subst e
  unfold PySem.W.clsIn at hcD
  split at hcD
  ·rename_i c' d' cd' sl' ho
   have z:=(X _ _ ho).symm.trans htp
   cases z
  ·cases hcD
 ca:=λX i k=>let ⟨_,I⟩:=i.inst;DL F.excAttr_ValueError e X I k
end
end L2
namespace L2
open PySem PySem.SeqAt PySem.Spec PyProof.Rows
section
variable {X:Cx}
def Lj (K:Frag):List V->Hp->VK->Prop:=λxs H Q=>∃(x D:Addr) (c:V) (C:Value) (b:Bool),xs= [.ref x,c]/\(∀u,RelV c u->u=C)/\H x=some (.ext (ja x (.ref D)))/\vV K D/\PySem.W.kitOne K (.ref D) C=some b/\Q (.bl b) H
def bL:cB X (.builtin "isinstance") (Lj X.K):=by
 intro pins s σ H xs us Q I r h
 obtain⟨x,D,c,C,b,rfl,hc,hx,e,k,q⟩:=h
 obtain⟨u,v,rfl,rx,rc⟩:=vals2 r
 cases rx
 rw[hc v rc]
 obtain⟨p,_,_⟩:=(show bN X.prog X.w H s.heap x (.ext (ja x (.ref D))) from I.hok x _ hx)
 exact OA (B7 e) I.kIn p k (λz=>nomatch z) λtk=>⟨.bl b,H,I.tok tk,rfl,q⟩
theorem lV:∀{bs:List Bool} {us:List Value},Vals (bs.map V.bl) us->us=bs.map Value.bool
 | [],_,.nil=>rfl
 |b :: bs,_,.cons r rs=>by rw[lV rs];cases r;rfl
def vM {bs:List Bool}(k:Bool)(A:Around)(s:Shared)(y:Value)(hy:y∈bs.map Value.bool):EqAt A s y (.bool k) (isBoolOf k y):=by
 obtain⟨b,_,rfl⟩:=NT.mp hy
 exact EqAt.bool_bool b k
theorem uv (k:Bool)(bs:List Bool):(bs.map Value.bool).countP (isBoolOf k)=bs.count k:=by
 induction bs with
 |nil=>rfl
 |cons b bs ih=>rw[Oq,List.countP_cons,List.count_cons,ih];cases b <;> cases k <;> rfl
def EE (K:Frag):V->List V->Hp->VK->Prop:=λx vs H Q=>∃(a:Addr) (bs:List Bool) (k:Bool),x=.ref a/\vs= [.bl k]/\fj K H a (bs.map V.bl)/\Q (.int (bs.count k:Nat)) H
def AO:Hx X "list.count" (EE X.K):=by
 intro pins s σ H x vs v us Q I rx rv h
 obtain⟨a,bs,k,rfl,rfl,hq,q⟩:=h
 cases rx
 obtain⟨u,rfl,ru⟩:=vals1 rv
 cases ru
 obtain⟨its,rs,pl,hz⟩:=I.list hq
 have hits:=lV rs
 subst hits
 obtain⟨⟨cls,dd,data,sl⟩,ho,hc,n,hd⟩:=id pl.isList
 simp only at hc hd
 subst hc hd
 refine Qg PySem.F.slot_list_count ⟨_,ho,rfl⟩ PySem.F.entry_list_count (PySem.F.args_list_count_2 _ _) (list_countAt a (bs.map Value.bool).toArray n dd sl (.bool k) (isBoolOf k)) ⟨ho,λy hy=>vM k _ _ y (by simpa using hy),?_⟩
 rw[show (bs.map Value.bool).toArray.toList=bs.map Value.bool from rfl,uv]
 exact⟨.int (bs.count k:Nat),H,I.tok _,⟨_,rfl⟩,q⟩
def EN (K:Frag):V->List V->Hp->VK->Prop:=λx vs H Q=>∃(a:Addr) (bs:List Bool) (k:Bool),x=.ref a/\vs= [.bl k]/\fj K H a (bs.map V.bl)/\k∈bs/\Q (.int (bs.idxOf k:Nat)) H
def A5:Hx X "list.index" (EN X.K):=by
 intro pins s σ H x vs v us Q I rx rv h
 obtain⟨a,bs,k,rfl,rfl,hq,hk,q⟩:=h
 cases rx
 obtain⟨u,rfl,ru⟩:=vals1 rv
 cases ru
 obtain⟨its,rs,pl,hz⟩:=I.list hq
 have hits:=lV rs
 subst hits
 obtain⟨⟨cls,dd,data,sl⟩,ho,hc,n,hd⟩:=id pl.isList
 simp only at hc hd
 subst hc hd
 have hj:bs.idxOf k < bs.length:=OU.mpr hk
 have hsz:(sizeLine:Int) < 2 ^ 63 - 1:=by decide +kernel
 rw[NM] at hz
 refine Qg PySem.F.slot_list_index ⟨_,ho,rfl⟩ PySem.F.entry_list_index (PySem.F.args_list_index_2 _ _)
  (list_indexAt a (bs.map Value.bool).toArray n dd sl (.bool k) (isBoolOf k) (bs.idxOf k) (by simpa using hj) (by omega) ?_ ?_) ⟨ho,λy hy=>vM k _ _ y (by simpa using hy),?_⟩
 ·simp[isBoolOf,Qb hj]
 ·intro m hm hlt
  have hm':m < bs.length:=by simpa using hm
  have hne:bs[m]≠k:=λz=>by
   have:=List.not_of_lt_findIdx (p:=(· == k)) hlt
   simp[z] at this
  simpa[isBoolOf] using hne
 ·exact⟨.int (bs.idxOf k:Nat),H,I.tok _,⟨_,rfl⟩,q⟩
end
end L2
namespace L2
open PySem PySem.Spec PyProof.Rows
section
variable {X:Cx}
def sy (hu:X.A.units + 100 < cLine):kg X (compareOp .NotIn) (KJ X.K true):=by
 intro pins s σ H x y v u Q I rx ry h
 obtain⟨p,xs,d,ds,rfl,hq,hs,hx,s1,s2,q⟩:=h
 cases ry
 obtain⟨bs,r2⟩:=hx.reads I rx
 have key:∀{e:PyData} {as:List Addr} {u:Value},SeqAt.shaped e=true->Reads s.heap u e as->SeqAt.EqAt X.A.in1 s u v (PyData.eqv e d):=λ{e as u} h1 h2=>by
  refine SeqAt.eqAt_reads _ _ _ _ _ _ _ _ h2 r2 (Qd h1) (Qd s1) ?_
  have:=SeqAt.depth_of_shaped h1
  show X.A.units + 1 + _ < _
  omega
 rcases hq with hq |hq
 ·obtain⟨its,r,pl,hz⟩:=I.list hq
  obtain⟨f,e1,e2⟩:=v3 I d r hs s2
  refine SeqAt.notIn_listAt f pl.isList (λw hw=>?_) ⟨.bl _,H,I,rfl,?_⟩
  ·obtain⟨e,as,hm,rd,ef⟩:=e2 w (by simpa using hw)
   rw[ef];exact key (s2 e hm) rd
  ·rw[show its.toArray.any f=its.any f by simp,e1];exact q
 ·obtain⟨its,r,pl,hz⟩:=I.tuple hq
  obtain⟨f,e1,e2⟩:=v3 I d r hs s2
  refine SeqAt.notIn_tupleAt f pl (λw hw=>?_) ⟨.bl _,H,I,rfl,?_⟩
  ·obtain⟨e,as,hm,rd,ef⟩:=e2 w (by simpa using hw)
   rw[ef];exact key (s2 e hm) rd
  ·rw[show its.toArray.any f=its.any f by simp,e1];exact q
end
abbrev D:=PyData
def kD:Key->D
 | .inl i=>.int i
 | .inr x=>.str x
mutual
inductive Rp (K:Frag)(G:Hp):V->D->Prop
 |non:Rp K G .non .none
 |bl (b:Bool):Rp K G (.bl b) (.bool b)
 |int (i:Int):Rp K G (.int i) (.int i)
 |str (x:Str):Rp K G (.str x) (.str x)
 |tup {a:Addr} {xs:List V} {ds:List D}:dU K G a xs->cc K G xs ds->Rp K G (.ref a) (.tuple ds)
 |lst {a:Addr} {xs:List V} {ds:List D}:G a=some (.lst xs)->cc K G xs ds->Rp K G (.ref a) (.list ds)
 |scr {a:Addr} {ns:List Int}:fj K G a (ns.map V.int)->Rp K G (.ref a) (.dict [(.none,.list (ns.map int))])
 |dK {a:Addr} {kvs:List (Key×V)} {ds:List (D×D)}:G a=some (.dK kvs)->BL K G kvs ds->Rp K G (.ref a) (.dict ds)
 |dT {a:Addr} {kvs:List (List Key×V)} {ds:List (D×D)}:G a=some (.dT kvs)->BJ K G kvs ds->Rp K G (.ref a) (.dict ds)
inductive cc (K:Frag)(G:Hp):List V->List D->Prop
 |nil:cc K G [] []
 |cons {x:V} {xs:List V} {d:D} {ds:List D}:Rp K G x d->cc K G xs ds->cc K G (x :: xs) (d :: ds)
inductive BL (K:Frag)(G:Hp):List (Key×V)->List (D×D)->Prop
 |nil:BL K G [] []
 |cons {k:Key} {x:V} {xs:List (Key×V)} {d:D} {ds:List (D×D)}:Rp K G x d->BL K G xs ds->BL K G ((k,x) :: xs) ((kD k,d) :: ds)
inductive BJ (K:Frag)(G:Hp):List (List Key×V)->List (D×D)->Prop
 |nil:BJ K G [] []
 |cons {k:List Key} {x:V} {xs:List (List Key×V)} {d:D} {ds:List (D×D)}:Rp K G x d->BJ K G xs ds->BJ K G ((k,x) :: xs) ((.tuple (k.map kD),d) :: ds)
end
section
variable {K:Frag}{G G' H H':Hp}
def Rd.mono (h:Rd G a u)(s:aw G G'):Rd G' a u:=h.elim (λe=>.inl (s _ _ e)) λ⟨o,e⟩=>.inr ⟨o,s _ _ e⟩
mutual
theorem Rp.mono (s:aw G G'):∀{x:V} {d:D},Rp K G x d->Rp K G' x d
 |_,_,.non=>.non
 |_,_,.bl b=>.bl b
 |_,_,.int i=>.int i
 |_,_,.str x=>.str x
 |_,_,.tup h hs=>.tup (h.grow s.grow) (cc.mono s hs)
 |_,_,.lst h hs=>.lst (s _ _ h) (cc.mono s hs)
 |_,_,.scr h=>.scr (s.seq h)
 |_,_,.dK h hs=>.dK (s _ _ h) (BL.mono s hs)
 |_,_,.dT h hs=>.dT (s _ _ h) (BJ.mono s hs)
theorem cc.mono (s:aw G G'):∀{xs:List V} {ds:List D},cc K G xs ds->cc K G' xs ds
 |_,_,.nil=>.nil
 |_,_,.cons h hs=>.cons (Rp.mono s h) (cc.mono s hs)
theorem BL.mono (s:aw G G'):∀{xs:List (Key×V)} {ds:List (D×D)},BL K G xs ds->BL K G' xs ds
 |_,_,.nil=>.nil
 |_,_,.cons h hs=>.cons (Rp.mono s h) (BL.mono s hs)
theorem BJ.mono (s:aw G G'):∀{xs:List (List Key×V)} {ds:List (D×D)},BJ K G xs ds->BJ K G' xs ds
 |_,_,.nil=>.nil
 |_,_,.cons h hs=>.cons (Rp.mono s h) (BJ.mono s hs)
end
theorem cc.len:∀{xs:List V} {ds:List D},cc K G xs ds->xs.length=ds.length
 |_,_,.nil=>rfl
 |_,_,.cons _ t=>by simp[cc.len t]
theorem cc.at:∀{xs:List V} {ds:List D} {i:Nat} {d:D},cc K G xs ds->ds[i]? =some d->∃x,xs[i]? =some x/\Rp K G x d
 |_,_,_,_,.nil,e=>by simp at e
 |_,_,0,_,.cons r _,e=>by simp at e;subst e;exact⟨_,rfl,r⟩
 |_,_,i + 1,x,.cons _ t,e=>by
  obtain⟨u,h1,h2⟩:=cc.at (i:=i) (d:=x) t (by simpa using e)
  exact⟨u,by simpa using h1,h2⟩
theorem cc.at':∀{xs:List V} {ds:List D} {i:Nat} {x:V},cc K G xs ds->xs[i]? =some x->∃d,ds[i]? =some d/\Rp K G x d
 |_,_,_,_,.nil,e=>by simp at e
 |_,_,0,_,.cons r _,e=>by simp at e;subst e;exact⟨_,rfl,r⟩
 |_,_,i + 1,x,.cons _ t,e=>by
  obtain⟨u,h1,h2⟩:=cc.at' (i:=i) (x:=x) t (by simpa using e)
  exact⟨u,by simpa using h1,h2⟩
theorem cc.append:∀{xs ys:List V} {ds es:List D},cc K G xs ds->cc K G ys es->cc K G (xs ++ ys) (ds ++ es)
 |_,_,_,_,.nil,s=>s
 |_,_,_,_,.cons r t,s=>.cons r (cc.append t s)
def cc.snoc (h:cc K G xs ds)(q:Rp K G x d):cc K G (xs ++ [x]) (ds ++ [d]):=h.append (.cons q .nil)
theorem cc.take:∀{xs:List V} {ds:List D} (n:Nat),cc K G xs ds->cc K G (xs.take n) (ds.take n)
 |_,_,0,_=>.nil
 |_,_,_ + 1,.nil=>.nil
 |_,_,n + 1,.cons r t=>.cons r (cc.take n t)
theorem cc.drop:∀{xs:List V} {ds:List D} (n:Nat),cc K G xs ds->cc K G (xs.drop n) (ds.drop n)
 |_,_,0,r=>r
 |_,_,_ + 1,.nil=>.nil
 |_,_,n + 1,.cons _ t=>cc.drop n t
theorem cc.set (r:Rp K G x d):∀{xs:List V} {ds:List D} (i:Nat),cc K G xs ds->cc K G (xs.set i x) (ds.set i d)
 |_,_,_,.nil=>.nil
 |_,_,0,.cons _ t=>.cons r t
 |_,_,i + 1,.cons q t=>.cons q (cc.set r i t)
theorem cc.rep (h:cc K G xs ds):cc K G (List.replicate n xs).flatten (List.replicate n ds).flatten:=by
 induction n with
 |zero=>exact .nil
 |succ n ih=>rw[Oy,Oy,O8,O8];exact h.append ih
mutual
def CS:D->Bool
 | .dict _=>false
 | .list ds=>rA ds
 | .tuple ds=>rA ds
 |_=>true
def rA:List D->Bool
 | []=>true
 |d :: ds=>CS d && rA ds
end
mutual
theorem Rp.rep:∀{x:V} {d:D},Rp K G x d->CS d=true->Rep K G x d
 |_,_,.non,_=>.non
 |_,_,.bl b,_=>.bl b
 |_,_,.int i,_=>.int i
 |_,_,.str x,_=>.str x
 |_,_,.tup h hs,e=>.tup h (cc.reps hs (by simpa[CS] using e))
 |_,_,.lst h hs,e=>.lst (.inl (.inl h)) (cc.reps hs (by simpa[CS] using e))
 |_,_,.scr _,e=>by simp[CS] at e
 |_,_,.dK _ _,e=>by simp[CS] at e
 |_,_,.dT _ _,e=>by simp[CS] at e
theorem cc.reps:∀{xs:List V} {ds:List D},cc K G xs ds->rA ds=true->kG K G xs ds
 |_,_,.nil,_=>.nil
 |_,_,.cons h hs,e=>.cons (Rp.rep h (by simp[rA] at e;exact e.1)) (cc.reps hs (by simp[rA] at e;exact e.2))
end
def Own (K:Frag)(G H:Hp)(a:Addr):D->Prop
 | .list ds=>∃xs,H a=some (.lst xs)/\cc K G xs ds
 | .dict ds=>(∃kvs,H a=some (.dK kvs)/\BL K G kvs ds)\/∃kvs,H a=some (.dT kvs)/\BJ K G kvs ds
 |_=>False
def Own.obj (h:Own K G H a d):∃o,H a=some o:=by
 cases d <;> first |exact h.elim |skip
 ·obtain⟨xs,e,_⟩:=h;exact⟨_,e⟩
 ·rcases h with⟨_,e,_⟩ | ⟨_,e,_⟩ <;> exact⟨_,e⟩
def Own.mono (h:Own K G H a d)(s:aw G G')(m:∀o,H a=some o->H' a=some o):Own K G' H' a d:=by
 cases d <;> first |exact h.elim |skip
 ·obtain⟨xs,e,r⟩:=h;exact⟨xs,m _ e,r.mono s⟩
 ·rcases h with⟨k,e,r⟩ | ⟨k,e,r⟩
  ·exact .inl ⟨k,m _ e,r.mono s⟩
  ·exact .inr ⟨k,m _ e,r.mono s⟩
def Own.rp (h:Own K G H a d)(n:G a=none){G':Hp}(s:aw G G')(e:∀o,H a=some o->G' a=some o):Rp K G' (.ref a) d:=by
 cases d <;> first |exact h.elim |skip
 ·obtain⟨xs,q,r⟩:=h;exact .lst (e _ q) (r.mono s)
 ·rcases h with⟨k,q,r⟩ | ⟨k,q,r⟩
  ·exact .dK (e _ q) (r.mono s)
  ·exact .dT (e _ q) (r.mono s)
def lW (K:Frag)(B:Option Addr)(G H:Hp)(v:V)(d:D):Prop:=Rp K G v d\/∃a,v=.ref a/\B≠some a/\Own K G H a d
def iy (B:Option Addr)(H H':Hp):Prop:=∀b o,H b=some o->B≠some b->H' b=some o
def iy.refl (B:Option Addr)(H:Hp):iy B H H:=λ_ _ h _=>h
def iy.trans {B:Option Addr}(x:iy B H H1)(y:iy B H1 H'):iy B H H':=λb o h n=>y b o (x b o h n) n
def aw.mov (s:aw H H')(B:Option Addr):iy B H H':=λb o h _=>s b o h
def lW.mono {B:Option Addr}(h:lW K B G H v d)(s:aw G G')(m:iy B H H'):lW K B G' H' v d:=by
 rcases h with h | ⟨a,e,n,h⟩
 ·exact .inl (h.mono s)
 ·exact .inr ⟨a,e,n,h.mono s λo q=>m a o q n⟩
def lW.rpH {B:Option Addr}(h:lW K B G H v d)(s:aw G H):Rp K H v d:=by
 rcases h with h | ⟨a,rfl,n,h⟩
 ·exact h.mono s
 ·cases d <;> first |exact h.elim |skip
  ·obtain⟨xs,q,r⟩:=h;exact .lst q (r.mono s)
  ·rcases h with⟨k,q,r⟩ | ⟨k,q,r⟩
   ·exact .dK q (r.mono s)
   ·exact .dT q (r.mono s)
def lW.list {B:Option Addr}(h:lW K B G H v (.list ds))(s:aw G H):∃a xs,v=.ref a/\Rd H a (.lst xs)/\cc K G xs ds:=by
 rcases h with h | ⟨a,rfl,n,xs,q,r⟩
 ·cases h with
  |lst h r=>exact⟨_,_,rfl,.inl (s _ _ h),r⟩
 ·exact⟨a,xs,rfl,.inl q,r⟩
def lW.tuple {B:Option Addr}(h:lW K B G H v (.tuple ds))(s:aw G H):∃a xs,v=.ref a/\dU K H a xs/\cc K G xs ds:=by
 rcases h with h | ⟨a,rfl,n,h⟩
 ·cases h with
  |tup h r=>exact⟨_,_,rfl,h.grow s.grow,r⟩
 ·exact h.elim
def lW.int {B:Option Addr}(h:lW K B G H v (.int i)):v=.int i:=by
 rcases h with h | ⟨a,rfl,n,h⟩
 ·cases h;rfl
 ·exact h.elim
def lW.bool {B:Option Addr}(h:lW K B G H v (.bool b)):v=.bl b:=by
 rcases h with h | ⟨a,rfl,n,h⟩
 ·cases h;rfl
 ·exact h.elim
def lW.str {B:Option Addr}(h:lW K B G H v (.str x)):v=.str x:=by
 rcases h with h | ⟨a,rfl,n,h⟩
 ·cases h;rfl
 ·exact h.elim
def lW.none {B:Option Addr}(h:lW K B G H v .none):v=.non:=by
 rcases h with h | ⟨a,rfl,n,h⟩
 ·cases h;rfl
 ·exact h.elim
end
def Fz:HO->Prop
 | .tup _=>True
 | .bt _ _=>True
 |_=>False
def Mx (H:Hp)(b:Addr):Prop:=H b≠none/\∀o,H b=some o->¬Fz o
def Mx.lst {H:Hp}(h:H b=some (.lst xs)):Mx H b:=⟨by rw[h];simp,λys z=>by rw[h] at z;cases z;exact λy=>y⟩
theorem Mx.same {H H':Hp}(h:Mx H b)(m:∀o,H b=some o->H' b=some o):Mx H' b:=by
 obtain⟨h1,h2⟩:=h
 cases e:H b with
 |none=>exact absurd e h1
 |some o=>
  refine⟨by rw[m o e];simp,λxs z=>?_⟩
  rw[m o e] at z
  cases z
  exact h2 o e
def Own.mx {K:Frag}{G H:Hp}(h:Own K G H a d):Mx H a:=by
 cases d <;> first |exact h.elim |skip
 ·obtain⟨xs,e,_⟩:=h;exact Mx.lst e
 ·rcases h with⟨k,e,_⟩ | ⟨k,e,_⟩ <;> exact⟨by rw[e];simp,λys z=>by rw[e] at z;cases z;exact λy=>y⟩
open Classical in
noncomputable def ml (G H:Hp):Hp:=λb=>match G b with
 |some o=>some o
 |none=>match H b with
  |some o=>if Fz o then some o else none
  |none=>none
def sd {G H:Hp}:aw G (ml G H):=λb o e=>by unfold ml;rw[e]
theorem zf {G H:Hp}(s:aw G H)(e:H b=some o)(f:Fz o):ml G H b=some o:=by
 unfold ml
 cases q:G b with
 |some u=>have:=s b u q;rw[e] at this;cases this;rfl
 |none=>simp only[e];rw[NG f]
theorem vS {G H:Hp}(s:aw G H):aw (ml G H) H:=λb o e=>by
 unfold ml at e
 cases q:G b with
 |some u=>rw[q] at e;cases e;exact s b _ q
 |none=>
  rw[q] at e
  cases q2:H b with
  |none=>rw[q2] at e;cases e
  |some u=>
   rw[q2] at e
   dsimp only at e
   split at e
   ·cases e;rfl
   ·cases e
theorem Ab {G H H':Hp}(hh:aw H H')(m:Mx H b):ml G H' b=G b:=by
 unfold ml
 cases q:G b with
 |some u=>rfl
 |none=>
  obtain⟨h1,h2⟩:=m
  cases e:H b with
  |none=>exact absurd e h1
  |some o=>
   simp only[hh b o e]
   rw[NL (h2 o e)]
def qQ {K:Frag}{G H:Hp}(s:aw G H)(h:dU K H a xs):dU K (ml G H) a xs:=by
 rcases h with (h | ⟨o,h⟩) |h
 ·exact .inl (.inl (zf s h trivial))
 ·exact .inl (.inr ⟨o,zf s h trivial⟩)
 ·exact .inr h
structure Fx where
 K:Frag
 H0:Hp
 G0:Hp
 par:List Addr
 ca:Str->Addr
 br:Nat->Bool
 bx:Option Addr
inductive Sl where
 |no |fz (d:D) |ow (d:D) |bx |br (d:D)
abbrev En:=List Sl
inductive Nv where
 |no |da (d:D) |bx
def Sl.val:Sl->Nv
 | .no=>.no
 | .fz d=>.da d
 | .ow d=>.da d
 | .br d=>.da d
 | .bx=>.bx
def vl (env:En):List Nv:=env.map Sl.val
def Mw (Γ:Fx)(B:Option Addr)(G H:Hp)(i:Nat)(o:Option (Option V)):Sl->Prop
 | .no=>True
 | .fz d=>∃v,o=some (some v)/\Rp Γ.K G v d
 | .ow d=>∃a,o=some (some (.ref a))/\Γ.H0 a=none/\G a=none/\B≠some a/\Own Γ.K G H a d
 | .bx=>∃a,o=some (some (.ref a))/\B=some a
 | .br d=>Γ.br i=true/\∃a,o=some (some (.ref a))/\B≠some a/\a∉Γ.par/\Own Γ.K G H a d
structure SR (Γ:Fx)(B:Option Addr)(G H:Hp)(σ:St)(env:En)(β:Int):Prop where
 sub:aw G H
 old:aw Γ.G0 G
 new:∀b,Mx Γ.H0 b->Γ.G0 b=none->G b=none
 keep:∀b o,Γ.H0 b=some o->b∉Γ.par->H b=some o
 pin:∀b,b∈Γ.par->Mx H b
 fix:∀b,Γ.bx=some b->B=some b
 box:∀b,B=some b->H b=some (.lst [.int β])/\G b=none/\(b∈Γ.par\/Γ.H0 b=none)
 len:σ.length=env.length
 slot:∀(i:Nat) (s:Sl),env[i]? =some s->Mw Γ B G H i (σ[i]?) s
 sep:∀(i j:Nat) (a:Addr) (d e:D),env[i]? =some (.ow d)->env[j]? =some (.ow e)->σ[i]? =some (some (.ref a))->σ[j]? =some (some (.ref a))->i=j
structure Ext (G H G' H':Hp):Prop where
 hh:aw H H'
 gg:aw G G'
 gh:aw G' H'
 on:∀b,Mx H b->G' b=G b
def Ext.refl {G H:Hp}(s:aw G H):Ext G H G H:=⟨aw.refl _,aw.refl _,s,λ_ _=>rfl⟩
def Ext.tups {G H H':Hp}(s:aw G H)(hh:aw H H'):Ext G H (ml G H') H':=⟨hh,sd,vS (s.trans hh),λ_ m=>Ab hh m⟩
def Ext.new {G H:Hp}(s:aw G H)(h:H p=none):Ext G H (upd G p o) (upd H p o):=by
 refine⟨aw.new h,aw.new (s.free h),λb u e=>?_,λb hb=>?_⟩
 ·by_cases z:b=p
  ·subst z;rw[au] at e ⊢;exact e
  ·rw[aB z] at e ⊢;exact s b u e
 ·exact aB (λz=>hb.1 (by rw[z];exact h))
def Ext.own {G H:Hp}(s:aw G H)(h:H p=none):Ext G H G (upd H p o):=
 ⟨aw.new h,aw.refl _,s.trans (aw.new h),λ_ _=>rfl⟩
def Ext.trans {G H G1 H1 G2 H2:Hp}(x:Ext G H G1 H1)(y:Ext G1 H1 G2 H2):Ext G H G2 H2:=by
 refine⟨x.hh.trans y.hh,x.gg.trans y.gg,y.gh,λb hb=>?_⟩
 rw[y.on b (hb.same λo e=>x.hh b o e),x.on b hb]
section
variable {Γ:Fx}{B:Option Addr}{G H G' H':Hp}{σ:St}{env:En}{β:Int}
def SR.there (I:SR Γ B G H σ env β)(h:Γ.H0 b≠none):H b≠none:=by
 by_cases hp:b∈Γ.par
 ·exact (I.pin b hp).1
 ·cases e:Γ.H0 b with
  |none=>exact absurd e h
  |some o=>rw[I.keep b o e hp];simp
def SR.thereM (I:SR Γ B G H σ env β)(h:Mx Γ.H0 b):Mx H b:=by
 by_cases hp:b∈Γ.par
 ·exact I.pin b hp
 ·exact h.same λo e=>I.keep b o e hp
def SR.ext (I:SR Γ B G H σ env β)(x:Ext G H G' H'):SR Γ B G' H' σ env β:=by
 refine⟨x.gh,I.old.trans x.gg,λb h1 h2=>?_,λb o h1 h2=>x.hh b o (I.keep b o h1 h2),λb hb=>?_,I.fix,λb e=>?_,I.len,λi s e=>?_,I.sep⟩
 ·rw[x.on b (I.thereM h1)];exact I.new b h1 h2
 ·exact (I.pin b hb).same λo e=>x.hh b o e
 ·obtain⟨h1,h2,h3⟩:=I.box b e
  exact⟨x.hh b _ h1,by rw[x.on b (Mx.lst h1)];exact h2,h3⟩
 ·have q:=I.slot i s e
  cases s with
  |no=>trivial
  |fz d=>obtain⟨v,h1,h2⟩:=q;exact⟨v,h1,h2.mono x.gg⟩
  |ow d=>
   obtain⟨a,h1,h2,h3,h4,h5⟩:=q
   exact⟨a,h1,h2,by rw[x.on a h5.mx];exact h3,h4,h5.mono x.gg λo q=>x.hh a o q⟩
  |bx=>exact q
  |br d=>obtain⟨b1,a,h1,h4,hp,h5⟩:=q;exact⟨b1,a,h1,h4,hp,h5.mono x.gg λo q=>x.hh a o q⟩
def jj (env:En)(i:Nat):En:=match env[i]? with
 |some (.ow d)=>env.set i (.fz d)
 |_=>env
def bt (L:List Nat)(env:En):En:=L.foldl jj env
def cw (L M:List Nat)(env:En):bt (L ++ M) env=bt M (bt L env):=by unfold bt;rw[List.foldl_append]
def xw (env:En)(i:Nat)(s:Sl)(h:∀t,env[i]? =some t->t.val=s.val):vl (env.set i s)=vl env:=by
 unfold vl
 apply QA
 intro j
 rw[NP,NP,List.getElem?_set]
 by_cases e:i=j
 ·subst e
  by_cases hi:i < env.length
  ·simp only[OR,hi]
   have:=h _ (NC hi)
   simp[NC hi,this]
  ·simp only[OR,hi,Ou]
   rw[Pg (by omega)]
 ·simp[e]
def Gq (env:En)(i:Nat):vl (jj env i)=vl env:=by
 unfold jj
 split
 ·rename_i d e
  exact xw _ _ _ λt ht=>by rw[e] at ht;cases ht;rfl
 ·rfl
theorem fg (L:List Nat)(env:En):vl (bt L env)=vl env:=by
 unfold bt
 induction L generalizing env with
 |nil=>rfl
 |cons i L ih=>rw[Qo,ih,Gq]
theorem Hg {i:Nat}{d:D}(h:(vl env)[i]? =some (.da d)):env[i]? =some (.fz d)\/env[i]? =some (.ow d)\/env[i]? =some (.br d):=by
 unfold vl at h
 rw[NP] at h
 cases e:env[i]? with
 |none=>rw[e] at h;simp at h
 |some s=>
  rw[e] at h
  cases s with
  |no=>simp[Sl.val] at h
  |fz d'=>simp[Sl.val] at h;subst h;exact .inl rfl
  |ow d'=>simp[Sl.val] at h;subst h;exact .inr (.inl rfl)
  |bx=>simp[Sl.val] at h
  |br d'=>simp[Sl.val] at h;subst h;exact .inr (.inr rfl)
theorem Kt {i:Nat}(h:(vl env)[i]? =some .bx):env[i]? =some .bx:=by
 unfold vl at h
 rw[NP] at h
 cases e:env[i]? with
 |none=>rw[e] at h;simp at h
 |some s=>
  rw[e] at h
  cases s with
  |bx=>rfl
  |_=>simp[Sl.val] at h
def SR.freeze (I:SR Γ B G H σ env β)(i:Nat)(hb:Γ.br i=false){d:D}(h:(vl env)[i]? =some (.da d)):∃G' v,SR Γ B G' H σ (jj env i) β/\aw G G'/\σ[i]? =some (some v)/\Rp Γ.K G' v d:=by
 rcases Hg h with e |e |e
 ·obtain⟨v,h1,h2⟩:=I.slot i _ e
  exact⟨G,v,by unfold jj;rw[e];exact I,aw.refl _,h1,h2⟩
 rotate_left
 ·obtain⟨z,_⟩:=I.slot i _ e
  rw[hb] at z;cases z
 ·obtain⟨a,h1,h2,h3,h4,h5⟩:=I.slot i _ e
  obtain⟨o,ho⟩:=h5.obj
  have sG:aw G (upd G a o):=aw.new h3
  have hi:i < env.length:=(NV.mp e).1
  have hr:Rp Γ.K (upd G a o) (.ref a) d:=h5.rp h3 sG λo' q=>by rw[ho] at q;cases q;exact au
  refine⟨upd G a o,.ref a,?_,sG,h1,hr⟩
  unfold jj
  rw[e]
  refine⟨λb u q=>?_,I.old.trans sG,λb n1 n2=>?_,I.keep,I.pin,I.fix,λb q=>?_,by rw[OL];exact I.len,λj s q=>?_,λj k c d1 d2 q1 q2 q3 q4=>?_⟩
  ·by_cases z:b=a
   ·subst z;rw[au] at q;cases q;exact ho
   ·rw[aB z] at q;exact I.sub b u q
  ·rw[aB (λz=>n1.1 (by rw[z];exact h2))];exact I.new b n1 n2
  ·obtain⟨k1,k2,k3⟩:=I.box b q
   exact⟨k1,by rw[aB (λz=>h4 (by rw[<-z];exact q))];exact k2,k3⟩
  ·by_cases z:j=i
   ·subst z
    rw[NW hi] at q
    cases q
    exact⟨.ref a,h1,hr⟩
   ·rw[NX (Ne.symm z)] at q
    have w:=I.slot j s q
    cases s with
    |no=>trivial
    |fz d'=>obtain⟨v,w1,w2⟩:=w;exact⟨v,w1,w2.mono sG⟩
    |ow d'=>
     obtain⟨c,w1,w2,w3,w4,w5⟩:=w
     have ca:c≠a:=λz2=>z (I.sep j i c d' d q e w1 (by rw[z2];exact h1))
     exact⟨c,w1,w2,by rw[aB ca];exact w3,w4,w5.mono sG λo q=>q⟩
    |bx=>exact w
    |br d'=>obtain⟨b1,c,w1,w4,wp,w5⟩:=w;exact⟨b1,c,w1,w4,wp,w5.mono sG λo q=>q⟩
  ·have ne:∀{j:Nat} {d':D},(env.set i (Sl.fz d))[j]? =some (.ow d')->env[j]? =some (.ow d'):=λ{j d'} q=>by
    by_cases z:j=i
    ·subst z;rw[NW hi] at q;cases q
    ·rw[NX (Ne.symm z)] at q;exact q
   exact I.sep j k c d1 d2 (ne q1) (ne q2) q3 q4
theorem SR.bt (I:SR Γ B G H σ env β)(L:List Nat)(hb:∀i,i∈L->Γ.br i=false):∃G',SR Γ B G' H σ (bt L env) β/\aw G G':=by
 induction L generalizing env G with
 |nil=>exact⟨G,I,aw.refl _⟩
 |cons i L ih=>
  show ∃G',SR Γ B G' H σ (L2.bt L (jj env i)) β/\aw G G'
  have key:∃G1,SR Γ B G1 H σ (jj env i) β/\aw G G1:=by
   cases e:env[i]? with
   |none=>exact⟨G,by unfold jj;rw[e];exact I,aw.refl _⟩
   |some s=>
    cases s with
    |ow d=>
     obtain⟨G1,v,h1,h2,_⟩:=I.freeze i (hb i (NN ..)) (d:=d) (by unfold vl;rw[NP,e];rfl)
     exact⟨G1,h1,h2⟩
    |_=>exact⟨G,by unfold jj;rw[e];exact I,aw.refl _⟩
  obtain⟨G1,I1,s1⟩:=key
  obtain⟨G2,I2,s2⟩:=ih I1 λj hj=>hb j (NJ _ hj)
  exact⟨G2,I2,s1.trans s2⟩
def SR.set (I:SR Γ B G H σ env β)(hi:i < env.length)(h:Rp Γ.K G v d):SR Γ B G H (σ.set i (some v)) (env.set i (.fz d)) β:=by
 have hs:i < σ.length:=by rw[I.len];exact hi
 refine⟨I.sub,I.old,I.new,I.keep,I.pin,I.fix,I.box,by rw[OL,OL];exact I.len,λj s q=>?_,λj k c d1 d2 q1 q2 q3 q4=>?_⟩
 ·by_cases z:j=i
  ·subst z
   rw[NW hi] at q
   cases q
   exact⟨v,by rw[NW hs],h⟩
  ·rw[NX (Ne.symm z)] at q ⊢
   exact I.slot j s q
 ·have ne:∀{j:Nat} {d':D},(env.set i (Sl.fz d))[j]? =some (.ow d')->j≠i/\env[j]? =some (.ow d'):=λ{j d'} q=>by
   by_cases z:j=i
   ·subst z;rw[NW hi] at q;cases q
   ·rw[NX (Ne.symm z)] at q;exact⟨z,q⟩
  obtain⟨n1,e1⟩:=ne q1
  obtain⟨n2,e2⟩:=ne q2
  rw[NX (Ne.symm n1)] at q3
  rw[NX (Ne.symm n2)] at q4
  exact I.sep j k c d1 d2 e1 e2 q3 q4
def SR.setOw (I:SR Γ B G H σ env β)(hi:i < env.length)(h0:Γ.H0 a=none)(hg:G a=none)(hb:B≠some a)(h:Own Γ.K G H a d)(hn:∀(j:Nat) (d':D),env[j]? =some (.ow d')->j≠i->σ[j]?≠some (some (.ref a))):SR Γ B G H (σ.set i (some (.ref a))) (env.set i (.ow d)) β:=by
 have hs:i < σ.length:=by rw[I.len];exact hi
 refine⟨I.sub,I.old,I.new,I.keep,I.pin,I.fix,I.box,by rw[OL,OL];exact I.len,λj s q=>?_,λj k c d1 d2 q1 q2 q3 q4=>?_⟩
 ·by_cases z:j=i
  ·subst z
   rw[NW hi] at q
   cases q
   exact⟨a,by rw[NW hs],h0,hg,hb,h⟩
  ·rw[NX (Ne.symm z)] at q ⊢
   exact I.slot j s q
 ·by_cases z1:j=i
  ·by_cases z2:k=i
   ·rw[z1,z2]
   ·subst z1
    rw[NX (Ne.symm z2)] at q2 q4
    rw[NW hs] at q3
    cases q3
    exact absurd q4 (hn k d2 q2 z2)
  ·by_cases z2:k=i
   ·subst z2
    rw[NX (Ne.symm z1)] at q1 q3
    rw[NW hs] at q4
    cases q4
    exact absurd q3 (hn j d1 q1 z1)
   ·rw[NX (Ne.symm z1)] at q1 q3
    rw[NX (Ne.symm z2)] at q2 q4
    exact I.sep j k c d1 d2 q1 q2 q3 q4
def SR.fresh (I:SR Γ B G H σ env β)(h:H a=none):Γ.H0 a=none/\G a=none/\B≠some a/\∀(j:Nat) (d:D),env[j]? =some (.ow d)->σ[j]?≠some (some (.ref a)):=by
 have hB:B≠some a:=λz=>by rw[(I.box a z).1] at h;cases h
 refine⟨?_,I.sub.free h,hB,λj d e z=>?_⟩
 ·cases e:Γ.H0 a with
  |none=>rfl
  |some o=>exact absurd h (I.there (by rw[e];simp))
 ·obtain⟨c,h1,_,_,_,h5⟩:=I.slot j _ e
  rw[z] at h1
  cases h1
  obtain⟨o,ho⟩:=h5.obj
  rw[h] at ho;cases ho
def SR.write (I:SR Γ B G H σ env β)(hb:∀j,Γ.br j=false)(e:env[i]? =some (.ow d))(ea:σ[i]? =some (some (.ref a)))(h:∀H',H' a=some o->aw G H'->Own Γ.K G H' a d'):SR Γ B G (upd H a o) σ (env.set i (.ow d')) β:=by
 obtain⟨a',h1,h2,h3,h4,h5⟩:=I.slot i _ e
 rw[ea] at h1;cases h1
 have hi:i < env.length:=(NV.mp e).1
 have sub:aw G (upd H a o):=λb u q=>by rw[aB (λz=>by rw[z,h3] at q;cases q)];exact I.sub b u q
 refine⟨sub,I.old,I.new,λb u q n=>?_,λb q=>?_,I.fix,λb q=>?_,by rw[OL];exact I.len,λj s q=>?_,λj k c d1 d2 q1 q2 q3 q4=>?_⟩
 ·rw[aB (λz=>by rw[z,h2] at q;cases q)];exact I.keep b u q n
 ·by_cases z:b=a
  ·subst z;exact (h _ au sub).mx
  ·exact (I.pin b q).same λo e=>by rw[aB z];exact e
 ·obtain⟨k1,k2,k3⟩:=I.box b q
  exact⟨by rw[aB (λz=>h4 (by rw[<-z];exact q))];exact k1,k2,k3⟩
 ·by_cases z:j=i
  ·subst z
   rw[NW hi] at q
   cases q
   exact⟨a,ea,h2,h3,h4,h _ au sub⟩
  ·rw[NX (Ne.symm z)] at q
   have w:=I.slot j s q
   cases s with
   |no=>trivial
   |fz d1=>exact w
   |ow d1=>
    obtain⟨c,w1,w2,w3,w4,w5⟩:=w
    have ca:c≠a:=λz2=>z (I.sep j i c d1 d q e w1 (by rw[z2];exact ea))
    exact⟨c,w1,w2,w3,w4,w5.mono (aw.refl _) λo q=>by rw[aB ca];exact q⟩
   |bx=>exact w
   |br d1=>obtain⟨b1,_⟩:=w;rw[hb j] at b1;cases b1
 ·have back:∀{j:Nat} {d1:D},(env.set i (Sl.ow d'))[j]? =some (.ow d1)->∃d2,env[j]? =some (.ow d2):=λ{j d1} q=>by
   by_cases z:j=i
   ·subst z;exact⟨d,e⟩
   ·rw[NX (Ne.symm z)] at q;exact⟨d1,q⟩
  obtain⟨_,b1⟩:=back q1
  obtain⟨_,b2⟩:=back q2
  exact I.sep j k c _ _ b1 b2 q3 q4
end
inductive R (α:Type) where
 |ok (a:α) (β:Int)
 |exc (c:Str)
 |bad
def R.bnd {α γ:Type}(r:R α)(k:α->Int->R γ):R γ:=match r with
 | .ok a β=>k a β
 | .exc c=>.exc c
 | .bad=>.bad
def R.of {α:Type}(o:Option α)(β:Int):R α:=match o with
 |some a=>.ok a β
 |none=>.bad
abbrev VF (α:Type):=List Nv->Int->R α
def Kp (Γ:Fx)(H':Hp):Prop:=∀b o,Γ.H0 b=some o->b∉Γ.par->H' b=some o
def Out {α:Type}(Γ:Fx)(E:XK)(r:R α)(P:α->Int->Prop):Prop:=match r with
 | .ok a β=>P a β
 | .exc c=>∀H',Kp Γ H'->E (.ref (Γ.ca c)) none H'
 | .bad=>False
section
variable {α γ:Type}{Γ:Fx}{E:XK}
theorem Out.bnd {k:α->Int->R γ}{P:γ->Int->Prop}(h:Out Γ E (r.bnd k) P):Out Γ E r λa β=>Out Γ E (k a β) P:=by
 cases r with
 |ok a β=>exact h
 |exc c=>exact h
 |bad=>exact h
theorem Out.imp {P P':α->Int->Prop}(h:Out Γ E r P)(i:∀a β,P a β->P' a β):Out Γ E r P':=by
 cases r with
 |ok a β=>exact i a β h
 |exc c=>exact h
 |bad=>exact h
theorem Out.of {P:α->Int->Prop}(h:Out Γ E (R.of o β) P):∃a,o=some a/\P a β:=by
 cases o with
 |none=>exact h.elim
 |some a=>exact⟨a,rfl,h⟩
end
inductive Md where
 |b |v |w
def VO (K:Frag)(B:Option Addr)(H G' H':Hp):Md->D->V->Prop
 | .b,d,v=>lW K B G' H' v d
 | .v,d,v=>Rp K G' v d
 | .w,d,v=>∃a,v=.ref a/\H a=none/\G' a=none/\Own K G' H' a d
def pT (Γ:Fx)(E:XK)(f:VF D)(L:List Nat)(md:Md):TE:=λσ H Q=>∃env G B β,SR Γ B G H σ env β/\
 Out Γ E (f (vl env) β) λd β'=>∀v G' H',SR Γ B G' H' σ (bt L env) β'->aw G G'->iy B H H'->VO Γ.K B H G' H' md d v->Q v H'
def SE (X:Cx)(Γ:Fx)(E:XK)(e:Expr)(f:VF D)(L:List Nat)(md:Md):Prop:=PE X e (pT Γ E f L md)
def qT (Γ:Fx)(E:XK)(f:VF Bool)(L:List Nat):TT:=λσ H Q=>∃env G B β,SR Γ B G H σ env β/\
 Out Γ E (f (vl env) β) λc β'=>∀G' H',SR Γ B G' H' σ (bt L env) β'->aw G G'->iy B H H'->Q c H'
def BF (X:Cx)(Γ:Fx)(E:XK)(e:Expr)(f:VF Bool)(L:List Nat):Prop:=PT X e (qT Γ E f L)
def uZ (X:Cx)(Γ:Fx)(E:XK)(e:Expr)(f:VF Bool)(L:List Nat):Prop:=PW X e (qT Γ E f L)
def aT (Γ:Fx)(E:XK)(f:VF (List D))(L:List Nat):TA:=λσ H Q=>∃env G B β,SR Γ B G H σ env β/\
 Out Γ E (f (vl env) β) λds β'=>∀vs G' H',SR Γ B G' H' σ (bt L env) β'->aw G G'->iy B H H'->cc Γ.K G' vs ds->Q vs H'
def SA (X:Cx)(Γ:Fx)(E:XK)(es:List Expr)(f:VF (List D))(L:List Nat):Prop:=PA X es (aT Γ E f L)
def PE.post' {X:Cx}{e:Expr}(h:PE X e t)(m:∀σ H Q,u σ H Q->t σ H Q):PE X e u:=λpins s σ H Q I q=>h pins s σ H Q I (m σ H Q q)
def PT.post {X:Cx}{e:Expr}(h:PT X e t)(m:∀σ H Q,u σ H Q->t σ H Q):PT X e u:=λpins s σ H Q I q=>h pins s σ H Q I (m σ H Q q)
def PW.post {X:Cx}{e:Expr}(h:PW X e t)(m:∀σ H Q,u σ H Q->t σ H Q):PW X e u:=λwh pins s σ H Q I q=>h wh pins s σ H Q I (m σ H Q q)
def PA.post {X:Cx}{es:List Expr}(h:PA X es t)(m:∀σ H Q,u σ H Q->t σ H Q):PA X es u:=λpos pins s σ H Q I q=>h pos pins s σ H Q I (m σ H Q q)
def PS.post {X:Cx}{st:Stmt}(h:PS X st t)(m:∀D σ H,u D σ H->t D σ H):PS X st u:=λpins s σ H D I q=>h pins s σ H D I (m D σ H q)
def dat:Option Nv->Option D
 |some (.da d)=>some d
 |_=>none
def gv (i:Nat):VF D:=λvs β=>R.of (dat vs[i]?) β
def cst (d:D):VF D:=λ_ β=>.ok d β
section
variable {X:Cx}{Γ:Fx}{E:XK}{e a b c:Expr}{f fa fb fc:VF D}{L La Lb Lc:List Nat}{md ma mb mc:Md}{pos:Pos}
theorem join_some (h:dat o=some d):o=some (.da d):=by
 cases o with
 |none=>cases h
 |some o=>cases o with
  |da x=>cases h;rfl
  |_=>cases h
def SR.letIn (I:SR Γ B G H σ env β)(h0:Γ.H0 p=none)(hg:G p=none)(hb:B≠some p)(hn:∀(j:Nat) (d':D),env[j]? =some (.ow d')->σ[j]?≠some (some (.ref p)))(h:Own Γ.K G H p d) :
  ∃G',SR Γ B G' H σ env β/\aw G G'/\Rp Γ.K G' (.ref p) d:=by
 obtain⟨o,ho⟩:=h.obj
 have sG:aw G (upd G p o):=aw.new hg
 refine⟨upd G p o,⟨λb u q=>?_,I.old.trans sG,λb n1 n2=>?_,I.keep,I.pin,I.fix,λb q=>?_,I.len,λj s q=>?_,I.sep⟩,sG,h.rp hg sG λo' q=>by rw[ho] at q;cases q;exact au⟩
 ·by_cases z:b=p
  ·subst z;rw[au] at q;cases q;exact ho
  ·rw[aB z] at q;exact I.sub b u q
 ·rw[aB (λz=>n1.1 (by rw[z];exact h0))];exact I.new b n1 n2
 ·obtain⟨k1,k2,k3⟩:=I.box b q
  exact⟨k1,by rw[aB (λz=>hb (by rw[<-z];exact q))];exact k2,k3⟩
 ·have w:=I.slot j s q
  cases s with
  |no=>trivial
  |fz d'=>obtain⟨v,w1,w2⟩:=w;exact⟨v,w1,w2.mono sG⟩
  |ow d'=>
   obtain⟨c,w1,w2,w3,w4,w5⟩:=w
   have ca:c≠p:=λz2=>hn j d' q (by rw[<-z2];exact w1)
   exact⟨c,w1,w2,by rw[aB ca];exact w3,w4,w5.mono sG λo q=>q⟩
  |bx=>exact w
  |br d'=>obtain⟨b1,c,w1,w4,wp,w5⟩:=w;exact⟨b1,c,w1,w4,wp,w5.mono sG λo q=>q⟩
def zo {env:En}{i j:Nat}{d:D}(h:(jj env i)[j]? =some (.ow d)):env[j]? =some (.ow d):=by
 unfold jj at h
 split at h
 ·rename_i d' e
  by_cases z:i=j
  ·subst z
   rw[NW (NV.mp e).1] at h;cases h
  ·rw[NX z] at h;exact h
 ·exact h
theorem uR {L:List Nat}{env:En}{j:Nat}{d:D}(h:(bt L env)[j]? =some (.ow d)):env[j]? =some (.ow d):=by
 unfold bt at h
 induction L generalizing env with
 |nil=>exact h
 |cons i L ih=>exact zo (ih h)
def SR.letW {B:Option Addr}{G H G' H':Hp}{σ:St}{env:En}{β β':Int}{L:List Nat}{d:D}{v:V}(I:SR Γ B G H σ env β)(I':SR Γ B G' H' σ (L2.bt L env) β')(h:VO Γ.K B H G' H' .w d v):∃G2,SR Γ B G2 H' σ (L2.bt L env) β'/\aw G' G2/\Rp Γ.K G2 v d:=by
 obtain⟨p,rfl,h1,h2,h3⟩:=h
 obtain⟨q1,q2,q3,q4⟩:=I.fresh h1
 exact I'.letIn q1 h2 q3 (λj d' e=>q4 j d' (uR e)) h3
def SE.wv (h:SE X Γ E e f L .w):SE X Γ E e f L .v:=by
 refine PE.post' h λσ H Q ⟨env,G,B,β,I,o⟩=>⟨env,G,B,β,I,o.imp λd β' k v G' H' I' s m vo=>?_⟩
 obtain⟨G2,I2,s2,r⟩:=I.letW I' vo
 exact k v G2 H' I2 (s.trans s2) m r
theorem VO.brw {B:Option Addr}{H G' H':Hp}{d:D}{v:V}{K:Frag}(h:VO K B H G' H' md d v)(hB:∀x,B=some x->H x≠none):lW K B G' H' v d:=by
 cases md with
 |b=>exact h
 |v=>exact .inl h
 |w=>
  obtain⟨p,rfl,h1,h2,h3⟩:=h
  exact .inr ⟨p,rfl,λz=>hB p z h1,h3⟩
def SR.boxThere (I:SR Γ B G H σ env β):∀x,B=some x->H x≠none:=λx e=>by rw[(I.box x e).1];simp
def af (i:Nat)(hN:X.N[i]? =some x:=by rfl)(hv:xm X.env.scope x:=by first |exact Or.inl rfl |exact Or.inr (Or.inl rfl) |exact Or.inr (Or.inr rfl))(hd:(x == ("__debug__":Str))=false:=by decide)
  (hcd:(x == ("__classdict__":Str))=false:=by decide):SE X Γ E (.Name x pos) (gv i) [] .b:=by
 refine PE.post' (iX hN hv hd hcd) λσ H Q ⟨env,G,B,β,I,o⟩=>?_
 obtain⟨d,e,k⟩:=o.of
 have e:=join_some e
 rcases Hg e with q |q |q
 ·obtain⟨v,h1,h2⟩:=I.slot i _ q
  exact⟨v,h1,k v G H I (aw.refl _) (iy.refl _ _) (.inl h2)⟩
 ·obtain⟨p,h1,h2,h3,h4,h5⟩:=I.slot i _ q
  exact⟨.ref p,h1,k _ G H I (aw.refl _) (iy.refl _ _) (.inr ⟨p,rfl,h4,h5⟩)⟩
 ·obtain⟨_,p,h1,h4,_,h5⟩:=I.slot i _ q
  exact⟨.ref p,h1,k _ G H I (aw.refl _) (iy.refl _ _) (.inr ⟨p,rfl,h4,h5⟩)⟩
def aF (i:Nat)(hb:Γ.br i=false)(hN:X.N[i]? =some x:=by rfl)(hv:xm X.env.scope x:=by first |exact Or.inl rfl |exact Or.inr (Or.inl rfl) |exact Or.inr (Or.inr rfl))(hd:(x == ("__debug__":Str))=false:=by decide)
  (hcd:(x == ("__classdict__":Str))=false:=by decide):SE X Γ E (.Name x pos) (gv i) [i] .v:=by
 refine PE.post' (iX hN hv hd hcd) λσ H Q ⟨env,G,B,β,I,o⟩=>?_
 obtain⟨d,e,k⟩:=o.of
 obtain⟨G',v,I',s,h1,h2⟩:=I.freeze i hb (join_some e)
 exact⟨v,h1,k v G' H I' s (iy.refl _ _) h2⟩
def B9 (h:PE X e (tC v))(r:∀G,Rp Γ.K G v d):SE X Γ E e (cst d) [] .v:=by
 refine PE.post' h λσ H Q ⟨env,G,B,β,I,o⟩=>?_
 exact o v G H I (aw.refl _) (iy.refl _ _) (r G)
def ax {j}:SE X Γ E (.Constant (.int i) j pos) (cst (.int i)) [] .v:=B9 pY λ_=>.int i
def jl {j}:SE X Γ E (.Constant (.bool i) j pos) (cst (.bool i)) [] .v:=B9 sO λ_=>.bl i
def yi {j}:SE X Γ E (.Constant .none j pos) (cst .none) [] .v:=B9 II λ_=>.non
def gu {j}:SE X Γ E (.Constant (.str x) j pos) (cst (.str x)) [] .v:=B9 qI λ_=>.str x
def Gs (hg:Gl X x)(hm:X.mg x=some (.int i t))(hd:(x == ("__debug__":Str))=false:=by decide):SE X Γ E (.Name x pos) (cst (.int i)) [] .v:=B9 (cO hg hm (show RelV (.int i) _ from⟨_,rfl⟩) hd) λ_=>.int i
def two {W:V->V->Hp->Prop}(I:SR Γ B G H σ env β)
  (h:Out Γ E (fa (vl env) β) λd1 β1=>Out Γ E (fb (vl env) β1) λd2 β2=>∀x y G2 H2,SR Γ B G2 H2 σ (bt (La ++ Lb) env) β2->aw G G2->iy B H H2->lW Γ.K B G2 H2 x d1->lW Γ.K B G2 H2 y d2->W x y H2) :
  pT Γ E fa La ma σ H λx H1=>pT Γ E fb Lb mb σ H1 λy H2=>W x y H2:=by
 refine⟨env,G,B,β,I,h.imp λd1 β1 h x G1 H1 I1 s1 m1 vx=>⟨bt La env,G1,B,β1,I1,?_⟩⟩
 rw[fg]
 refine h.imp λd2 β2 k y G2 H2 I2 s2 m2 vy=>?_
 refine k x y G2 H2 (by rw[cw];exact I2) (s1.trans s2) (m1.trans m2) ((vx.brw I.boxThere).mono s2 m2) (vy.brw I1.boxThere)
def lZ (K:Frag)(r:R2)(g:D->D->Option D)(md:Md):Prop:=∀(B:Option Addr) (G H:Hp) (x y:V) (dx dy d:D) (Q:VK),aw G H->(∀x,B=some x->H x≠none)->lW K B G H x dx->lW K B G H y dy->g dx dy=some d->
 (∀v G' H',Ext G H G' H'->VO K B H G' H' md d v->Q v H')->r x y H Q
def f2 (fa fb:VF D)(g:D->D->Option D):VF D:=λvs β=>(fa vs β).bnd λx β1=>(fb vs β1).bnd λy β2=>R.of (g x y) β2
theorem gS (m:iy B H H2)(hB:∀x,B=some x->H2 x≠none)(h:H2 p=none):H p=none:=by
 cases e:H p with
 |none=>rfl
 |some o=>rw[m p o e λz=>hB p z h] at h;cases h
theorem VO.back {K:Frag}{B:Option Addr}{H H2 G' H':Hp}{d:D}{v:V}(h:VO K B H2 G' H' md d v)(m:iy B H H2)(hB:∀x,B=some x->H2 x≠none):VO K B H G' H' md d v:=by
 cases md with
 |b=>exact h
 |v=>exact h
 |w=>obtain⟨p,e,h1,h2,h3⟩:=h;exact⟨p,e,gS m hB h1,h2,h3⟩
def mB {g:D->D->Option D}{Q:VK}(pr:lZ Γ.K r g md)(I:SR Γ B G H σ env β)
  (h:Out Γ E (f2 fa fb g (vl env) β) λd β'=>∀v G' H',SR Γ B G' H' σ (bt (La ++ Lb) env) β'->aw G G'->iy B H H'->VO Γ.K B H G' H' md d v->Q v H') :
  pT Γ E fa La ma σ H λx H1=>pT Γ E fb Lb mb σ H1 λy H2=>r x y H2 Q:=by
 refine two I (h.bnd.imp λd1 β1 h=>h.bnd.imp λd2 β2 h x y G2 H2 I2 s2 m2 bx by'=>?_)
 obtain⟨d,e,k⟩:=h.of
 refine pr B G2 H2 x y d1 d2 d Q I2.sub I2.boxThere bx by' e λv G' H' x' vo=>?_
 exact k v G' H' (I2.ext x') (s2.trans x'.gg) (m2.trans (x'.hh.mov B)) (vo.back m2 I2.boxThere)
def ba {g:D->D->Option D}(ho:kg X (binaryOp op) r)(pr:lZ Γ.K r g md)(ha:SE X Γ E a fa La ma)(hb:SE X Γ E b fb Lb mb):SE X Γ E (.BinOp a op b pos) (f2 fa fb g) (La ++ Lb) md:=
 PE.post' (oB ho ha hb) λσ H Q ⟨env,G,B,β,I,o⟩=>mB pr I o
def nz {g:D->D->Option D}(ho:kg X (compareOp op) r)(pr:lZ Γ.K r g md)(ha:SE X Γ E a fa La ma)(hb:SE X Γ E b fb Lb mb)(hm:behindInMarks op b=false):SE X Γ E (.Compare a [op] [b] pos) (f2 fa fb g) (La ++ Lb) md:=
 PE.post' (FG ho ha hb hm) λσ H Q ⟨env,G,B,β,I,o⟩=>mB pr I o
def bE {g:D->D->Option D}(hr:Dq X r)(pr:lZ Γ.K r g md)(ha:SE X Γ E a fa La ma)(hb:SE X Γ E b fb Lb mb)(hs:y2 b):SE X Γ E (.Subscript a b pos) (f2 fa fb g) (La ++ Lb) md:=
 PE.post' (ku hr ha hb hs) λσ H Q ⟨env,G,B,β,I,o⟩=>mB pr I o
def BH (K:Frag)(r:V->Hp->VK->Prop)(g:D->Option D)(md:Md):Prop:=∀(B:Option Addr) (G H:Hp) (x:V) (dx d:D) (Q:VK),aw G H->(∀x,B=some x->H x≠none)->lW K B G H x dx->g dx=some d->
 (∀v G' H',Ext G H G' H'->VO K B H G' H' md d v->Q v H')->r x H Q
def f1 (fa:VF D)(g:D->Option D):VF D:=λvs β=>(fa vs β).bnd λx β1=>R.of (g x) β1
def iD {r:V->Hp->VK->Prop}{g:D->Option D}{Q:VK}(pr:BH Γ.K r g md)(I:SR Γ B G H σ env β)
  (h:Out Γ E (f1 fa g (vl env) β) λd β'=>∀v G' H',SR Γ B G' H' σ (bt La env) β'->aw G G'->iy B H H'->VO Γ.K B H G' H' md d v->Q v H') :
  pT Γ E fa La ma σ H λx H1=>r x H1 Q:=by
 refine⟨env,G,B,β,I,h.bnd.imp λd1 β1 h x G1 H1 I1 s1 m1 vx=>?_⟩
 obtain⟨d,e,k⟩:=h.of
 refine pr B G1 H1 x d1 d Q I1.sub I1.boxThere (vx.brw I.boxThere) e λv G' H' x' vo=>?_
 exact k v G' H' (I1.ext x') (s1.trans x'.gg) (m1.trans (x'.hh.mov B)) (vo.back m1 I1.boxThere)
def sv {r:V->Hp->VK->Prop}{g:D->Option D}(ho:Lq X (unaryOp op) r)(pr:BH Γ.K r g md)(ha:SE X Γ E a fa La ma):SE X Γ E (.UnaryOp op a pos) (f1 fa g) La md:=
 PE.post' (K2 ho ha) λσ H Q ⟨env,G,B,β,I,o⟩=>iD pr I o
def bo {id:String}{r:List V->Hp->VK->Prop}{g:D->Option D}{x:Str}{p:Pos}(hc:cB X (.builtin id) r)(pr:BH Γ.K (λx=>r [x]) g md)(hg:Gl X x)(hm:X.mg x=none)(hv:bootBuiltins x=some (.builtin id))(ha:SE X Γ E a fa La ma)(hn:x≠"__name__":=by decide)(hdb:(x == ("__debug__":Str))=false:=by decide)
  (he:starEach [a] X.env=(false,eval a X.env) :: starEach [] X.env:=by rfl):SE X Γ E (.Call (.Name x p) [a] [] pos) (f1 fa g) La md:=
 PE.post' (bu hc hg hm hv (ak ha aN he) hn hdb he) λσ H Q ⟨env,G,B,β,I,o⟩=>iD (r:=λx=>r [x]) pr I o
def kA {id:String}{r:List V->Hp->VK->Prop}{g:D->Option D}{x:Str}{p:Pos}(hc:cB X (.type id) r)(pr:BH Γ.K (λx=>r [x]) g md)(hg:Gl X x)(hm:X.mg x=none)(hv:bootBuiltins x=some (.type id))(ha:SE X Γ E a fa La ma)(hn:x≠"__name__":=by decide)(hdb:(x == ("__debug__":Str))=false:=by decide)
  (he:starEach [a] X.env=(false,eval a X.env) :: starEach [] X.env:=by rfl):SE X Γ E (.Call (.Name x p) [a] [] pos) (f1 fa g) La md:=
 PE.post' (gZ hc hg hm hv (ak ha aN he) hn hdb he) λσ H Q ⟨env,G,B,β,I,o⟩=>iD (r:=λx=>r [x]) pr I o
def vb {id:String}{r:List V->Hp->VK->Prop}{g:D->D->Option D}{x:Str}{p:Pos}(hc:cB X (.builtin id) r)(pr:lZ Γ.K (λx y=>r [x,y]) g md)(hg:Gl X x)(hm:X.mg x=none)(hv:bootBuiltins x=some (.builtin id))(ha:SE X Γ E a fa La ma)(hb:SE X Γ E b fb Lb mb)(hn:x≠"__name__":=by decide)(hdb:(x == ("__debug__":Str))=false:=by decide)
  (he:starEach [a,b] X.env=(false,eval a X.env) :: starEach [b] X.env:=by rfl) (he2:starEach [b] X.env=(false,eval b X.env) :: starEach [] X.env:=by rfl) (hpl:(backTo pos (starEach [b] X.env)).any (·.1)=false:=by rfl):SE X Γ E (.Call (.Name x p) [a,b] [] pos) (f2 fa fb g) (La ++ Lb) md:=
 PE.post' (bu hc hg hm hv (ak ha (ak hb aN he2) he) hn hdb he hpl) λσ H Q ⟨env,G,B,β,I,o⟩=>mB (r:=λx y=>r [x,y]) pr I o
def iz (fa fb:VF D):VF D:=λvs β=>(fa vs β).bnd λx β1=>match x with
 | .bool true=>fb vs β1
 | .bool false=>.ok (.bool false) β1
 |_=>.bad
def lH {op}(h:SE X Γ E a fa La md):SE X Γ E (.BoolOp op [a] pos) fa La md:=Jt h
theorem lR {rest:List Expr}(ha:SE X Γ E a fa La ma)(hb:SE X Γ E (.BoolOp .And (b :: rest) pos) fb Lb .v)(hbr:∀i,i∈Lb->Γ.br i=false):SE X Γ E (.BoolOp .And (a :: b :: rest) pos) (iz fa fb) (La ++ Lb) .v:=by
 refine PE.post' (Jb ha hb) λσ H Q ⟨env,G,B,β,I,o⟩=>?_
 refine⟨env,G,B,β,I,o.bnd.imp λd1 β1 h x G1 H1 I1 s1 m1 vx=>?_⟩
 have bx:=vx.brw I.boxThere
 cases d1 with
 |bool c=>
  obtain rfl:=bx.bool
  refine⟨c,rfl,?_⟩
  cases c with
  |true=>exact wZ ⟨_,G1,B,β1,I1,by rw[fg];exact h.imp λd β' k v G' H' I' s' m' vo=>k v G' H' (by rw[cw];exact I') (s1.trans s') (m1.trans m') vo⟩
  |false=>
   obtain⟨G2,I2,s2⟩:=I1.bt Lb hbr
   exact qL (h _ G2 H1 (by rw[cw];exact I2) (s1.trans s2) m1 (.bl false))
 |_=>exact h.elim
def Ar:D->Option D
 | .bool c=>some (.bool (!c))
 |_=>none
theorem xO (ha:SE X Γ E a fa La ma):SE X Γ E (.UnaryOp .Not a pos) (f1 fa Ar) La .v:=by
 refine PE.post' (Ic ha) λσ H Q ⟨env,G,B,β,I,o⟩=>?_
 refine iD (r:=λx H1 Q=>∃c,x=.bl c/\Q (.bl (!c)) H1) ?_ I o
 intro B G H x dx d Q s hB bx e k
 cases dx with
 |bool c=>
  obtain rfl:=bx.bool
  cases e
  exact⟨c,rfl,k _ G H (Ext.refl s) (.bl _)⟩
 |_=>cases e
def Js:D->Option Bool
 | .none=>some false
 | .bool b=>some b
 | .int i=>some (i != 0)
 | .str y=>if y.length<=sizeLine then some ((y.length:Int) != 0) else none
 | .list ds=>some (!ds.isEmpty)
 | .tuple ds=>some (!ds.isEmpty)
 | .dict _=>none
def oQ (fa:VF D):VF Bool:=λvs β=>(fa vs β).bnd λx β1=>R.of (Js x) β1
def oy {K:Frag}{G:Hp}{xs:List V}{ds:List D}(r:cc K G xs ds):(!ds.isEmpty)= !xs.isEmpty:=by cases r <;> rfl
theorem eJ (hK:X.K=Γ.K)(ha:SE X Γ E a fa La ma)(he:∀whole,isTrue a X.env whole=(do let v <-whole;standAt a.pos;holding [v] (truthy v)):=by intro _;rfl):BF X Γ E a (oQ fa) La:=by
 refine PT.post (Co ha he) λσ H Q ⟨env,G,B,β,I,o⟩=>?_
 refine⟨env,G,B,β,I,o.bnd.imp λd1 β1 h x G1 H1 I1 s1 m1 vx=>?_⟩
 obtain⟨c,e,k⟩:=h.of
 have bx:=vx.brw I.boxThere
 refine⟨c,?_,k G1 H1 I1 s1 m1⟩
 rw[hK]
 cases d1 with
 |none=>obtain rfl:=bx.none;cases e;rfl
 |bool b=>obtain rfl:=bx.bool;cases e;rfl
 |int i=>obtain rfl:=bx.int;cases e;rfl
 |str y=>
  obtain rfl:=bx.str
  simp only[Js] at e
  split at e
  ·cases e;exact⟨by assumption,rfl⟩
  ·cases e
 |list ds=>obtain⟨p,xs,rfl,hq,r⟩:=bx.list I1.sub;cases e;exact .inl ⟨xs,.inl hq,oy r⟩
 |tuple ds=>obtain⟨p,xs,rfl,hq,r⟩:=bx.tuple I1.sub;cases e;exact .inr (.inl ⟨xs,hq,oy r⟩)
 |dict ds=>cases e
def dh (fa:VF D):VF Bool:=λvs β=>(fa vs β).bnd λx β1=>match x with
 | .bool c=>.ok c β1
 |_=>.bad
theorem bM {g:D->D->Option D}(ho:kg X (compareOp op) r)(pr:lZ Γ.K r g .v)(ha:SE X Γ E a fa La ma)(hb:SE X Γ E b fb Lb mb)(hm:behindInMarks op b=false):BF X Γ E (.Compare a [op] [b] pos) (dh (f2 fa fb g)) (La ++ Lb):=by
 refine PT.post (zw ho ha hb hm) λσ H Q ⟨env,G,B,β,I,o⟩=>?_
 refine mB pr I (o.bnd.imp λd β' h v G' H' I' s' m' vo=>?_)
 cases d with
 |bool c=>cases vo;exact⟨c,rfl,h G' H' I' s' m'⟩
 |_=>exact h.elim
def uX (t:VF Bool):VF Bool:=λvs β=>(t vs β).bnd λc β1=>.ok (!c) β1
def zX (t u:VF Bool):VF Bool:=λvs β=>(t vs β).bnd λc β1=>if c=true then u vs β1 else .ok false β1
def oS (t u:VF Bool):VF Bool:=λvs β=>(t vs β).bnd λc β1=>if c=true then .ok true β1 else u vs β1
variable {ta tb tc:VF Bool}
def gz (ha:BF X Γ E a ta La):BF X Γ E (.UnaryOp .Not a pos) (uX ta) La:=by
 refine PT.post (xh ha) λσ H Q ⟨env,G,B,β,I,o⟩=>?_
 exact⟨env,G,B,β,I,o.bnd.imp λc β1 h=>h⟩
def uZ.t (h:uZ X Γ E e ta La):BF X Γ E e ta La:=PW.pt h
def o8 (ha:BF X Γ E a ta La):uZ X Γ E (.BoolOp .And [a] pos) ta La:=zH ha
def nW (ha:BF X Γ E a ta La):uZ X Γ E (.BoolOp .Or [a] pos) ta La:=Es ha
theorem uL {rest:List Expr}(ha:BF X Γ E a ta La)(hb:uZ X Γ E (.BoolOp .And (b :: rest) pos) tb Lb)(hbr:∀i,i∈Lb->Γ.br i=false):uZ X Γ E (.BoolOp .And (a :: b :: rest) pos) (zX ta tb) (La ++ Lb):=by
 refine PW.post (CV ha hb) λσ H Q ⟨env,G,B,β,I,o⟩=>?_
 refine⟨env,G,B,β,I,o.bnd.imp λc β1 h G1 H1 I1 s1 m1=>?_⟩
 cases c with
 |true=>exact wZ ⟨_,G1,B,β1,I1,by rw[fg];exact Out.imp h λd β' k G' H' I' s' m'=>k G' H' (by rw[cw];exact I') (s1.trans s') (m1.trans m')⟩
 |false=>
  obtain⟨G2,I2,s2⟩:=I1.bt Lb hbr
  exact qL (h G2 H1 (by rw[cw];exact I2) (s1.trans s2) m1)
theorem pF {rest:List Expr}(ha:BF X Γ E a ta La)(hb:uZ X Γ E (.BoolOp .Or (b :: rest) pos) tb Lb)(hbr:∀i,i∈Lb->Γ.br i=false):uZ X Γ E (.BoolOp .Or (a :: b :: rest) pos) (oS ta tb) (La ++ Lb):=by
 refine PW.post (Hl ha hb) λσ H Q ⟨env,G,B,β,I,o⟩=>?_
 refine⟨env,G,B,β,I,o.bnd.imp λc β1 h G1 H1 I1 s1 m1=>?_⟩
 cases c with
 |true=>
  obtain⟨G2,I2,s2⟩:=I1.bt Lb hbr
  exact wZ (h G2 H1 (by rw[cw];exact I2) (s1.trans s2) m1)
 |false=>exact qL ⟨_,G1,B,β1,I1,by rw[fg];exact Out.imp h λd β' k G' H' I' s' m'=>k G' H' (by rw[cw];exact I') (s1.trans s') (m1.trans m')⟩
def Nx (t:VF Bool)(fa fb:VF D):VF D:=λvs β=>(t vs β).bnd λc β1=>if c=true then fa vs β1 else fb vs β1
def ag:VF (List D):=λ_ β=>.ok [] β
def aa (fa:VF D)(fr:VF (List D)):VF (List D):=λvs β=>(fa vs β).bnd λx β1=>(fr vs β1).bnd λxs β2=>.ok (x :: xs) β2
variable {fr:VF (List D)}{es:List Expr}
def ar:SA X Γ E [] ag []:=PA.post aN λσ H Q ⟨env,G,B,β,I,o⟩=>o [] G H I (aw.refl _) (iy.refl _ _) .nil
def ae (ha:SE X Γ E a fa La .v)(hr:SA X Γ E es fr Lb)(hs:starEach (a :: es) X.env=(false,eval a X.env) :: starEach es X.env:=by rfl):SA X Γ E (a :: es) (aa fa fr) (La ++ Lb):=by
 refine PA.post (ak ha hr hs) λσ H Q ⟨env,G,B,β,I,o⟩=>?_
 refine⟨env,G,B,β,I,o.bnd.imp λd1 β1 h x G1 H1 I1 s1 m1 vx=>⟨bt La env,G1,B,β1,I1,?_⟩⟩
 rw[fg]
 refine h.bnd.imp λds β2 k xs G2 H2 I2 s2 m2 r=>?_
 exact k (x :: xs) G2 H2 (by rw[cw];exact I2) (s1.trans s2) (m1.trans m2) (.cons (vx.mono s2) r)
def cv (fr:VF (List D)):VF D:=λvs β=>(fr vs β).bnd λds β1=>if ds.length<=sizeLine then .ok (.tuple ds) β1 else .bad
def bC (fr:VF (List D)):VF D:=λvs β=>(fr vs β).bnd λds β1=>if ds.length<=sizeLine then .ok (.list ds) β1 else .bad
def ig {x1}(h:SA X Γ E es fr L):SE X Γ E (.Tuple es x1 pos) (cv fr) L .v:=by
 refine PE.post' (x8 h) λσ H Q ⟨env,G,B,β,I,o⟩=>?_
 refine⟨env,G,B,β,I,o.bnd.imp λds β1 k xs G1 H1 I1 s1 m1 r=>?_⟩
 by_cases hz:ds.length<=sizeLine
 ·rw[NG hz] at k
  refine⟨by rw[r.len];exact hz,λp hp=>?_⟩
  have x:=Ext.new I1.sub (o:=.tup xs) hp
  exact k _ _ _ (I1.ext x) (s1.trans x.gg) (m1.trans (x.hh.mov B)) (.tup (.inl (.inl au)) (r.mono x.gg))
 ·rw[NL hz] at k;exact k.elim
def bO (h:SA X Γ E es fr L):SE X Γ E (.List es pos) (bC fr) L .w:=by
 refine PE.post' (nU h) λσ H Q ⟨env,G,B,β,I,o⟩=>?_
 refine⟨env,G,B,β,I,o.bnd.imp λds β1 k xs G1 H1 I1 s1 m1 r=>?_⟩
 by_cases hz:ds.length<=sizeLine
 ·rw[NG hz] at k
  refine⟨by rw[r.len];exact hz,λp hp=>?_⟩
  have x:=Ext.own I1.sub (o:=.lst xs) hp
  exact k _ _ _ (I1.ext x) s1 (m1.trans (x.hh.mov B)) ⟨p,rfl,gS m1 I1.boxThere hp,I1.sub.free hp,xs,au,r⟩
 ·rw[NL hz] at k;exact k.elim
inductive FR where
 |ok (d:D) (fresh:Bool)
 |exc (c:Str)
 |bad
def FV (K:Frag)(H G' H':Hp)(fr:Bool)(d:D)(v:V):Prop:=if fr=true then ∃a,v=.ref a/\H a=none/\G' a=none/\Own K G' H' a d else Rp K G' v d
def Ez (K:Frag)(ca:Str->Addr)(n:Nat)(F:List D->FR):Sp:=λvs H Q E=>∃G ds,aw G H/\ds.length=n/\cc K G vs ds/\match F ds with
 | .ok d fr=>∀v G' H',aw H H'->aw G G'->aw G' H'->(∀b,Mx H b->G b=none->G' b=none)->FV K H G' H' fr d v->Q v H'
 | .exc c=>∀H',aw H H'->E (.ref (ca c)) none H'
 | .bad=>False
structure cK (P:Program)(w:World)(K:Frag)(mg:Str->Option Value)(base:Heap)(ca:Str->Addr)(x:Str)(ps:List Str)(k:Nat)(F:List D->FR):Prop where
 ex:∃f fd,mg x=some (.ref f)/\PySem.W.keepIn K (.ref f)=true/\Binds K fd ps []/\gj P w K mg base (me P w) k f fd ps (Ez K ca ps.length F)
 len:∀ds,F ds≠.bad->ds.length=ps.length
def az (F:List D->FR)(fr:VF (List D)):VF D:=λvs β=>(fr vs β).bnd λds β1=>match F ds with
 | .ok d _=>.ok d β1
 | .exc c=>.exc c
 | .bad=>.bad
def vH (F:List D->FR)(fr:VF (List D)):VF D:=λvs β=>(fr vs β).bnd λds β1=>match F ds with
 | .ok d true=>.ok d β1
 | .ok _ false=>.bad
 | .exc c=>.exc c
 | .bad=>.bad
def SR.called (I1:SR Γ B G1 H1 σ env β)(h:aw H1 H2)(g:aw G1 G2)(s:aw G2 H2)(n:∀b,Mx H1 b->G1 b=none->G2 b=none):SR Γ B G2 H2 σ env β/\iy B H1 H2:=by
 refine⟨⟨s,I1.old.trans g,λb n1 n2=>?_,λb o e np=>h b o (I1.keep b o e np),λb hb=>?_,I1.fix,λb e=>?_,I1.len,λi t e=>?_,I1.sep⟩,h.mov B⟩
 ·exact n b (I1.thereM n1) (I1.new b n1 n2)
 ·exact (I1.pin b hb).same λo e=>h b o e
 ·obtain⟨h1,h2,h3⟩:=I1.box b e
  exact⟨h b _ h1,n b (Mx.lst h1) h2,h3⟩
 ·have q:=I1.slot i t e
  cases t with
  |no=>trivial
  |fz d=>obtain⟨v,h1,h2⟩:=q;exact⟨v,h1,h2.mono g⟩
  |ow d=>
   obtain⟨p,h1,h2,h3,h4,h5⟩:=q
   exact⟨p,h1,h2,n p h5.mx h3,h4,h5.mono g λo q=>h p o q⟩
  |bx=>exact q
  |br d=>obtain⟨b1,p,h1,h4,hp,h5⟩:=q;exact⟨b1,p,h1,h4,hp,h5.mono g λo q=>h p o q⟩
def SR.kp (I:SR Γ B G H σ env β)(h:aw H H'):Kp Γ H':=λb o e n=>h b o (I.keep b o e n)
theorem sV {F:List D->FR}{ps:List Str}{Q:VK}(I:SR Γ B G H σ env β)(hK:X.K=Γ.K){wv:Bool}
  (h:Out Γ E (if wv=true then vH F fr (vl env) β else az F fr (vl env) β) λd β'=>∀v G' H',SR Γ B G' H' σ (bt L env) β'->aw G G'->iy B H H'->VO Γ.K B H G' H' (if wv=true then .w else .v) d v->Q v H') (hl:∀ds,F ds≠.bad->ds.length=ps.length) :
  aT Γ E fr L σ H λvs H1=>Ez X.K Γ.ca ps.length F vs H1 Q E:=by
 refine⟨env,G,B,β,I,?_⟩
 have h:Out Γ E (fr (vl env) β) λds β1=>Out Γ E (match F ds with
   | .ok d true=>.ok d β1
   | .ok d false=>if wv=true then .bad else .ok d β1
   | .exc c=>.exc c
   | .bad=>.bad) λd β'=>∀v G' H',SR Γ B G' H' σ (bt L env) β'->aw G G'->iy B H H'->VO Γ.K B H G' H' (if wv=true then .w else .v) d v->Q v H':=by
  cases wv with
  |true=>
   simp only[OR] at h ⊢
   refine h.bnd.imp λds β1 h=>?_
   cases q:F ds with
   |ok d b=>rw[q] at h;cases b <;> exact h
   |exc c=>rw[q] at h;exact h
   |bad=>rw[q] at h;exact h
  |false=>
   simp only[NZ,Ou] at h ⊢
   refine h.bnd.imp λds β1 h=>?_
   cases q:F ds with
   |ok d b=>rw[q] at h;cases b <;> exact h
   |exc c=>rw[q] at h;exact h
   |bad=>rw[q] at h;exact h
 refine h.imp λds β1 k vs G1 H1 I1 s1 m1 r=>?_
 refine⟨G1,ds,I1.sub,?_,by rw[hK];exact r,?_⟩
 ·exact hl ds λz=>by rw[z] at k;exact k
 cases q:F ds with
 |bad=>rw[q] at k;exact k
 |exc c=>rw[q] at k;exact λH' s=>k H' (I1.kp s)
 |ok d b=>
  rw[q] at k
  intro v G' H' hh hg hs hn fv
  obtain⟨I2,m2⟩:=I1.called hh hg hs hn
  cases b with
  |true=>
   obtain⟨p,rfl,p1,p2,p3⟩:∃a,v=.ref a/\H1 a=none/\G' a=none/\Own X.K G' H' a d:=fv
   rw[hK] at p3
   have hp:=gS m1 I1.boxThere p1
   cases wv with
   |true=>exact k _ G' H' I2 (s1.trans hg) (m1.trans m2) ⟨p,rfl,hp,p2,p3⟩
   |false=>
    obtain⟨q1,q2,q3,q4⟩:=I1.fresh p1
    obtain⟨G3,I3,s3,r3⟩:=I2.letIn q1 p2 q3 q4 p3
    exact k _ G3 H' I3 ((s1.trans hg).trans s3) (m1.trans m2) r3
  |false=>
   cases wv with
   |true=>exact k.elim
   |false=>
    have fv:Rp X.K G' v d:=fv
    rw[hK] at fv
    exact k _ G' H' I2 (s1.trans hg) (m1.trans m2) fv
def aI {F:List D->FR}{p:Pos}(hf:cK X.prog X.w X.K X.mg X.base Γ.ca x ps k F)(hr:dZ k X.A)(hx:Passes (me X.prog X.w) X E)(hK:X.K=Γ.K)(hg:Gl X x)(ha:SA X Γ E (a :: es) fr L)(hdb:(x == ("__debug__":Str))=false:=by decide)
  (he:starEach (a :: es) X.env=(false,eval a X.env) :: starEach es X.env:=by rfl) (hpl:(backTo pos (starEach es X.env)).any (·.1)=false:=by rfl):SE X Γ E (.Call (.Name x p) (a :: es) [] pos) (az F fr) L .v:=by
 obtain⟨f,fd,hm,hk,hb,hF⟩:=hf.ex
 refine PE.post' (pf (dvs:=[]) hF hr hg hm hk hb .nil hx ha hdb he hpl) λσ H Q ⟨env,G,B,β,I,o⟩=>?_
 show aT Γ E fr L σ H λvs H1=>Ez X.K Γ.ca ps.length F (vs ++ []) H1 Q E
 have:=sV (Q:=Q) (wv:=false) (ps:=ps) I hK o hf.len
 simpa using this
def Dy {F:List D->FR}{p:Pos}(hf:cK X.prog X.w X.K X.mg X.base Γ.ca x ps k F)(hr:dZ k X.A)(hx:Passes (me X.prog X.w) X E)(hK:X.K=Γ.K)(hg:Gl X x)(ha:SA X Γ E (a :: es) fr L)(hdb:(x == ("__debug__":Str))=false:=by decide)
  (he:starEach (a :: es) X.env=(false,eval a X.env) :: starEach es X.env:=by rfl) (hpl:(backTo pos (starEach es X.env)).any (·.1)=false:=by rfl):SE X Γ E (.Call (.Name x p) (a :: es) [] pos) (vH F fr) L .w:=by
 obtain⟨f,fd,hm,hk,hb,hF⟩:=hf.ex
 refine PE.post' (pf (dvs:=[]) hF hr hg hm hk hb .nil hx ha hdb he hpl) λσ H Q ⟨env,G,B,β,I,o⟩=>?_
 show aT Γ E fr L σ H λvs H1=>Ez X.K Γ.ca ps.length F (vs ++ []) H1 Q E
 have:=sV (Q:=Q) (wv:=true) (ps:=ps) I hK o hf.len
 simpa using this
end
inductive SO where
 |nx (env:En) (β:Int)
 |bk (env:En) (β:Int)
 |ct (env:En) (β:Int)
 |rt (d:D) (fr:Bool) (β:Int)
 |exc (c:Str)
 |bad
abbrev SF:=En->Int->SO
def RV (Γ:Fx)(G' H':Hp)(fr:Bool)(d:D)(v:V):Prop:=if fr=true then ∃a,v=.ref a/\Γ.H0 a=none/\G' a=none/\Own Γ.K G' H' a d else Rp Γ.K G' v d
def rF (Γ:Fx)(E:XK)(G:Hp)(N:Ends):SO->Prop
 | .nx env β=>∀B G' H' σ,SR Γ B G' H' σ env β->aw G G'->N.nx σ H'
 | .bk env β=>∀B G' H' σ,SR Γ B G' H' σ env β->aw G G'->N.bk σ H'
 | .ct env β=>∀B G' H' σ,SR Γ B G' H' σ env β->aw G G'->N.ct σ H'
 | .rt d fr β=>∀B G' H' σ env v,SR Γ B G' H' σ env β->aw G G'->RV Γ G' H' fr d v->N.rt v H'
 | .exc c=>∀H',Kp Γ H'->E (.ref (Γ.ca c)) none H'
 | .bad=>False
def sT (Γ:Fx)(E:XK)(m:SF):TS:=λN σ H=>∃env G B β,SR Γ B G H σ env β/\rF Γ E G N (m env β)
def SS (X:Cx)(Γ:Fx)(E:XK)(st:Stmt)(m:SF):Prop:=PS X st (sT Γ E m)
def BN (X:Cx)(Γ:Fx)(E:XK)(st:List Stmt)(m:SF):Prop:=oP X st (sT Γ E m)
def oP.post {X:Cx}{st:List Stmt}(h:oP X st t)(m:∀D σ H,u D σ H->t D σ H):oP X st u:=λpins s σ H D I q=>h pins s σ H D I (m D σ H q)
def aJ (m m':SF):SF:=λenv β=>match m env β with
 | .nx env' β'=>m' env' β'
 |r=>r
def nt:SF:=λenv β=>.nx env β
section
variable {X:Cx}{Γ:Fx}{E:XK}{e a b c:Expr}{f fa fb:VF D}{L La Lb:List Nat}{md ma mb:Md}{pos:Pos}{st:Stmt}{sts:List Stmt}{m m':SF}{ta:VF Bool}
theorem rF.weak (h:rF Γ E G N r)(s:aw G G1):rF Γ E G1 N r:=by
 cases r with
 |nx env β=>exact λB G' H' σ I s'=>h B G' H' σ I (s.trans s')
 |bk env β=>exact λB G' H' σ I s'=>h B G' H' σ I (s.trans s')
 |ct env β=>exact λB G' H' σ I s'=>h B G' H' σ I (s.trans s')
 |rt d fr β=>exact λB G' H' σ env v I s'=>h B G' H' σ env v I (s.trans s')
 |exc c=>exact h
 |bad=>exact h
def cF:BN X Γ E [] nt:=oP.post o7 λN σ H ⟨env,G,B,β,I,o⟩=>o B G H σ I (aw.refl _)
theorem ah (h:SS X Γ E st m)(h':BN X Γ E sts m'):BN X Γ E (st :: sts) (aJ m m'):=by
 refine oP.post (cz h h') λN σ H ⟨env,G,B,β,I,o⟩=>?_
 refine⟨env,G,B,β,I,?_⟩
 unfold aJ at o
 cases q:m env β with
 |nx env' β'=>rw[q] at o;exact λB' G' H' σ' I' s'=>⟨env',G',B',β',I',o.weak s'⟩
 |bk env' β'=>rw[q] at o;exact o
 |ct env' β'=>rw[q] at o;exact o
 |rt d fr β'=>rw[q] at o;exact o
 |exc c=>rw[q] at o;exact o
 |bad=>rw[q] at o;exact o
def aC (h:SS X Γ E st m):BN X Γ E [st] m:=dE h
def toS {α:Type}(r:R α)(k:α->Int->SO):SO:=match r with
 | .ok x β=>k x β
 | .exc c=>.exc c
 | .bad=>.bad
theorem cC {α:Type}{G:Hp}{N:Ends}{r:R α}{k:α->Int->SO}{P:α->Int->Prop}(h:rF Γ E G N (toS r k))(i:∀x β,rF Γ E G N (k x β)->P x β):Out Γ E r P:=by
 cases r with
 |ok x β=>exact i x β h
 |exc c=>exact h
 |bad=>exact h
def SR.set' (I:SR Γ B G H σ env β)(i:Nat)(h:Rp Γ.K G v d):SR Γ B G H (σ.set i (some v)) (env.set i (.fz d)) β:=by
 by_cases hi:i < env.length
 ·exact I.set hi h
 ·have h1:env.set i (.fz d)=env:=Pk (by omega)
  have h2:σ.set i (some v)=σ:=Pk (by rw[I.len];omega)
  rw[h1,h2];exact I
def SR.setOw' (I:SR Γ B G H σ env β)(i:Nat){a:Addr}(h0:Γ.H0 a=none)(hg:G a=none)(hb:B≠some a)(h:Own Γ.K G H a d)(hn:∀(j:Nat) (d':D),env[j]? =some (.ow d')->σ[j]?≠some (some (.ref a))):SR Γ B G H (σ.set i (some (.ref a))) (env.set i (.ow d)) β:=by
 by_cases hi:i < env.length
 ·exact I.setOw hi h0 hg hb h λj d' e _=>hn j d' e
 ·have h1:env.set i (.ow d)=env:=Pk (by omega)
  have h2:σ.set i (some (.ref a))=σ:=Pk (by rw[I.len];omega)
  rw[h1,h2];exact I
def a7 (i:Nat)(L:List Nat)(f:VF D):SF:=λenv β=>toS (f (vl env) β) λd β'=>.nx ((bt L env).set i (.fz d)) β'
def aO {i:Nat}{x:Str}{pos':Pos}(he:SE X Γ E e f L .v)(hN:X.N.Nodup)(hi:X.N[i]? =some x:=by rfl)(hx:Loc X.env.scope x:=by first |exact Or.inl rfl |exact Or.inr rfl)(hs:swapsWith e (some (.Name x pos')) pos.line X.env=pure false:=by rfl)(hf:X.fn x=true\/X.env.scope.names.lookup x=some .local:=by first |exact .inl rfl |exact .inr rfl |assumption) :
  SS X Γ E (.Assign [.Name x pos'] e pos) (a7 i L f):=by
 refine PS.post (jt hN hi hx he hs hf) λN σ H ⟨env,G,B,β,I,o⟩=>?_
 refine⟨env,G,B,β,I,cC o λd β' k v G' H' I' s' m' vo=>?_⟩
 exact k B G' H' _ (I'.set' i vo) s'
def j6 (i:Nat)(L:List Nat)(f:VF D):SF:=λenv β=>toS (f (vl env) β) λd β'=>.nx ((bt L env).set i (.ow d)) β'
def gF {i:Nat}{x:Str}{pos':Pos}(he:SE X Γ E e f L .w)(hN:X.N.Nodup)(hi:X.N[i]? =some x:=by rfl)(hx:Loc X.env.scope x:=by first |exact Or.inl rfl |exact Or.inr rfl)(hs:swapsWith e (some (.Name x pos')) pos.line X.env=pure false:=by rfl)(hf:X.fn x=true\/X.env.scope.names.lookup x=some .local:=by first |exact .inl rfl |exact .inr rfl |assumption) :
  SS X Γ E (.Assign [.Name x pos'] e pos) (j6 i L f):=by
 refine PS.post (jt hN hi hx he hs hf) λN σ H ⟨env,G,B,β,I,o⟩=>?_
 refine⟨env,G,B,β,I,cC o λd β' k v G' H' I' s' m' vo=>?_⟩
 obtain⟨p,rfl,h1,h2,h3⟩:=vo
 obtain⟨q1,q2,q3,q4⟩:=I.fresh h1
 exact k B G' H' _ (I'.setOw' i q1 h2 q3 h3 λj d' z=>q4 j d' (uR z)) s'
def qi (L:List Nat)(f:VF D):SF:=λenv β=>toS (f (vl env) β) λ_ β'=>.nx (bt L env) β'
def mi (he:SE X Γ E e f L md)(hs:swapsWith e none pos.line X.env=pure false:=by rfl):SS X Γ E (.Expr e pos) (qi L f):=by
 refine PS.post (tG he hs) λN σ H ⟨env,G,B,β,I,o⟩=>?_
 exact⟨env,G,B,β,I,cC o λd β' k v G' H' I' s' m' vo=>k B G' H' _ I' s'⟩
def cf (f:VF D):SF:=λenv β=>toS (f (vl env) β) λd β'=>.rt d false β'
def bp (he:SE X Γ E e f L .v):SS X Γ E (.Return (some e) pos) (cf f):=by
 refine PS.post (i0 he) λN σ H ⟨env,G,B,β,I,o⟩=>?_
 exact⟨env,G,B,β,I,cC o λd β' k v G' H' I' s' m' vo=>k B G' H' σ _ v I' s' vo⟩
def wG (f:VF D):SF:=λenv β=>toS (f (vl env) β) λd β'=>.rt d true β'
def uy (he:SE X Γ E e f L .w):SS X Γ E (.Return (some e) pos) (wG f):=by
 refine PS.post (i0 he) λN σ H ⟨env,G,B,β,I,o⟩=>?_
 refine⟨env,G,B,β,I,cC o λd β' k v G' H' I' s' m' vo=>?_⟩
 obtain⟨p,rfl,h1,h2,h3⟩:=vo
 obtain⟨q1,_⟩:=I.fresh h1
 exact k B G' H' σ _ _ I' s' ⟨p,rfl,q1,h2,h3⟩
def l5 (i:Nat):SF:=λenv β=>match env[i]? with
 |some (.fz d)=>.rt d false β
 |some (.ow d)=>.rt d true β
 |_=>.bad
theorem ju (i:Nat){p:Pos}(hN:X.N[i]? =some x:=by rfl)(hv:xm X.env.scope x:=by first |exact Or.inl rfl |exact Or.inr (Or.inl rfl) |exact Or.inr (Or.inr rfl))(hd:(x == ("__debug__":Str))=false:=by decide)
  (hcd:(x == ("__classdict__":Str))=false:=by decide):SS X Γ E (.Return (some (.Name x p)) pos) (l5 i):=by
 refine PS.post (i0 (iX hN hv hd hcd)) λN σ H ⟨env,G,B,β,I,o⟩=>?_
 unfold l5 at o
 cases q:env[i]? with
 |none=>rw[q] at o;exact o.elim
 |some s=>
  rw[q] at o
  cases s with
  |no=>exact o.elim
  |bx=>exact o.elim
  |br d=>exact o.elim
  |fz d=>
   obtain⟨v,h1,h2⟩:=I.slot i _ q
   exact⟨v,h1,o B G H σ env v I (aw.refl _) h2⟩
  |ow d=>
   obtain⟨p,h1,h2,h3,h4,h5⟩:=I.slot i _ q
   exact⟨_,h1,o B G H σ env _ I (aw.refl _) ⟨p,rfl,h2,h3,h5⟩⟩
def lx (L:List Nat)(t:VF Bool)(m m':SF):SF:=λenv β=>toS (t (vl env) β) λc β'=>if c=true then m (bt L env) β' else m' (bt L env) β'
theorem dQ {x y:List Stmt}(hc:BF X Γ E c ta L)(ha:BN X Γ E x m)(hb:BN X Γ E y m'):SS X Γ E (.If c x y pos) (lx L ta m m'):=by
 refine PS.post (zO hc ha hb) λN σ H ⟨env,G,B,β,I,o⟩=>?_
 refine⟨env,G,B,β,I,cC o λd β' k G' H' I' s' m'=>?_⟩
 cases d with
 |true=>exact wZ ⟨_,G',B,β',I',rF.weak k s'⟩
 |false=>exact qL ⟨_,G',B,β',I',rF.weak k s'⟩
def hX (L:List Nat)(t:VF Bool)(m:SF):Nat->SF
 | 0=>λ_ _=>.bad
 |n + 1=>λenv β=>toS (t (vl env) β) λc β'=>if c=true then (match m (bt L env) β' with
   | .nx env2 β2=>hX L t m n env2 β2
   | .ct env2 β2=>hX L t m n env2 β2
   | .bk env2 β2=>.nx env2 β2
   |r=>r) else .nx (bt L env) β'
theorem ny {x:List Stmt}(n:Nat)(hp:PassesOwn (model X.prog X.w) X.A X.env X.xe)(hc:BF X Γ E c ta L)(hb:BN X Γ E x m):SS X Γ E (.While c x [] pos) (hX L ta m n):=by
 refine PS.post (D8 hp hc hb) λN σ H ⟨env,G,B,β,I,o⟩=>?_
 refine⟨λk σ H=>∃env G1 B β,SR Γ B G1 H σ env β/\aw G G1/\rF Γ E G1 N (hX L ta m k env β),⟨n,env,G,B,β,I,aw.refl _,o⟩,?_⟩
 rintro k σ H ⟨env,G1,B,β,I,sG,o⟩
 cases k with
 |zero=>exact o.elim
 |succ k=>
  refine⟨env,G1,B,β,I,cC o λd β' q G' H' I' s' m'=>?_⟩
  cases d with
  |false=>exact qL (q B G' H' σ I' s')
  |true=>
   refine wZ ⟨λσ H=>∃env G1 B β,SR Γ B G1 H σ env β/\aw G G1/\rF Γ E G1 N (hX L ta m k env β),λσ' H' h=>⟨k,Nat.lt_succ_self k,h⟩,bt L env,G',B,β',I',?_⟩
   rw[NG rfl] at q
   cases r:m (bt L env) β' with
   |nx env2 β2=>rw[r] at q;exact λB2 G2 H2 σ2 I2 s2=>⟨env2,G2,B2,β2,I2,(sG.trans s').trans s2,rF.weak q (s'.trans s2)⟩
   |ct env2 β2=>rw[r] at q;exact λB2 G2 H2 σ2 I2 s2=>⟨env2,G2,B2,β2,I2,(sG.trans s').trans s2,rF.weak q (s'.trans s2)⟩
   |bk env2 β2=>rw[r] at q;exact λB2 G2 H2 σ2 I2 s2=>q B2 G2 H2 σ2 I2 (s'.trans s2)
   |rt d fr β2=>rw[r] at q;exact rF.weak q s'
   |exc c=>rw[r] at q;exact q
   |bad=>rw[r] at q;exact q
def Walk (K:Frag)(B:Option Addr)(G H1:Hp)(ds:List D)(J:It):Prop:=∀Gc H (i:Nat),aw G Gc->aw Gc H->iy B H1 H->
 (i < ds.length->J.go i H/\∀x H',J.yld i H x H'->∃G' d,Ext Gc H G' H'/\ds[i]? =some d/\Rp K G' x d)/\(ds.length<=i->J.stop i H)
def iT (Γ:Fx)(E:XK)(f:VF (List D))(L:List Nat)(md:Md):TI:=λσ H Rr=>∃env G B β,SR Γ B G H σ env β/\
 Out Γ E (f (vl env) β) λds β'=>∀J G' H',SR Γ B G' H' σ (bt L env) β'->aw G G'->iy B H H'->Walk Γ.K B G' (match md with | .b=>H' |_=>λ_=>none) ds J->Rr J H'
def SI (X:Cx)(Γ:Fx)(E:XK)(tg e:Expr)(f:VF (List D))(L:List Nat)(md:Md):Prop:=PI X tg e (iT Γ E f L md)
def PI.post {X:Cx}{tg e:Expr}(h:PI X tg e t)(m:∀σ H Q,u σ H Q->t σ H Q):PI X tg e u:=λpins s σ H Q I q=>h pins s σ H Q I (m σ H Q q)
variable {tg:Expr}
def j9:D->Option (List D)
 | .list ds=>some ds
 | .tuple ds=>some ds
 |_=>none
def bR (fa:VF D):VF (List D):=λvs β=>(fa vs β).bnd λx β1=>R.of (j9 x) β1
end
def Ng (K:Frag)(tl:TE):TI:=λσ H R=>tl σ H λx H1=>∃a xs,x=.ref a/\((fj K H1 a xs/\R (A2 K a) H1)\/(dU K H1 a xs/\R (GL K a) H1))
section
variable {X:Cx}{tg l:Expr}{tl:TE}
def GI (hl:PE X l tl):PI X tg l (Ng X.K tl):=by
 intro pins s σ H R I h
 refine cx (hl pins s σ H _ I h) λv s1 ⟨x,H1,I1,r1,q1⟩=>?_
 obtain⟨a,xs,e,q⟩:=q1
 subst e
 cases r1
 rcases q with⟨hq,q⟩ | ⟨hq,q⟩
 ·obtain⟨its,rv,p,hz⟩:=I1.list hq
  refine Qe p.isList ?_
  refine⟨s1.heap.objs.size,[s1.heap.objs.size],_,_,H1,rfl,I1.kept (t':=s1.toks) λb o e=>ND _ e,nM a _,⟨_,NQ _ rfl,rfl,rfl⟩,λb hb=>?_,q⟩
  have e:b=s1.heap.objs.size:=by simpa using hb
  subst e
  exact I1.fpOk (NH _) (I1.hok.fresh (NH _))
 ·obtain⟨its,rv,p,hz⟩:=I1.tuple hq
  refine Qa (show s1.heap.IsTuple a its.toArray from p) ?_
  refine⟨s1.heap.objs.size,[s1.heap.objs.size],_,_,H1,rfl,I1.kept (t':=s1.toks) λb o e=>ND _ e,pE a _,⟨_,NQ _ rfl,rfl,rfl⟩,λb hb=>?_,q⟩
  have e:b=s1.heap.objs.size:=by simpa using hb
  subst e
  exact I1.fpOk (NH _) (I1.hok.fresh (NH _))
end
section
variable {X:Cx}{Γ:Fx}{E:XK}{e a b c:Expr}{f fa fb:VF D}{L La Lb:List Nat}{md ma mb:Md}{pos:Pos}{st:Stmt}{sts:List Stmt}{m m':SF}{ta:VF Bool}{tg:Expr}
def nV {K:Frag}{B:Option Addr}{G H1:Hp}{p:Addr}{xs:List V}{ds:List D}(h:∀Gc H,aw G Gc->aw Gc H->iy B H1 H->fj K H p xs)(r:cc K G xs ds):Walk K B G H1 ds (A2 K p):=λGc H i s1 s2 m=>by
 have hq:=h Gc H s1 s2 m
 refine⟨λhi=>⟨?_,λx H' y=>?_⟩,λhi=>⟨xs,hq,by rw[r.len];exact hi⟩⟩
 ·have hi':i < xs.length:=by rw[r.len];exact hi
  exact⟨xs,xs[i],hq,by simp[hi']⟩
 ·obtain⟨rfl,y⟩:=y
  obtain⟨d,e,q⟩:=r.at' (y xs hq)
  exact⟨Gc,d,Ext.refl s2,e,q.mono s1⟩
def wy {K:Frag}{B:Option Addr}{G H1:Hp}{p:Addr}{xs:List V}{ds:List D}(h:∀Gc H,aw G Gc->aw Gc H->iy B H1 H->dU K H p xs)(r:cc K G xs ds):Walk K B G H1 ds (GL K p):=λGc H i s1 s2 m=>by
 have hq:=h Gc H s1 s2 m
 refine⟨λhi=>⟨?_,λx H' y=>?_⟩,λhi=>⟨xs,hq,by rw[r.len];exact hi⟩⟩
 ·have hi':i < xs.length:=by rw[r.len];exact hi
  exact⟨xs,xs[i],hq,by simp[hi']⟩
 ·obtain⟨rfl,y⟩:=y
  obtain⟨d,e,q⟩:=r.at' (y xs hq)
  exact⟨Gc,d,Ext.refl s2,e,q.mono s1⟩
theorem Cb (hK:X.K=Γ.K)(ha:SE X Γ E a fa La .v):SI X Γ E tg a (bR fa) La .v:=by
 refine PI.post (GI ha) λσ H Q ⟨env,G,B,β,I,o⟩=>?_
 refine⟨env,G,B,β,I,o.bnd.imp λd1 β1 h x G1 H1 I1 s1 m1 vx=>?_⟩
 obtain⟨ds,e,k⟩:=h.of
 rw[hK]
 have vx:Rp Γ.K G1 x d1:=vx
 cases d1 with
 |list l=>
  cases e
  cases vx with
  | @lst p xs _ hq r=>exact⟨p,xs,rfl,.inl ⟨.inl (Rd.mono (.inl hq) I1.sub),k _ G1 H1 I1 s1 m1 (nV (λGc H t1 t2 _=>.inl (Rd.mono (.inl hq) (t1.trans t2))) r)⟩⟩
 |tuple l=>
  cases e
  cases vx with
  | @tup p xs _ hq r=>exact⟨p,xs,rfl,.inr ⟨hq.grow I1.sub.grow,k _ G1 H1 I1 s1 m1 (wy (λGc H t1 t2 _=>hq.grow (t1.trans t2).grow) r)⟩⟩
 |_=>cases e
theorem qS (hK:X.K=Γ.K)(ha:SE X Γ E a fa La ma):SI X Γ E tg a (bR fa) La .b:=by
 refine PI.post (GI ha) λσ H Q ⟨env,G,B,β,I,o⟩=>?_
 refine⟨env,G,B,β,I,o.bnd.imp λd1 β1 h x G1 H1 I1 s1 m1 vx=>?_⟩
 obtain⟨ds,e,k⟩:=h.of
 rw[hK]
 have vx:=vx.brw I.boxThere
 cases d1 with
 |list l=>
  cases e
  rcases vx with vx | ⟨p,rfl,hb,xs,q,r⟩
  ·cases vx with
   | @lst p xs _ hq r=>exact⟨p,xs,rfl,.inl ⟨.inl (Rd.mono (.inl hq) I1.sub),k _ G1 H1 I1 s1 m1 (nV (λGc H t1 t2 _=>.inl (Rd.mono (.inl hq) (t1.trans t2))) r)⟩⟩
  ·exact⟨p,xs,rfl,.inl ⟨.inl (.inl q),k _ G1 H1 I1 s1 m1 (nV (λGc H t1 t2 mv=>.inl (.inl (mv p _ q hb))) r)⟩⟩
 |tuple l=>
  cases e
  rcases vx with vx | ⟨p,rfl,hb,q⟩
  ·cases vx with
   | @tup p xs _ hq r=>exact⟨p,xs,rfl,.inr ⟨hq.grow I1.sub.grow,k _ G1 H1 I1 s1 m1 (wy (λGc H t1 t2 _=>hq.grow (t1.trans t2).grow) r)⟩⟩
  ·exact q.elim
 |_=>cases e
def cQ (lo:Int)(n:Nat):List D:=(List.range n).map λ(k:Nat)=>int (lo + k)
def kY (lo:Int)(n:Nat):(cQ lo n).length=n:=by unfold cQ;simp
def wC {K:Frag}{B:Option Addr}{G H1:Hp}(lo:Int)(n:Nat):Walk K B G H1 (cQ lo n) (BC lo n):=λGc H i s1 s2 m=>by
 rw[kY]
 refine⟨λhi=>⟨hi,λx H' y=>?_⟩,λhi=>hi⟩
 obtain⟨rfl,rfl⟩:=y
 refine⟨Gc,.int (lo + i),Ext.refl s2,?_,.int _⟩
 unfold cQ
 rw[NP,OZ hi];rfl
def u9 (j:Int):Bool:=Nat.ble j.natAbs 1000000
def iQ (h:u9 j=true): -(2 ^ 62)<=j/\j < 2 ^ 62:=by
 have:=Nat.le_of_ble_eq_true h
 omega
def la (h: -1000<=j)(h2:j<=10000):u9 j=true:=Nat.ble_eq_true_of_le (by omega)
def kC (fa:VF D):VF (List D):=λvs β=>(fa vs β).bnd λx β1=>match x with
 | .int j=>if u9 j=true then .ok (cQ 0 j.toNat) β1 else .bad
 |_=>.bad
def sg (fa fb:VF D):VF (List D):=λvs β=>(fa vs β).bnd λx β1=>(fb vs β1).bnd λy β2=>match x,y with
 | .int i,.int j=>if (u9 i && u9 j)=true then .ok (cQ i (j - i).toNat) β2 else .bad
 |_,_=>.bad
theorem sD {p:Pos}(hg:Gl X "range")(hm:X.mg "range"=none)(ha:SE X Γ E a fa La ma)(hs:starEach [a] X.env= [(false,eval a X.env)]:=by rfl)(hs':starEach [a] X.env=(false,eval a X.env) :: starEach [] X.env:=by rfl):SI X Γ E tg (.Call (.Name "range" p) [a] [] pos) (kC fa) La md:=by
 refine PI.post (lh hg hm (ak ha aN hs') hs) λσ H Q ⟨env,G,B,β,I,o⟩=>?_
 refine⟨env,G,B,β,I,o.bnd.imp λd1 β1 h x G1 H1 I1 s1 m1 vx=>?_⟩
 have vx:=vx.brw I.boxThere
 cases d1 with
 |int j=>
  obtain rfl:=vx.int
  dsimp only at h
  by_cases hj:u9 j=true
  ·rw[NG hj] at h
   exact⟨j,rfl,(iQ hj).1,(iQ hj).2,h _ G1 H1 I1 s1 m1 (wC 0 _)⟩
  ·rw[NL hj] at h;exact h.elim
 |_=>exact h.elim
def KH {p:Pos}(hg:Gl X "range")(hm:X.mg "range"=none)(ha:SE X Γ E a fa La ma)(hb:SE X Γ E b fb Lb mb)(hs:starEach [a,b] X.env= [(false,eval a X.env),(false,eval b X.env)]:=by rfl)(hs2:starEach [b] X.env= [(false,eval b X.env)]:=by rfl)(hs':starEach [a,b] X.env=(false,eval a X.env) :: starEach [b] X.env:=by rfl)(hs3:starEach [b] X.env=(false,eval b X.env) :: starEach [] X.env:=by rfl):SI X Γ E tg (.Call (.Name "range" p) [a,b] [] pos) (sg fa fb) (La ++ Lb) md:=by
 refine PI.post (AY hg hm (ak ha (ak hb aN hs3) hs') hs hs2) λσ H Q ⟨env,G,B,β,I,o⟩=>?_
 refine two (W:=λx y H2=>∃i j:Int,[x,y]= [.int i,.int j]/\(-(2 ^ 62)<=i/\i < 2 ^ 62/\ -(2 ^ 62)<=j/\j < 2 ^ 62)/\Q (BC i (j - i).toNat) H2) I (o.bnd.imp λd1 β1 h=>h.bnd.imp λd2 β2 h x y G2 H2 I2 s2 m2 bx by'=>?_)
 obtain⟨i,j,rfl,rfl⟩:∃i j,d1=.int i/\d2=.int j:=by
  cases d1 <;> cases d2 <;> first |exact h.elim |exact⟨_,_,rfl,rfl⟩
 obtain rfl:=bx.int
 obtain rfl:=by'.int
 dsimp only at h
 by_cases hj:(u9 i && u9 j)=true
 ·rw[NG hj] at h
  rw[N3] at hj
  exact⟨i,j,rfl,⟨(iQ hj.1).1,(iQ hj.1).2,(iQ hj.2).1,(iQ hj.2).2⟩,h _ G2 H2 I2 s2 m2 (wC i _)⟩
 ·rw[NL hj] at h;exact h.elim
inductive Tg where
 |nm (i:Nat)
 |two (i j:Nat)
def pairD:D->Option (D×D)
 | .tuple [x,y]=>some (x,y)
 |_=>none
def DU (h:pairD d=some (x,y)):d=.tuple [x,y]:=by
 unfold pairD at h
 split at h
 ·cases h;rfl
 ·cases h
def fZ:Tg->D->En->Option En
 | .nm i,d,env=>some (env.set i (.fz d))
 | .two i j,d,env=>(pairD d).map λp=>(env.set i (.fz p.1)).set j (.fz p.2)
def oz:Tg->D->List Nv->Option (List Nv)
 | .nm i,d,vs=>some (vs.set i (.da d))
 | .two i j,d,vs=>(pairD d).map λp=>(vs.set i (.da p.1)).set j (.da p.2)
def xo (env:En)(i:Nat)(s:Sl):vl (env.set i s)=(vl env).set i s.val:=by unfold vl;rw[List.map_set]
theorem EZ (t:Tg)(d:D)(env:En):(fZ t d env).map vl=oz t d (vl env):=by
 cases t with
 |nm i=>show some (vl _)=some _;rw[xo];rfl
 |two i j=>
  show ((pairD d).map _).map vl=(pairD d).map _
  cases pairD d with
  |none=>rfl
  |some p=>show some (vl _)=some _;rw[xo,xo];rfl
def gT (Γ:Fx)(t:Tg):TG:=λv σ H Q=>∃env G B β d env',SR Γ B G H σ env β/\Rp Γ.K G v d/\fZ t d env=some env'/\∀σ',SR Γ B G H σ' env' β->Q σ' H
def SG (X:Cx)(Γ:Fx)(tg:Expr)(t:Tg):Prop:=PG X tg (gT Γ t)
def PG.post {X:Cx}{tg:Expr}(h:PG X tg t)(m:∀v σ H Q,u v σ H Q->t v σ H Q):PG X tg u:=λpins s σ H v uu Q I r q=>h pins s σ H v uu Q I r (m v σ H Q q)
def gk (hN:X.N.Nodup)(hi:X.N[i]? =some x:=by rfl)(hx:Loc X.env.scope x:=by first |exact Or.inl rfl |exact Or.inr rfl)(hf:X.fn x=true\/X.env.scope.names.lookup x=some .local:=by first |exact .inl rfl |exact .inr rfl |assumption):SG X Γ (.Name x pos) (.nm i):=by
 refine PG.post (cP hN hi hx hf) λv σ H Q ⟨env,G,B,β,d,env',I,r,e,k⟩=>?_
 cases e
 exact k _ (I.set' i r)
theorem jM {i j:Nat}{x y:Str}{px py:Pos}{n:Nat}(hN:X.N.Nodup)(hc:X.calm=true:=by rfl)(hK:X.K=Γ.K:=by rfl)(hi:X.N[i]? =some x:=by rfl)(hj:X.N[j]? =some y:=by rfl)(hx:Loc X.env.scope x:=by first |exact Or.inl rfl |exact Or.inr rfl)(hy:Loc X.env.scope y:=by first |exact Or.inl rfl |exact Or.inr rfl)
  (hf:X.fn x=true\/X.env.scope.names.lookup x=some .local:=by first |exact .inl rfl |exact .inr rfl |assumption) (hf':X.fn y=true\/X.env.scope.names.lookup y=some .local:=by first |exact .inl rfl |exact .inr rfl |assumption):SG X Γ (.Tuple [.Name x px,.Name y py] n pos) (.two i j):=by
 refine PG.post (qj (n:=2) hc (dA (cP hN hi hx hf) (dA (cP hN hj hy hf') mr))) λv σ H Q ⟨env,G,B,β,d,env',I,r,e,k⟩=>?_
 rw[hK]
 have e:(pairD d).map (λp=>(env.set i (.fz p.1)).set j (.fz p.2))=some env':=e
 cases q:pairD d with
 |none=>rw[q] at e;cases e
 |some p=>
  obtain⟨dx,dy⟩:=p
  rw[q] at e
  cases e
  obtain rfl:=DU q
  cases r with
  | @tup p xs _ hq r=>
   cases r with
   |cons r1 r=>
    cases r with
    |cons r2 r=>
     cases r
     exact⟨p,_,rfl,hq.grow I.sub.grow,rfl,_,_,rfl,_,_,rfl,rfl,k _ ((I.set' i r1).set' j r2)⟩
def mE (t:Tg)(m:SF):List D->SF
 | []=>λenv β=>.nx env β
 |d :: ds=>λenv β=>match fZ t d env with
  |none=>.bad
  |some env1=>match m env1 β with
   | .nx env2 β2=>mE t m ds env2 β2
   | .ct env2 β2=>mE t m ds env2 β2
   | .bk env2 β2=>.nx env2 β2
   |r=>r
def di (t:Tg)(L:List Nat)(fi:VF (List D))(m:SF):SF:=λenv β=>toS (fi (vl env) β) λds β'=>mE t m ds (bt L env) β'
def eQ (hp:PassesOwn (model X.prog X.w) X.A X.env X.xe)(hc:X.calm=true)(hi:SI X Γ E tg e fi L .v)(hg:SG X Γ tg t)(hb:BN X Γ E x m)(hs:∀x,foldedSetIterable e X.env x=pure x:=by intro _;rfl):SS X Γ E (.For tg e x [] pos) (di t L fi m):=by
 refine PS.post (uQ hp hc hi hg hb hs) λN σ H ⟨env,G,B,β,I,o⟩=>?_
 refine⟨env,G,B,β,I,cC o λds β' q J G' H' I' s' m' w=>?_⟩
 have w:Walk Γ.K B G' (λ_=>none) ds J:=w
 refine⟨λi n σ H=>n=ds.length - i/\i<=ds.length/\∃env G1 B β,SR Γ B G1 H σ env β/\aw G' G1/\rF Γ E G1 N (mE t m (ds.drop i) env β),⟨ds.length,by simp,Oh _,bt L env,G',B,β',I',aw.refl _,by rw[List.drop_zero];exact rF.weak q s'⟩,?_⟩
 rintro i n σ H ⟨rfl,hi,env,G1,B1,β1,I1,s1,q⟩
 obtain⟨w1,w2⟩:=w G1 H i s1 I1.sub λb o e=>by cases e
 by_cases hlt:i < ds.length
 ·obtain⟨go,yl⟩:=w1 hlt
  refine .inr ⟨go,λσ H=>∃env G2 B β,SR Γ B G2 H σ env β/\aw G' G2/\rF Γ E G2 N (mE t m (ds.drop (i + 1)) env β),λσ2 H2 h=>⟨ds.length - (i + 1),by omega,rfl,hlt,h⟩,λx H2 y=>?_⟩
  obtain⟨G2,d,x2,ed,rd⟩:=yl x H2 y
  have I2:=I1.ext x2
  have q:=rF.weak q x2.gg
  rw[Qp hlt] at q
  have ed':ds[i]=d:=by rw[NC hlt] at ed;exact Option.some.inj ed
  rw[ed'] at q
  unfold mE at q
  cases eb:fZ t d env with
  |none=>rw[eb] at q;exact q.elim
  |some env1=>
   rw[eb] at q
   refine⟨env,G2,B1,β1,d,env1,I2,rd,eb,λσ3 I3=>⟨env1,G2,B1,β1,I3,?_⟩⟩
   have s2:=s1.trans x2.gg
   dsimp only at q
   cases r:m env1 β1 with
   |nx env2 β2=>rw[r] at q;exact λB2 G3 H3 σ2 I2 s3=>⟨env2,G3,B2,β2,I2,s2.trans s3,rF.weak q s3⟩
   |ct env2 β2=>rw[r] at q;exact λB2 G3 H3 σ2 I2 s3=>⟨env2,G3,B2,β2,I2,s2.trans s3,rF.weak q s3⟩
   |bk env2 β2=>rw[r] at q;exact λB2 G3 H3 σ2 I2 s3=>q B2 G3 H3 σ2 I2 s3
   |rt d fr β2=>rw[r] at q;exact q
   |exc c=>rw[r] at q;exact q
   |bad=>rw[r] at q;exact q
 ·have e:i=ds.length:=by omega
  subst e
  rw[List.drop_length] at q
  exact .inl ⟨w2 (NH _),q B1 G1 H σ I1 (aw.refl _)⟩
end
abbrev Fx.iS (Γ:Fx)(H0 G0:Hp)(par:List Addr)(br:Nat->Bool)(bx:Option Addr):Fx:=⟨Γ.K,H0,G0,par,Γ.ca,br,bx⟩
def gB (own:Nat)(ixs:List Nat)(vs:List Nv):List Nv:=List.replicate own .no ++ ixs.map λi=>(vs[i]?).getD .no
def JQ:Option Sl->Sl
 |some (.ow d)=>.br d
 |some s=>s
 |none=>.no
def benv (own:Nat)(ixs:List Nat)(env:En):En:=List.replicate own .no ++ ixs.map λi=>JQ env[i]?
theorem FE (o:Option Sl):(JQ o).val=(o.map Sl.val).getD .no:=by
 cases o with
 |none=>rfl
 |some s=>cases s <;> rfl
def FH (own:Nat)(ixs:List Nat)(env:En):vl (benv own ixs env)=gB own ixs (vl env):=by
 unfold vl benv gB
 rw[OO,List.map_replicate,PD]
 congr 1
 refine OG λi _=>?_
 show (JQ env[i]?).val=_
 rw[FE,NP]
def yR (env:En):Prop:=∀(i:Nat) (d:D),env[i]?≠some (.ow d)
theorem wg {env:En}(h:yR env)(L:List Nat):bt L env=env:=by
 unfold bt
 induction L with
 |nil=>rfl
 |cons i L ih=>
  rw[Qo]
  have:jj env i=env:=by
   unfold jj
   split
   ·rename_i d e;exact absurd e (h i d)
   ·rfl
  rw[this];exact ih
def sL (own:Nat)(ixs:List Nat)(env:En):yR (benv own ixs env):=λi d e=>by
 unfold benv at e
 have hm:=NU e
 rcases N7.mp hm with h |h
 ·have:=Pl h;cases this
 ·obtain⟨k,_,hk⟩:=NT.mp h
  cases q:env[k]? with
  |none=>rw[q] at hk;cases hk
  |some s=>rw[q] at hk;cases s <;> cases hk
def p4 {env:En}(h:yR env)(i:Nat)(d:D):yR (env.set i (.fz d)):=λj d' e=>by
 by_cases z:i=j
 ·subst z
  by_cases hi:i < env.length
  ·rw[NW hi] at e;cases e
  ·rw[Pk (by omega)] at e;exact h _ _ e
 ·rw[NX z] at e;exact h _ _ e
theorem AD {env env1:En}{t:Tg}(h:yR env)(e:fZ t d env=some env1):yR env1:=by
 cases t with
 |nm i=>cases e;exact p4 h i d
 |two i j=>
  have e:(pairD d).map _=some env1:=e
  cases q:pairD d with
  |none=>rw[q] at e;cases e
  |some p=>rw[q] at e;cases e;exact p4 (p4 h _ _) _ _
theorem Bg {env env1:En}{t:Tg}(e:fZ t d env=some env1)(d':D):fZ t d' env1=fZ t d' env:=by
 cases t with
 |nm i=>cases e;show some _=some _;rw[set_set]
 |two i j=>
  have e:(pairD d).map _=some env1:=e
  cases q:pairD d with
  |none=>rw[q] at e;cases e
  |some p=>
   rw[q] at e;cases e
   show (pairD d').map _=(pairD d').map _
   cases pairD d' with
   |none=>rfl
   |some p'=>
    show some _=some _
    congr 1
    dsimp only
    by_cases z:i=j
    ·subst z;simp[set_set]
    ·rw[List.set_comm _ _ (Ne.symm z),set_set,set_set]
def Ext.mov {G H G' H':Hp}(x:Ext G H G' H')(B:Option Addr):iy B H H':=x.hh.mov B
section
variable {Γ:Fx}{B:Option Addr}{G H G1 H1 Gc Hc:Hp}{σ σ':St}{env envb:En}{β β':Int}{own:Nat}{ixs:List Nat}{Da:Addr}{acc:List V}
def yS (envb:En):Nat->Bool:=λj=>match envb[j]? with
 |some (.br _)=>true
 |_=>false
def SR.block (I:SR Γ B G H σ env β)(own:Nat)(ixs:List Nat)(hD:H Da=none):SR (Γ.iS (upd H Da (.lst [])) G (Da :: B.toList) (yS (benv own ixs env)) B) B G (upd H Da (.lst [])) (bJ own ixs σ) (benv own ixs env) β:=by
 obtain⟨q1,q2,q3,q4⟩:=I.fresh hD
 have nB:∀b,B=some b->b≠Da:=λb e z=>q3 (by rw[<-z];exact e)
 refine⟨I.sub.trans (aw.new hD),aw.refl _,λb _ h=>h,λb o h _=>h,λb hb=>?_,λb e=>e,λb e=>?_,?_,λi s e=>?_,λi j c d d' e=>absurd e (sL own ixs env i d)⟩
 ·rcases NI.mp hb with z |z
  ·subst z;exact Mx.lst au
  ·have z':B=some b:=by simpa using z
   exact Mx.lst (by rw[aB (nB b z')];exact (I.box b z').1)
 ·obtain⟨h1,h2,_⟩:=I.box b e
  exact⟨by rw[aB (nB b e)];exact h1,h2,.inl (NJ _ (by simpa using e))⟩
 ·unfold bJ benv;simp
 ·by_cases hi:i < own
  ·unfold benv at e
   rw[Ow (by simpa using hi),O6,NG hi] at e
   cases e;trivial
  ·have e0:=e
   unfold benv at e
   rw[Oj (by simpa using hi),Pe,NP] at e
   cases ek:ixs[i - own]? with
   |none=>rw[ek] at e;cases e
   |some k=>
    rw[ek] at e
    have e:JQ env[k]? =s:=Option.some.inj e
    have es:(bJ own ixs σ)[i]? =some ((σ[k]?).join):=by
     unfold bJ
     rw[Oj (by simpa using hi),Pe,NP,ek];rfl
    rw[es]
    cases q:env[k]? with
    |none=>rw[q] at e;subst e;trivial
    |some t=>
     rw[q] at e
     have w:=I.slot k t q
     cases t with
     |no=>subst e;trivial
     |fz d=>subst e;obtain⟨v,h1,h2⟩:=w;exact⟨v,by rw[h1];rfl,h2⟩
     |bx=>subst e;obtain⟨a,h1,h2⟩:=w;exact⟨a,by rw[h1];rfl,h2⟩
     |ow d=>
      subst e
      obtain⟨a,h1,h2,h3,h4,h5⟩:=w
      obtain⟨o,ho⟩:=h5.obj
      have aD:a≠Da:=aL ho hD
      refine⟨by show yS _ i=true;unfold yS;rw[e0];rfl,a,by rw[h1];rfl,h4,?_,h5.mono (aw.refl _) λo q=>by rw[aB aD];exact q⟩
      intro hm
      rcases NI.mp hm with z |z
      ·exact aD z
      ·exact h4 (by simpa using z)
     |br d=>
      subst e
      obtain⟨b1,a,h1,h4,hp,h5⟩:=w
      obtain⟨o,ho⟩:=h5.obj
      have aD:a≠Da:=aL ho hD
      refine⟨by show yS _ i=true;unfold yS;rw[e0];rfl,a,by rw[h1];rfl,h4,?_,h5.mono (aw.refl _) λo q=>by rw[aB aD];exact q⟩
      intro hm
      rcases NI.mp hm with z |z
      ·exact aD z
      ·exact h4 (by simpa using z)
def SR.unblock (I:SR Γ B G H σ env β){br:Nat->Bool}(hD:H Da=none)(J:SR (Γ.iS (upd H Da (.lst [])) G (Da :: B.toList) br B) B Gc Hc σ' envb β'):SR Γ B Gc Hc σ env β'/\iy B H Hc/\Gc Da=none:=by
 obtain⟨q1,q2,q3,q4⟩:=I.fresh hD
 have up:∀{b:Addr},Mx H b->Mx (upd H Da (.lst [])) b:=λ{b} h=>h.same λo e=>by rw[aB (aL e hD)];exact e
 have mv:iy B H Hc:=λb o e n=>J.keep b o (show upd H Da (.lst []) b=some o by rw[aB (aL e hD)];exact e) λhm=>by
  rcases NI.mp hm with z |z
  ·rw[z,hD] at e;cases e
  ·exact n (by simpa using z)
 refine⟨⟨J.sub,I.old.trans J.old,λb h1 h2=>J.new b (up (I.thereM h1)) (I.new b h1 h2),λb o h1 h2=>mv b o (I.keep b o h1 h2) λz=>?_,λb hb=>J.thereM (up (I.pin b hb)),I.fix,λb e=>?_,I.len,λi s e=>?_,I.sep⟩,mv,J.new Da (Mx.lst (show upd H Da (.lst []) Da=some (.lst []) from au)) q2⟩
 ·obtain⟨_,_,h3⟩:=I.box b z
  rcases h3 with h3 |h3
  ·exact h2 h3
  ·rw[h1] at h3;cases h3
 ·obtain⟨j1,j2,_⟩:=J.box b e
  exact⟨j1,j2,(I.box b e).2.2⟩
 ·have w:=I.slot i s e
  cases s with
  |no=>trivial
  |fz d=>obtain⟨v,h1,h2⟩:=w;exact⟨v,h1,h2.mono J.old⟩
  |bx=>exact w
  |ow d=>
   obtain⟨a,h1,h2,h3,h4,h5⟩:=w
   exact⟨a,h1,h2,J.new a (up h5.mx) h3,h4,h5.mono J.old λo q=>mv a o q h4⟩
  |br d=>
   obtain⟨b1,a,h1,h4,hp,h5⟩:=w
   exact⟨b1,a,h1,h4,hp,h5.mono J.old λo q=>mv a o q h4⟩
def SR.updD (J:SR Γ B G H σ env β)(hp:Da∈Γ.par)(h0:Mx Γ.H0 Da)(g0:Γ.G0 Da=none)(hB:B≠some Da):SR Γ B G (upd H Da (.lst ys)) σ env β:=by
 have gD:=J.new Da h0 g0
 refine⟨λb u q=>by rw[aB (λz=>by rw[z,gD] at q;cases q)];exact J.sub b u q,J.old,J.new,λb u q n=>by rw[aB (λz=>n (by rw[z];exact hp))];exact J.keep b u q n,λb hb=>?_,J.fix,λb e=>?_,J.len,λi s e=>?_,J.sep⟩
 ·by_cases z:b=Da
  ·subst z;exact Mx.lst au
  ·exact (J.pin b hb).same λo e=>by rw[aB z];exact e
 ·obtain⟨h1,h2⟩:=J.box b e
  exact⟨by rw[aB (λz=>hB (by rw[<-z];exact e))];exact h1,h2⟩
 ·have w:=J.slot i s e
  cases s with
  |no=>trivial
  |fz d=>exact w
  |bx=>exact w
  |ow d=>
   obtain⟨a,h1,h2,h3,h4,h5⟩:=w
   have aD:a≠Da:=λz=>h0.1 (by rw[<-z];exact h2)
   exact⟨a,h1,h2,h3,h4,h5.mono (aw.refl _) λo q=>by rw[aB aD];exact q⟩
  |br d=>
   obtain⟨b1,a,h1,h4,hpa,h5⟩:=w
   have aD:a≠Da:=λz=>hpa (by rw[z];exact hp)
   exact⟨b1,a,h1,h4,hpa,h5.mono (aw.refl _) λo q=>by rw[aB aD];exact q⟩
end
def R.okb {α γ:Type}(r:R α)(k:α->Int->R γ):R γ:=match r with
 | .ok a β=>k a β
 |_=>.bad
def ic (t:Tg)(ft:VF Bool)(fe:VF D)(vs:List Nv):List D->Int->R (List D)
 | [],β=>.ok [] β
 |d :: ds,β=>match oz t d vs with
  |none=>.bad
  |some vs1=>(ft vs1 β).okb λc β1=>if c=true then (fe vs1 β1).okb λx β2=>(ic t ft fe vs ds β2).okb λxs β3=>.ok (x :: xs) β3 else ic t ft fe vs ds β1
def bh (own:Nat)(ixs:List Nat)(t:Tg)(fi:VF (List D))(ft:VF Bool)(fe:VF D):VF D:=λvs β=>(fi vs β).bnd λds β1=>if ds.length<=sizeLine then (ic t ft fe (gB own ixs vs) ds β1).okb λxs β2=>.ok (.list xs) β2 else .bad
def oH:VF Bool:=λ_ β=>.ok true β
def GW (own:Nat)(ixs Lc:List Nat)(j:Nat):Bool:=decide (j < own) || (match ixs[j - own]? with
 |some i=>Lc.contains i
 |none=>false)
theorem EV {α γ:Type}{Γ:Fx}{E:XK}{r:R α}{k:α->Int->R γ}{P:γ->Int->Prop}(h:Out Γ E (r.okb k) P):∃a β,r=.ok a β/\Out Γ E (k a β) P:=by
 cases r with
 |ok a β=>exact⟨a,β,rfl,h⟩
 |exc c=>exact h.elim
 |bad=>exact h.elim
section
variable {X:Cx}{Γ:Fx}{E:XK}{tg iter elt:Expr}{ifs:List Expr}{scope:Scope}{NB:List Str}{own:Nat}{ixs Li Lc Lt Le:List Nat}{t:Tg}{fi:VF (List D)}{ft:VF Bool}{fe:VF D}{pos:Pos}
def iK {X:Cx}{Γ:Fx}{E:XK}:CK X [] (qT Γ E oH []):=λpins s σ H Q I ⟨env,G,B,β,J,o⟩=>tY pins s σ H Q I (o G H J (aw.refl _) (iy.refl _ _))
def o6 {X:Cx}{Γ:Fx}{E:XK}(h:BF X Γ E c ta L):CK X [c] (qT Γ E ta L):=yY h
def vU {NB:List Str}{scope:Scope}:Passes (me P w) (iS X NB scope C ex s3 H3 pn) E0:=λpins σ H s e s' I h=>by
 obtain⟨_,_,_,_,_,_,_,_,_,q⟩:=h
 exact q.elim
abbrev gU (Γ:Fx)(t:Tg):TG:=λv σ H Q=>∃H0 G0 par br bx,gT (Γ.iS H0 G0 par br bx) t v σ H Q
abbrev tU (Γ:Fx)(own:Nat)(ixs Lc:List Nat)(ft:VF Bool)(Lt:List Nat):TT:=λσ H Q=>∃H0 G0 par br bx,(∀j,GW own ixs Lc j=true->br j=false)/\qT (Γ.iS H0 G0 par br bx) E0 ft Lt σ H Q
abbrev eU (Γ:Fx)(own:Nat)(ixs Lc:List Nat)(fe:VF D)(Le:List Nat):TE:=λσ H Q=>∃H0 G0 par br bx,(∀j,GW own ixs Lc j=true->br j=false)/\pT (Γ.iS H0 G0 par br bx) E0 fe Le .v σ H Q
def Hn {σ:St}{H:Hp}{Q:VK}(hLc:∀i,i∈Lc->Γ.br i=false)(h:pT Γ E (bh own ixs t fi ft fe) (Li ++ Lc) .w σ H Q):xk own ixs (iT Γ E fi Li .b) (gU Γ t) (tU Γ own ixs Lc ft Lt) (eU Γ own ixs Lc fe Le) σ H Q:=by
 obtain⟨env,G,B,β,I,o⟩:=h
 refine⟨env,G,B,β,I,o.bnd.imp λds β1 h J G1 H1 I1 s1 m1 wk Da hD=>?_⟩
 have wk:Walk Γ.K B G1 H1 ds J:=wk
 by_cases hz:ds.length<=sizeLine
 case neg=>rw[NL hz] at h;exact h.elim
 rw[NG hz] at h
 obtain⟨xs0,β0,e0,h⟩:=EV h
 have h:∀v G' H',SR Γ B G' H' σ (bt (Li ++ Lc) env) β0->aw G G'->iy B H H'->VO Γ.K B H G' H' .w (.list xs0) v->Q v H':=h
 obtain⟨G2,I2,s2⟩:=I1.bt Lc hLc
 rw[<-cw] at I2
 obtain⟨q1,q2,q3,q4⟩:=I2.fresh hD
 have Ib0:=I2.block own ixs hD
 generalize hbr:yS (benv own ixs (bt (Li ++ Lc) env))=br at Ib0
 have hbo:∀j,GW own ixs Lc j=true->br j=false:=by
  intro j hj
  rw[<-hbr]
  unfold yS
  split
  ·rename_i d e
   exfalso
   unfold benv at e
   by_cases hjo:j < own
   ·rw[Ow (by simpa using hjo),O6,NG hjo] at e;cases e
   ·rw[Oj (by simpa using hjo),Pe,NP] at e
    unfold GW at hj
    rw[NR hjo,Bool.false_or] at hj
    cases ek:ixs[j - own]? with
    |none=>rw[ek] at hj;cases hj
    |some k=>
     rw[ek] at hj e
     have hk:k∈Lc:=by simpa using hj
     have e:JQ (bt (Li ++ Lc) env)[k]? =.br d:=Option.some.inj e
     cases q:(bt (Li ++ Lc) env)[k]? with
     |none=>rw[q] at e;cases e
     |some s=>
      rw[q] at e
      cases s with
      |no=>cases e
      |fz _=>cases e
      |bx=>cases e
      |br d'=>
       obtain⟨b1,_⟩:=I2.slot k _ q
       rw[hLc k hk] at b1;cases b1
      |ow d'=>
       rw[cw] at q
       have key:∀(M:List Nat) (en:En),k∈M->∀d',(bt M en)[k]?≠some (.ow d'):=by
        intro M
        induction M with
        |nil=>intro en hm;cases hm
        |cons i M ih=>
         intro en hm d' z
         rcases NI.mp hm with y |y
         ·subst y
          have z1:(jj en k)[k]? =some (.ow d'):=uR (L:=M) z
          have z2:=zo z1
          unfold jj at z1
          rw[z2] at z1
          dsimp only at z1
          rw[NW (NV.mp z2).1] at z1;cases z1
         ·exact ih (jj en i) y d' z
       exact key Lc _ hk d' q
  ·rfl
 have evb:vl (benv own ixs (bt (Li ++ Lc) env))=gB own ixs (vl env):=by rw[FH,fg]
 refine⟨λi n σ' H'=>n=ds.length - i/\i<=ds.length/\∃envb Gc β' acc accd,SR (Γ.iS (upd H1 Da (.lst [])) G2 (Da :: B.toList) br B) B Gc H' σ' envb β'/\(envb=benv own ixs (bt (Li ++ Lc) env)\/∃d,fZ t d (benv own ixs (bt (Li ++ Lc) env))=some envb)/\
   H' Da=some (.lst acc)/\cc Γ.K Gc acc accd/\accd.length<=i/\∃xs,ic t ft fe (gB own ixs (vl env)) (ds.drop i) β'=.ok xs β0/\accd ++ xs=xs0,
  ⟨ds.length,by simp,Oh _,_,G2,β1,[],[],Ib0,.inl rfl,au,.nil,Oh _,xs0,by rw[List.drop_zero];exact e0,rfl⟩,?_⟩
 rintro i n σ' H' ⟨rfl,hi',envb,Gc,β',acc,accd,Ib,eb,hacc,racc,lacc,xs,ec,exs⟩
 obtain⟨Io,mv,gD⟩:=I2.unblock hD Ib
 obtain⟨w1,w2⟩:=wk Gc H' i (s2.trans Ib.old) Ib.sub mv
 by_cases hlt:i < ds.length
 ·obtain⟨go,yl⟩:=w1 hlt
  refine .inr ⟨go,λσ' H'=>∃envb Gc β' acc accd,SR (Γ.iS (upd H1 Da (.lst [])) G2 (Da :: B.toList) br B) B Gc H' σ' envb β'/\(envb=benv own ixs (bt (Li ++ Lc) env)\/∃d,fZ t d (benv own ixs (bt (Li ++ Lc) env))=some envb)/\
   H' Da=some (.lst acc)/\cc Γ.K Gc acc accd/\accd.length<=i + 1/\∃xs,ic t ft fe (gB own ixs (vl env)) (ds.drop (i + 1)) β'=.ok xs β0/\accd ++ xs=xs0,λσ2 H2 hh=>⟨ds.length - (i + 1),by omega,rfl,hlt,hh⟩,λx H2 y=>?_⟩
  obtain⟨G3,d,x3,ed,rd⟩:=yl x H2 y
  have I3:=Ib.ext x3
  have ed':ds[i]=d:=by rw[NC hlt] at ed;exact Option.some.inj ed
  rw[Qp hlt,ed'] at ec
  unfold ic at ec
  cases ebv:oz t d (gB own ixs (vl env)) with
  |none=>rw[ebv] at ec;cases ec
  |some vs1=>
   rw[ebv] at ec
   dsimp only at ec
   obtain⟨env1,eb1,ev1⟩:∃env1,fZ t d (benv own ixs (bt (Li ++ Lc) env))=some env1/\vl env1=vs1:=by
    have:=EZ t d (benv own ixs (bt (Li ++ Lc) env))
    rw[evb,ebv] at this
    cases q:fZ t d (benv own ixs (bt (Li ++ Lc) env)) with
    |none=>rw[q] at this;cases this
    |some env1=>rw[q] at this;exact⟨env1,rfl,Option.some.inj this⟩
   have eb2:fZ t d envb=some env1:=by
    rcases eb with rfl | ⟨d0,eb⟩
    ·exact eb1
    ·rw[Bg eb];exact eb1
   have no1:yR env1:=AD (sL _ _ _) eb1
   have a2:H2 Da=some (.lst acc):=x3.hh _ _ hacc
   refine⟨_,_,_,_,_,envb,G3,B,β',d,env1,I3,rd,eb2,λσ3 I4=>?_⟩
   refine⟨_,_,_,_,_,hbo,env1,G3,B,β',I4,?_⟩
   rw[ev1]
   cases et:ft vs1 β' with
   |exc c=>rw[et] at ec;cases ec
   |bad=>rw[et] at ec;cases ec
   |ok c β2=>
    rw[et] at ec
    intro G4 H4 I5 s4 m4
    rw[wg no1] at I5
    have a4:H4 Da=some (.lst acc):=m4 _ _ a2 q3
    cases c with
    |false=>
     refine qL ⟨env1,G4,β2,acc,accd,I5,.inr ⟨d,eb1⟩,a4,racc.mono (x3.gg.trans s4),by omega,xs,?_,exs⟩
     exact ec
    |true=>
     refine wZ ⟨_,_,_,_,_,hbo,env1,G4,B,β2,I5,?_⟩
     rw[ev1]
     have ec:((fe vs1 β2).okb λx β3=>(ic t ft fe (gB own ixs (vl env)) (ds.drop (i + 1)) β3).okb λxs β4=>R.ok (x :: xs) β4)=R.ok xs β0:=ec
     cases ee:fe vs1 β2 with
     |exc c=>rw[ee] at ec;cases ec
     |bad=>rw[ee] at ec;cases ec
     |ok dx β3=>
      rw[ee] at ec
      intro v G5 H5 I6 s5 m5 vo
      rw[wg no1] at I6
      have a5:H5 Da=some (.lst acc):=m5 _ _ a4 q3
      have ec:((ic t ft fe (gB own ixs (vl env)) (ds.drop (i + 1)) β3).okb λxs β4=>R.ok (dx :: xs) β4)=R.ok xs β0:=ec
      cases er:ic t ft fe (gB own ixs (vl env)) (ds.drop (i + 1)) β3 with
      |exc c=>rw[er] at ec;cases ec
      |bad=>rw[er] at ec;cases ec
      |ok ys β4=>
       rw[er] at ec
       cases ec
       refine⟨acc,a5,by rw[racc.len];omega,env1,G5,β3,acc ++ [v],accd ++ [dx],?_,.inr ⟨d,eb1⟩,au,(racc.mono ((x3.gg.trans s4).trans s5)).snoc vo,by rw[Oe];simp;omega,ys,er,by rw[<-exs,Pp];rfl⟩
       refine I6.updD (NN ..) (Mx.lst (show upd H1 Da (.lst []) Da=some (.lst []) from au)) (I2.sub.free hD) q3
 ·have e:i=ds.length:=by omega
  subst e
  rw[List.drop_length] at ec
  cases ec
  rw[PH] at exs
  subst exs
  refine .inl ⟨w2 (NH _),⟨acc,hacc⟩,h _ Gc H' Io ((s1.trans s2).trans Ib.old) (m1.trans mv) ⟨Da,rfl,gS m1 I1.boxThere hD,gD,acc,hacc,racc⟩⟩
def bU (hg:∀H0 G0 par br bx C ex s3 H3 pn,SG (iS X NB scope C ex s3 H3 pn) (Γ.iS H0 G0 par br bx) tg t)(C:Addr)(ex:List Addr)(s3:Shared)(H3:Hp)(pn:List (Addr×Obj)):PG (iS X NB scope C ex s3 H3 pn) tg (gU Γ t):=by
 rintro pins s σ H v u Q I r ⟨H0,G0,par,br,bx,q⟩
 exact hg H0 G0 par br bx C ex s3 H3 pn pins s σ H v u Q I r q
def fT (Lc:List Nat)(hc:X.calm=true)(S:cZ X NB own ixs scope)(hLc:∀i,i∈Lc->Γ.br i=false)(hi:SI X Γ E tg iter fi Li .b)
  (hg:∀H0 G0 par br bx C ex s3 H3 pn,SG (iS X NB scope C ex s3 H3 pn) (Γ.iS H0 G0 par br bx) tg t)
  (ht:∀H0 G0 par br bx C ex s3 H3 pn,(∀j,GW own ixs Lc j=true->br j=false)->CK (iS X NB scope C ex s3 H3 pn) ifs (qT (Γ.iS H0 G0 par br bx) E0 ft Lt))
  (he:∀H0 G0 par br bx C ex s3 H3 pn,(∀j,GW own ixs Lc j=true->br j=false)->SE (iS X NB scope C ex s3 H3 pn) (Γ.iS H0 G0 par br bx) E0 elt fe Le .v)
  (hs:∀x,foldedSetIterable iter X.env x=pure x:=by intro _;rfl) :
  SE X Γ E (.ListComp elt [⟨tg,iter,ifs,0⟩] scope pos) (bh own ixs t fi ft fe) (Li ++ Lc) .w:=by
 refine PE.post' (wX (g:=gU Γ t) (tt:=tU Γ own ixs Lc ft Lt) (te:=eU Γ own ixs Lc fe Le) hc S hi (bU hg) (λC ex s3 H3 pn=>?_) (λC ex s3 H3 pn=>?_) hs) λσ H Q h=>Hn hLc h
 ·rintro pins s σ H Q I ⟨H0,G0,par,br,bx,b,q⟩
  exact ht H0 G0 par br bx C ex s3 H3 pn b pins s σ H Q I q
 ·rintro pins s σ H Q I ⟨H0,G0,par,br,bx,b,q⟩
  exact he H0 G0 par br bx C ex s3 H3 pn b pins s σ H Q I q
def z6 {y:Str}{py spos:Pos}(Lc:List Nat)(hc:X.calm=true)(S:cZ X NB own ixs scope)(hLc:∀i,i∈Lc->Γ.br i=false)(hi:SI X Γ E tg iter fi Li .b)
  (hg:∀H0 G0 par br bx C ex s3 H3 pn,SG (iS X NB scope C ex s3 H3 pn) (Γ.iS H0 G0 par br bx) tg t)
  (ht:∀H0 G0 par br bx C ex s3 H3 pn,(∀j,GW own ixs Lc j=true->br j=false)->CK (iS X NB scope C ex s3 H3 pn) ifs (qT (Γ.iS H0 G0 par br bx) E0 ft Lt))
  (he:∀H0 G0 par br bx C ex s3 H3 pn,(∀j,GW own ixs Lc j=true->br j=false)->SE (iS X NB scope C ex s3 H3 pn) (Γ.iS H0 G0 par br bx) E0 elt fe Le .v)
  (hN:X.N.Nodup) (hy:X.N[i]? =some y:=by rfl) (hl:X.env.scope.names.lookup y=some .local:=by rfl)
  (hsw:swapsWith (.ListComp elt [⟨tg,iter,ifs,0⟩] scope pos) (some (.Name y py)) spos.line X.env=pure true:=by rfl)
  (hs:∀x,foldedSetIterable iter X.env x=pure x:=by intro _;rfl) :
  SS X Γ E (.Assign [.Name y py] (.ListComp elt [⟨tg,iter,ifs,0⟩] scope pos) spos) (a7 i (Li ++ Lc) (bh own ixs t fi ft fe)):=by
 refine PS.post (B5 (g:=gU Γ t) (tt:=tU Γ own ixs Lc ft Lt) (te:=eU Γ own ixs Lc fe Le) hc S hi (bU hg) (λC ex s3 H3 pn=>?_) (λC ex s3 H3 pn=>?_) hN hy hl hsw hs) λN σ H ⟨env,G,B,β,I,o⟩=>?_
 ·rintro pins s σ H Q I ⟨H0,G0,par,br,bx,b,q⟩
  exact ht H0 G0 par br bx C ex s3 H3 pn b pins s σ H Q I q
 ·rintro pins s σ H Q I ⟨H0,G0,par,br,bx,b,q⟩
  exact he H0 G0 par br bx C ex s3 H3 pn b pins s σ H Q I q
 refine Hn hLc ⟨env,G,B,β,I,cC o λd β' k v G' H' I' s' m' vo=>?_⟩
 obtain⟨G2,I2,s2,r⟩:=I.letW I' vo
 exact k B G2 H' _ (I2.set' i r) (s'.trans s2)
end
def fin:SO->FR
 | .nx _ _=>.ok .none false
 | .rt d fr _=>.ok d fr
 | .exc c=>.exc c
 |_=>.bad
def Bc (n:Nat)(ds:List D):En:=ds.map Sl.fz ++ List.replicate (n - ds.length) .no
def bA (n p:Nat)(m:SF):List D->FR:=λds=>if ds.length=p then fin (m (Bc n ds) 0) else .bad
abbrev Fx.fn (K:Frag)(H G:Hp)(ca:Str->Addr):Fx:=⟨K,H,G,[],ca,λ_=>false,none⟩
def SR.start {K:Frag}{ca:Str->Addr}(s:aw G H)(r:cc K G vs ds)(hn:ds.length<=N.length):SR (Fx.fn K H G ca) none G H (start N vs) (Bc N.length ds) 0:=by
 have hl:=r.len
 refine⟨s,aw.refl _,λb _ h=>h,λb o h _=>h,λb h=>(by cases h),λb h=>(by cases h),λb h=>(by cases h),?_,λi t e=>?_,λi j a d e h=>?_⟩
 ·unfold L2.start Bc;simp;omega
 ·unfold Bc at e
  by_cases hi:i < ds.length
  ·rw[Ow (by simpa using hi),NP,NC hi] at e
   cases e
   obtain⟨x,hx,rx⟩:=r.at (NC hi)
   refine⟨x,?_,rx⟩
   unfold L2.start
   rw[Ow (by simpa[hl] using hi),NP,hx];rfl
  ·rw[Oj (by simpa using hi),O6] at e
   split at e
   ·cases e;trivial
   ·cases e
 ·unfold Bc at h
  have hm:=NU h
  rcases N7.mp hm with z |z
  ·obtain⟨_,_,z⟩:=NT.mp z;cases z
  ·have:=Pl z;cases this
section
variable {P:Program}{w:World}{K:Frag}{mg:Str->Option Value}{base:Heap}{ca:Str->Addr}
def bb {st:Stmt}{f:Addr}{k:Nat}{m:SF}(F:BK K x qual st f fd)(S:aK N ps (av st))
  (hbody:∀(cdv:Value) (A:Around) (outer:List Env) (s:Shared) (H G:Hp) (E:XK),dZ k (A.deeper (envOfC qual (av st) s.heap.objs.size f cdv))->BN (kE (me P w) P w K mg base N qual (av st) f cdv A outer s H E) (Fx.fn K H G ca) E (bX st) m) :
  gj P w K mg base (me P w) (k + 1) f fd ps (Ez K ca ps.length (bA N.length ps.length m)):=by
 have hpn:ps.length<=N.length:=by have:=congrArg List.length S.pre;rw[OP] at this;omega
 refine F.u9 S (λvs H Q E h=>?_) (λcdv A outer s H vs Q E hr h=>?_)
 ·obtain⟨G,ds,sG,hl,r,_⟩:=h
  rw[r.len];exact hl
 ·obtain⟨G,ds,sG,hl,r,h⟩:=h
  refine⟨_,hbody cdv A outer s H G E hr,?_⟩
  have I:=SR.start (ca:=ca) (N:=N) sG r (by omega)
  refine⟨_,G,none,0,I,?_⟩
  unfold bA at h
  rw[NG hl] at h
  have fin':∀{B G' H' σ env β},SR (Fx.fn K H G ca) B G' H' σ env β->aw H H':=λJ b o e=>J.keep b o e (λz=>by cases z)
  cases q:m (Bc N.length ds) 0 with
  |nx env β=>rw[q] at h;exact λB G' H' σ J s'=>h .non G' H' (fin' J) s' J.sub (λb h1 h2=>J.new b h1 h2) Rp.non
  |bk env β=>rw[q] at h;exact h.elim
  |ct env β=>rw[q] at h;exact h.elim
  |rt d fr β=>
   rw[q] at h
   refine λB G' H' σ env v J s' rv=>h v G' H' (fin' J) s' J.sub (λb h1 h2=>J.new b h1 h2) ?_
   cases fr with
   |true=>exact rv
   |false=>exact rv
  |exc c=>rw[q] at h;exact λH' kp=>h H' λb o e=>kp b o e (λz=>by cases z)
  |bad=>rw[q] at h;exact h.elim
def EO {F F':List D->FR}(h:∀ds,ds.length=n->F' ds≠.bad->F ds=F' ds){E:XK}(q:Ez K ca n F' vs H Q E):Ez K ca n F vs H Q E:=by
 obtain⟨G,ds,s,hl,r,q⟩:=q
 refine⟨G,ds,s,hl,r,?_⟩
 by_cases hb:F' ds=.bad
 ·rw[hb] at q;exact q.elim
 ·rw[h ds hl hb];exact q
def cK.imp {F F':List D->FR}(h:cK P w K mg base ca x ps k F)(i:∀ds,F' ds≠.bad->F ds=F' ds):cK P w K mg base ca x ps k F':=by
 obtain⟨f,fd,a,b,c,d⟩:=h.ex
 exact⟨⟨f,fd,a,b,c,d.imp λvs H Q E q=>EO (λds _=>i ds) q⟩,λds hn=>h.len ds (by rw[i ds hn];exact hn)⟩
def aX (ds:List D)(h:bA n p m ds≠.bad):ds.length=p:=by
 unfold bA at h
 by_cases hl:ds.length=p
 ·exact hl
 ·rw[NL hl] at h;exact absurd rfl h
def pO {N:List Str}{qual:Str}{scope:Scope}{f:Addr}{cd:Value}{A:Around}{outer:List Env}{s0:Shared}{H0:Hp}{E:XK}{Γ:Fx}{np cpos pos:Pos}{e0:Expr}{es:List Expr}{fr:VF (List D)}{L:List Nat}(q:PySem.W.excIn K C [.type "ValueError",.type "Exception",.type "BaseException",.type "object"] "ValueError.__new__"=true)(hca:Γ.ca x=C)
  (hg:Gl (kE (me P w) P w K mg base N qual scope f cd A outer s0 H0 E) x) (hm:mg x=some (.ref C)) (ha:SA (kE (me P w) P w K mg base N qual scope f cd A outer s0 H0 E) Γ E (e0 :: es) fr L)
  (he:starEach (e0 :: es) (envOfC qual scope s0.heap.objs.size f cd)=(false,eval e0 (envOfC qual scope s0.heap.objs.size f cd)) :: starEach es (envOfC qual scope s0.heap.objs.size f cd):=by rfl)
  (hpl:(backTo cpos (starEach es (envOfC qual scope s0.heap.objs.size f cd))).any (·.1)=false:=by rfl) (hdb:(x == ("__debug__":Str))=false:=by decide) :
  SS (kE (me P w) P w K mg base N qual scope f cd A outer s0 H0 E) Γ E (.Raise (some (.Call (.Name x np) (e0 :: es) [] cpos)) none pos) (λenv β=>toS (fr (vl env) β) λds _=>if ds.length<=sizeLine then .exc x else .bad):=by
 refine PS.post (D0 PySem.F.excBase_ValueError (by decide +kernel) q hg hm ha he hpl hdb) λD σ H ⟨env,G,B,β,I,o⟩=>?_
 refine⟨env,G,B,β,I,cC o λds β' k vs G' H' I' s' m' r=>?_⟩
 by_cases hz:ds.length<=sizeLine
 ·rw[NG hz] at k
  refine⟨by rw[r.len];exact hz,?_⟩
  have:=k H' (I'.kp (aw.refl _))
  rw[hca] at this
  exact this
 ·rw[NL hz] at k;exact k.elim
end
section
variable {X:Cx}{Γ:Fx}{E:XK}{e a b c:Expr}{f fa fb:VF D}{L La Lb:List Nat}{md ma mb:Md}{pos apos cpos np:Pos}
def tO:Option Sl->Bool
 |some (.ow (.list _))=>true
 |_=>false
theorem pe (h:tO o=true):∃ds,o=some (.ow (.list ds)):=by
 cases o with
 |none=>cases h
 |some s=>
  cases s with
  |ow d=>cases d with
   |list ds=>exact⟨ds,rfl⟩
   |_=>cases h
  |_=>cases h
def IY (i:Nat)(env:En)(β:Int)(g:List D->Option (List D)):SO:=match env[i]? with
 |some (.ow (.list ds))=>(match g ds with
  |some es=>.nx (env.set i (.ow (.list es))) β
  |none=>.bad)
 |_=>.bad
def l0 (i:Nat)(L:List Nat)(f:VF D):SF:=λenv β=>if tO env[i]? =true then toS (f (vl env) β) λd β'=>IY i (bt L env) β' λds=>if ds.length < sizeLine then some (ds ++ [d]) else none else .bad
def tJ {Γ:Fx}{E:XK}{g:List D->Option (List D)}(h:rF Γ E G N (IY i env β g)):∃ds es,env[i]? =some (.ow (.list ds))/\g ds=some es/\rF Γ E G N (.nx (env.set i (.ow (.list es))) β):=by
 unfold IY at h
 split at h
 ·rename_i ds q
  cases e:g ds with
  |none=>rw[e] at h;exact h.elim
  |some es=>rw[e] at h;exact⟨ds,es,q,e,h⟩
 ·exact h.elim
def ll (i:Nat)(hb:∀j,Γ.br j=false)(he:SE X Γ E e f L .v)(hN:X.N[i]? =some x:=by rfl)(hv:xm X.env.scope x:=by first |exact Or.inl rfl |exact Or.inr (Or.inl rfl) |exact Or.inr (Or.inr rfl))(hd:(x == ("__debug__":Str))=false:=by decide)
  (hcd:(x == ("__classdict__":Str))=false:=by decide)
  (hbase:attributeBase (.Name x np) "append" X.env (eval (.Name x np) X.env)=eval (.Name x np) X.env:=by rfl)
  (hfew:((backTo cpos (starEach [e] X.env)).all (λx=> !x.1) && (backToKw cpos (keywordEach [] X.env)).all (λx=>x.1.isSome)
   && decide ([e].length + ([]:List Keyword).length + (if ([]:List Keyword).isEmpty then 0 else 1) < 30))=true:=by rfl)
  (hline:(apos.endLine == cpos.line)=true:=by rfl) (hs:starEach [e] X.env=(false,eval e X.env) :: starEach [] X.env:=by rfl)
  (hsw:swapsWith (.Call (.Attribute (.Name x np) "append" apos) [e] [] cpos) none pos.line X.env=pure false:=by rfl) :
  SS X Γ E (.Expr (.Call (.Attribute (.Name x np) "append" apos) [e] [] cpos) pos) (l0 i L f):=by
 refine PS.post (tG (wK Pw PySem.F.slot_list_append PySem.F.type_list_append og (iX hN hv hd hcd) (ak he aN hs) hbase hfew hline hs rfl) hsw) λN σ H ⟨env,G,B,β,I,o⟩=>?_
 unfold l0 at o
 by_cases hO:tO env[i]? =true
 case neg=>rw[NL hO] at o;exact o.elim
 rw[NG hO] at o
 obtain⟨ds0,q0⟩:=pe hO
 obtain⟨p,h1,_,_,_,xs,h5,_⟩:=I.slot i _ q0
 refine⟨_,h1,.inl ⟨rfl,xs,.inl (.inl h5)⟩,?_⟩
 refine⟨env,G,B,β,I,cC o λd β' k v G' H' I' s' m' vo=>?_⟩
 obtain⟨ds,es,q,eg,k⟩:=tJ k
 by_cases hz:ds.length < sizeLine
 case neg=>rw[NL hz] at eg;cases eg
 rw[NG hz] at eg
 cases eg
 obtain⟨p',g1,_,_,_,ys,g5,g6⟩:=I'.slot i _ q
 rw[h1] at g1;cases g1
 refine⟨p,ys,v,rfl,rfl,g5,by rw[g6.len];exact hz,?_⟩
 exact k B G' _ σ (I'.write hb q h1 λH2 e2 s2=>⟨_,e2,g6.snoc vo⟩) s'
def Inv.lstR (I:Inv X pins σ H s)(hH:Rd H l (.lst xs)):xs.length<=sizeLine/\∃(its:List Value) (n:Nat),Vals xs its/\xs.length=its.length/\s.heap.get? l=some {cls:=.type "list",data:=.seq its.toArray n}:=by
 obtain⟨z,its,n,r,e⟩:=hH.ok I.hok
 exact⟨z,its,n,r,r.length,e⟩
def mD (i:Nat)(Le Li:List Nat)(fe fi:VF D):SF:=λenv β=>toS (fe (vl env) β) λd β1=>if tO (bt Le env)[i]? =true then toS (fi (vl env) β1) λk β2=>IY i (bt (Le ++ Li) env) β2 λds=>match k with
 | .int j=>(uW ds.length j).map λn=>ds.set n d
 |_=>none else .bad
theorem ug (i:Nat){spos:Pos}(hb:∀j,Γ.br j=false)(he:SE X Γ E e f La .v)(hi:SE X Γ E a fa Lb mb)(hN:X.N[i]? =some x:=by rfl)(hv:xm X.env.scope x:=by first |exact Or.inl rfl |exact Or.inr (Or.inl rfl) |exact Or.inr (Or.inr rfl))(hd:(x == ("__debug__":Str))=false:=by decide)
  (hcd:(x == ("__classdict__":Str))=false:=by decide)
  (hA:∀v,assign (.Subscript (.Name x np) a spos) X.env v=(do
   let ov <-holding [v] (eval (.Name x np) X.env)
   let iv <-holding [v,ov] (eval a X.env)
   standAt spos
   holding [v,ov,iv] (setItem ov iv v)
   release [v,ov,iv] []):=by intro _;rfl)
  (hs:swapsWithSole [.Subscript (.Name x np) a spos] e pos.line X.env=pure false:=by rfl) (hw:swappedStores [.Subscript (.Name x np) a spos] e X.env=pure none:=by rfl)
  (h1:(assignEach [.Subscript (.Name x np) a spos] X.env).map (·.2)= [assign (.Subscript (.Name x np) a spos) X.env]:=by rfl) :
  SS X Γ E (.Assign [.Subscript (.Name x np) a spos] e pos) (mD i La Lb f fa):=by
 refine PS.post (qc he (tw (iX hN hv hd hcd) hi set_list hA) hs hw h1) λN σ H ⟨env,G,B,β,I,o⟩=>?_
 refine⟨env,G,B,β,I,cC o λd β1 o v G1 H1 I1 s1 m1 vo=>?_⟩
 by_cases hO:tO (bt La env)[i]? =true
 case neg=>rw[NL hO] at o;exact o.elim
 rw[NG hO] at o
 obtain⟨ds0,q0⟩:=pe hO
 obtain⟨p,h1,_,_,_,xs,h5,_⟩:=I1.slot i _ q0
 refine⟨_,h1,bt La env,G1,B,β1,I1,?_⟩
 rw[fg]
 refine cC o λk β2 o w G2 H2 I2 s2 m2 vi=>?_
 rw[<-cw] at I2
 obtain⟨ds,es,q,eg,o⟩:=tJ o
 cases k with
 |int j=>
  dsimp only at eg
  obtain rfl:=(vi.brw I1.boxThere).int
  obtain⟨p',g1,_,_,_,ys,g5,g6⟩:=I2.slot i _ q
  rw[h1] at g1;cases g1
  cases en:uW ds.length j with
  |none=>rw[en] at eg;cases eg
  |some n=>
   rw[en] at eg
   cases eg
   have vo:Rp Γ.K G1 v d:=vo
   refine⟨p,ys,j,n,rfl,rfl,g5,by rw[g6.len];exact en,?_⟩
   exact o B G2 _ σ (I2.write hb q h1 λH3 e3 s3=>⟨_,e3,g6.set (vo.mono s2) n⟩) (s1.trans s2)
 |_=>cases eg
end
section
variable {K:Frag}{X:Cx}
def oI {g:Int->Int->V}{gd:D->D->Option D}(h:∀dx dy d,gd dx dy=some d->∃i j,dx=.int i/\dy=.int j/\∀G,Rp K G (g i j) d):lZ K (tL g) gd .v:=by
 intro B G H x y dx dy d Q s hB bx by' e k
 obtain⟨i,j,rfl,rfl,r⟩:=h _ _ _ e
 obtain rfl:=bx.int
 obtain rfl:=by'.int
 exact⟨i,j,rfl,rfl,k _ G H (Ext.refl s) (r G)⟩
def wF {C:Int->Int->Prop}{g:Int->Int->V}{gd:D->D->Option D}(h:∀dx dy d,gd dx dy=some d->∃i j,dx=.int i/\dy=.int j/\C i j/\∀G,Rp K G (g i j) d):lZ K (rI C g) gd .v:=by
 intro B G H x y dx dy d Q s hB bx by' e k
 obtain⟨i,j,rfl,rfl,c,r⟩:=h _ _ _ e
 obtain rfl:=bx.int
 obtain rfl:=by'.int
 exact⟨i,j,rfl,rfl,c,k _ G H (Ext.refl s) (r G)⟩
def gI (c:Int->Int->Bool)(g:Int->Int->D):D->D->Option D
 | .int i,.int j=>if c i j=true then some (g i j) else none
 |_,_=>none
def uV (g:Int->Int->D):D->D->Option D
 | .int i,.int j=>some (g i j)
 |_,_=>none
def w8 {c:Int->Int->Bool}{g:Int->Int->D}(h:gI c g dx dy=some d):∃i j,dx=.int i/\dy=.int j/\c i j=true/\d=g i j:=by
 unfold gI at h
 split at h
 ·split at h
  ·cases h;exact⟨_,_,rfl,rfl,by assumption,rfl⟩
  ·cases h
 ·cases h
def iU {g:Int->Int->D}(h:uV g dx dy=some d):∃i j,dx=.int i/\dy=.int j/\d=g i j:=by
 unfold uV at h
 split at h
 ·cases h;exact⟨_,_,rfl,rfl,rfl⟩
 ·cases h
def oF:D->D->Option D:=uV λi j=>.int (i - j)
def vc:lZ K (tL λi j=>.int (i - j)) oF .v:=oI λdx dy d h=>by obtain⟨i,j,rfl,rfl,rfl⟩:=iU h;exact⟨i,j,rfl,rfl,λ_=>.int _⟩
def B4:D->D->Option D:=gI (λ_ j=>decide (0 < j) && decide (j < 1073741824)) λi j=>.int (i / j)
def FW:lZ K (rI ES λi j=>.int (i / j)) B4 .v:=wF λdx dy d h=>by obtain⟨i,j,rfl,rfl,c,rfl⟩:=w8 h;exact⟨i,j,rfl,rfl,by simpa[ES] using c,λ_=>.int _⟩
def mC:D->D->Option D:=gI (λ_ j=>decide (0 < j)) λi j=>.int (i % j)
def sf:lZ K (rI (λ_ j=>0 < j) λi j=>.int (i % j)) mC .v:=wF λdx dy d h=>by obtain⟨i,j,rfl,rfl,c,rfl⟩:=w8 h;exact⟨i,j,rfl,rfl,by simpa using c,λ_=>.int _⟩
def Gx (i j:Int):Bool:=decide (0<=j) && decide (j<=1000000) && decide (i.natAbs < 2 ^ 64)
def AF:D->D->Option D:=gI Gx λi j=>.int (i ^ j.toNat)
def zp (h:Gx i j=true):DY i j:=by
 unfold Gx at h
 simp only[N3,N4] at h
 exact⟨h.1.1,h.1.2,h.2⟩
def GS:lZ K (rI DY λi j=>.int (i ^ j.toNat)) AF .v:=wF λdx dy d h=>by obtain⟨i,j,rfl,rfl,c,rfl⟩:=w8 h;exact⟨i,j,rfl,rfl,zp c,λ_=>.int _⟩
def xE:D->D->Option D:=gI Gx λi j=>.int (i * 2 ^ j.toNat)
def Hj:lZ K (rI DY λi j=>.int (i * 2 ^ j.toNat)) xE .v:=wF λdx dy d h=>by obtain⟨i,j,rfl,rfl,c,rfl⟩:=w8 h;exact⟨i,j,rfl,rfl,zp c,λ_=>.int _⟩
def Cr:D->D->Option D:=uV λi j=>.int (Builtin.bitAnd i j)
def JN:lZ K (tL λi j=>.int (Builtin.bitAnd i j)) Cr .v:=oI λdx dy d h=>by obtain⟨i,j,rfl,rfl,rfl⟩:=iU h;exact⟨i,j,rfl,rfl,λ_=>.int _⟩
def Nd:D->D->Option D:=uV λi j=>.int (Builtin.bitOr i j)
def Mh:lZ K (tL λi j=>.int (Builtin.bitOr i j)) Nd .v:=oI λdx dy d h=>by obtain⟨i,j,rfl,rfl,rfl⟩:=iU h;exact⟨i,j,rfl,rfl,λ_=>.int _⟩
def xc:D->D->Option D:=uV λi j=>.bool (decide (i < j))
def BP:D->D->Option D:=uV λi j=>.bool (decide (i<=j))
def MV:D->D->Option D:=uV λi j=>.bool (decide (j < i))
def Mv:D->D->Option D:=uV λi j=>.bool (decide (j<=i))
def Eh:lZ K (tL λi j=>.bl (decide (i < j))) xc .v:=oI λdx dy d h=>by obtain⟨i,j,rfl,rfl,rfl⟩:=iU h;exact⟨i,j,rfl,rfl,λ_=>.bl _⟩
def HG:lZ K (tL λi j=>.bl (decide (i<=j))) BP .v:=oI λdx dy d h=>by obtain⟨i,j,rfl,rfl,rfl⟩:=iU h;exact⟨i,j,rfl,rfl,λ_=>.bl _⟩
def LX:lZ K (tL λi j=>.bl (decide (j < i))) MV .v:=oI λdx dy d h=>by obtain⟨i,j,rfl,rfl,rfl⟩:=iU h;exact⟨i,j,rfl,rfl,λ_=>.bl _⟩
def MG:lZ K (tL λi j=>.bl (decide (j<=i))) Mv .v:=oI λdx dy d h=>by obtain⟨i,j,rfl,rfl,rfl⟩:=iU h;exact⟨i,j,rfl,rfl,λ_=>.bl _⟩
mutual
theorem zN:∀d:D,d.canLay0=true->CS d=true
 | .none,_=>rfl
 | .bool _,_=>rfl
 | .int _,_=>rfl
 | .str _,_=>rfl
 | .list ds,h=>by simp only[PyData.canLay0] at h;simp only[CS];exact qJ ds h
 | .tuple ds,h=>by simp only[PyData.canLay0] at h;simp only[CS];exact qJ ds h
 | .dict _,h=>by simp[PyData.canLay0] at h
theorem qJ:∀ds:List D,PyData.canLayAll0 ds=true->rA ds=true
 | [],_=>rfl
 |d :: ds,h=>by
  simp only[PyData.canLayAll0,N3] at h
  simp only[rA,N3]
  exact⟨zN d h.1,qJ ds h.2⟩
end
def tM (h:SeqAt.shaped d=true):CS d=true:=zN d (Qd h)
theorem zW:∀{ds:List D},(ds.all SeqAt.shaped)=true->rA ds=true
 | [],_=>rfl
 |d :: ds,h=>by
  rw[all_cons,N3] at h
  simp only[rA,N3]
  exact⟨tM h.1,zW h.2⟩
def dX (neg:Bool)(x y:D):Option D:=if (SeqAt.shaped x && SeqAt.shaped y)=true then some (.bool (if neg then !PyData.eqv x y else PyData.eqv x y)) else none
def ie :lZ K (Hs K neg) (dX neg) .v:=by
 intro B G H x y dx dy d Q s hB bx by' e k
 unfold dX at e
 split at e
 ·rename_i h
  rw[N3] at h
  cases e
  exact⟨dx,dy,(bx.rpH s).rep (tM h.1),(by'.rpH s).rep (tM h.2),h.1,h.2,k _ G H (Ext.refl s) (.bl _)⟩
 ·cases e
def Ey (neg:Bool)(x y:D):Option D:=match j9 y with
 |some ds=>if (SeqAt.shaped x && ds.all SeqAt.shaped)=true then some (.bool (if neg then !(ds.any λe=>PyData.eqv e x) else ds.any λe=>PyData.eqv e x)) else none
 |none=>none
theorem lW.seq (h:lW K B G H v d)(e:j9 d=some ds)(s:aw G H):∃a xs,v=.ref a/\(fj K H a xs\/dU K H a xs)/\cc K G xs ds:=by
 cases d with
 |list l=>cases e;obtain⟨a,xs,e,q,r⟩:=h.list s;exact⟨a,xs,e,.inl (.inl q),r⟩
 |tuple l=>cases e;obtain⟨a,xs,e,q,r⟩:=h.tuple s;exact⟨a,xs,e,.inr q,r⟩
 |_=>cases e
theorem Ke :lZ K (KJ K neg) (Ey neg) .v:=by
 intro B G H x y dx dy d Q s hB bx by' e k
 unfold Ey at e
 cases q:j9 dy with
 |none=>rw[q] at e;cases e
 |some ds=>
  rw[q] at e
  dsimp only at e
  split at e
  ·rename_i h
   rw[N3] at h
   cases e
   obtain⟨a,xs,rfl,hq,r⟩:=by'.seq q s
   refine⟨a,xs,dx,ds,rfl,hq,(r.mono s).reps (zW h.2),(bx.rpH s).rep (tM h.1),h.1,λe he=>OF.mp h.2 e he,k _ G H (Ext.refl s) (.bl _)⟩
  ·cases e
def GA:D->Bool
 | .none=>true
 |_=>false
theorem cc.ints :∀ns:List Int,cc K G (ns.map V.int) (ns.map int)
 | []=>.nil
 |n :: ns=>.cons (.int n) (cc.ints ns)
theorem BL.noNone (h:BL K G kvs ((.none,d) :: r)):False:=by
 generalize e:(PyData.none,d) :: r=l at h
 cases h with
 |nil=>cases e
 | @cons k x xs d' ds _ _=>
  injection e with e1 _
  injection e1 with e2 _
  cases k <;> cases e2
theorem BJ.noNone (h:BJ K G kvs ((.none,d) :: r)):False:=by
 generalize e:(PyData.none,d) :: r=l at h
 cases h with
 |nil=>cases e
 | @cons k x xs d' ds _ _=>
  injection e with e1 _
  injection e1 with e2 _
  cases e2
def lW.scr (h:lW K B G H v (.dict [(.none,.list ds)]))(s:aw G H):∃a xs,v=.ref a/\fj K H a xs/\cc K G xs ds:=by
 rcases h with h | ⟨a,rfl,n,h⟩
 ·cases h with
  | @scr a ns q=>exact⟨a,_,rfl,s.seq q,cc.ints ns⟩
  |dK _ r=>exact r.noNone.elim
  |dT _ r=>exact r.noNone.elim
 ·rcases h with⟨_,_,r⟩ | ⟨_,_,r⟩
  ·exact r.noNone.elim
  ·exact r.noNone.elim
def bV:D->D->Option D
 | .list ds,.int i=>i4 ds i
 | .tuple ds,.int i=>i4 ds i
 | .str z,.int i=>if z.length<=sizeLine then (i4 z.cps.toList i).map λc=>.str ⟨#[c]⟩ else none
 | .dict [(.none,.list ds)],.int i=>i4 ds i
 |_,_=>none
theorem tj (r:cc K G xs ds)(h:i4 ds i=some d):∃x,i4 xs i=some x/\Rp K G x d:=by
 unfold i4 at h ⊢
 rw[r.len]
 cases e:uW ds.length i with
 |none=>rw[e] at h;cases h
 |some j=>rw[e] at h;exact r.at h
theorem cN:lZ K (M4 K) bV .v:=by
 intro B G H x y dx dy d Q s hB bx by' e k
 cases dx with
 |list ds=>
  cases dy with
  |int i=>
   obtain rfl:=by'.int
   obtain⟨a,xs,rfl,q,r⟩:=bx.list s
   obtain⟨v,ev,rv⟩:=tj r e
   exact .inl ⟨a,xs,i,v,rfl,rfl,.inl q,ev,k _ G H (Ext.refl s) rv⟩
  |_=>cases e
 |tuple ds=>
  cases dy with
  |int i=>
   obtain rfl:=by'.int
   obtain⟨a,xs,rfl,q,r⟩:=bx.tuple s
   obtain⟨v,ev,rv⟩:=tj r e
   exact .inr (.inl ⟨a,xs,i,v,rfl,rfl,q,ev,k _ G H (Ext.refl s) rv⟩)
  |_=>cases e
 |str z=>
  cases dy with
  |int i=>
   obtain rfl:=by'.int
   obtain rfl:=bx.str
   simp only[bV] at e
   split at e
   ·rename_i hz
    cases q:i4 z.cps.toList i with
    |none=>rw[q] at e;cases e
    |some c=>rw[q] at e;cases e;exact .inr (.inr ⟨z,i,c,rfl,rfl,hz,q,k _ G H (Ext.refl s) (.str _)⟩)
   ·cases e
  |_=>cases e
 |none=>cases dy <;> cases e
 |bool b=>cases dy <;> cases e
 |int b=>cases dy <;> cases e
 |dict b=>
  obtain⟨ds,i,rfl,rfl,e⟩:∃ds i,b= [(.none,.list ds)]/\dy=.int i/\i4 ds i=some d:=by
   unfold bV at e
   split at e
   ·contradiction
   ·contradiction
   ·contradiction
   ·rename_i h;cases h;exact⟨_,_,rfl,rfl,e⟩
   ·cases e
  obtain rfl:=by'.int
  obtain⟨a,xs,rfl,q,r⟩:=bx.scr s
  obtain⟨v,ev,rv⟩:=tj r e
  exact .inl ⟨a,xs,i,v,rfl,rfl,q,ev,k _ G H (Ext.refl s) rv⟩
def cR:D->Option D
 | .list ds=>some (.int ds.length)
 | .tuple ds=>some (.int ds.length)
 | .str z=>if z.length<=sizeLine then some (.int z.length) else none
 | .dict [(.none,.list ds)]=>some (.int ds.length)
 |_=>none
def My (K:Frag):List V->Hp->VK->Prop:=λxs H Q=>∃x n,xs= [x]/\Kr K x H n/\Q (.int n) H
def ji:BH K (λx=>My K [x]) cR .v:=by
 intro B G H x dx d Q s hB bx e k
 unfold cR at e
 split at e
 ·cases e;obtain⟨a,xs,rfl,q,r⟩:=bx.list s;exact⟨_,_,rfl,.inl ⟨xs,.inl q,r.len.symm⟩,k _ G H (Ext.refl s) (.int _)⟩
 ·cases e;obtain⟨a,xs,rfl,q,r⟩:=bx.tuple s;exact⟨_,_,rfl,.inr ⟨xs,q,r.len.symm⟩,k _ G H (Ext.refl s) (.int _)⟩
 ·obtain rfl:=bx.str
  split at e
  ·rename_i hz;cases e;exact⟨_,_,rfl,⟨hz,rfl⟩,k _ G H (Ext.refl s) (.int _)⟩
  ·cases e
 ·cases e;obtain⟨a,xs,rfl,q,r⟩:=bx.scr s;exact⟨_,_,rfl,.inl ⟨xs,q,r.len.symm⟩,k _ G H (Ext.refl s) (.int _)⟩
 ·cases e
def ua:D->Option D
 | .list ds=>some (.tuple ds)
 | .tuple ds=>some (.tuple ds)
 |_=>none
theorem tZ:BH K (λx H Q=>∃p ys,[x]= [.ref p]/\((fj K H p ys/\∀l,H l=none->Q (.ref l) (upd H l (.tup ys)))\/(dU K H p ys/\Q (.ref p) H))) ua .v:=by
 intro B G H x dx d Q s hB bx e k
 cases dx with
 |list ds=>
  cases e
  obtain⟨a,xs,rfl,q,r⟩:=bx.list s
  refine⟨a,xs,rfl,.inl ⟨.inl q,λl hl=>?_⟩⟩
  have x:=Ext.new s (o:=.tup xs) hl
  exact k _ _ _ x (.tup (.inl (.inl au)) (r.mono x.gg))
 |tuple ds=>
  cases e
  rcases bx with bx | ⟨_,_,_,z⟩
  ·cases bx with
   | @tup a xs _ hq r=>exact⟨a,xs,rfl,.inr ⟨hq.grow s.grow,k _ G H (Ext.refl s) (.tup hq r)⟩⟩
  ·exact z.elim
 |_=>cases e
def CC:D->Option D
 | .list ds=>some (.list ds)
 | .tuple ds=>some (.list ds)
 |_=>none
def DR:BH K (λx H Q=>∃p ys,[x]= [.ref p]/\(fj K H p ys\/dU K H p ys)/\∀l,H l=none->Q (.ref l) (upd H l (.lst ys))) CC .w:=by
 intro B G H x dx d Q s hB bx e k
 obtain⟨ds,e1,rfl⟩:∃ds,j9 dx=some ds/\d=.list ds:=by
  cases dx <;> cases e <;> exact⟨_,rfl,rfl⟩
 obtain⟨a,xs,rfl,hq,r⟩:=bx.seq e1 s
 refine⟨a,xs,rfl,hq,λl hl=>?_⟩
 exact k _ _ _ (Ext.own s (o:=.lst xs) hl) ⟨l,rfl,hl,s.free hl,xs,au,r⟩
def kq:List D->Option (List Bool)
 | []=>some []
 | .bool b :: ds=>(kq ds).map (b :: ·)
 |_=>none
theorem si :∀{ds:List D} {bs:List Bool} {xs:List V},kq ds=some bs->cc K G xs ds->xs=bs.map V.bl
 | [],bs,xs,e,r=>by cases e;cases r;rfl
 | .bool b :: ds,bs,xs,e,r=>by
  cases r with
  |cons r1 r2=>
   cases r1
   simp only[kq] at e
   cases q:kq ds with
   |none=>rw[q] at e;cases e
   |some cs=>rw[q] at e;cases e;rw[si q r2];rfl
 | .none :: _,_,_,e,_=>by cases e
 | .int _ :: _,_,_,e,_=>by cases e
 | .str _ :: _,_,_,e,_=>by cases e
 | .list _ :: _,_,_,e,_=>by cases e
 | .tuple _ :: _,_,_,e,_=>by cases e
 | .dict _ :: _,_,_,e,_=>by cases e
def dH (f:List Bool->Bool):D->Option D
 | .list ds=>(kq ds).map λbs=>.bool (f bs)
 |_=>none
theorem mf {f:List Bool->Bool}:BH K (λx=>yB K f [x]) (dH f) .v:=by
 intro B G H x dx d Q s hB bx e k
 cases dx with
 |list ds=>
  simp only[dH] at e
  cases q:kq ds with
  |none=>rw[q] at e;cases e
  |some bs=>
   rw[q] at e
   cases e
   obtain⟨a,xs,rfl,hq,r⟩:=bx.list s
   obtain rfl:=si q r
   exact⟨a,bs,rfl,.inl hq,k _ G H (Ext.refl s) (.bl _)⟩
 |_=>cases e
def Ha:R2:=λx y H Q=>∃l b xs zs,x=.ref l/\y=.ref b/\Rd H l (.lst xs)/\Rd H b (.lst zs)/\xs.length + zs.length<=sizeLine/\∀p,H p=none->Q (.ref p) (upd H p (.lst (xs ++ zs)))
def kP:kg X (binaryOp .Add) Ha:=by
 intro pins s σ H x y v u Q I rx ry h
 obtain⟨l,b,xs,zs,rfl,rfl,hH,hB,hz,q⟩:=h
 cases rx
 cases ry
 obtain⟨z,its,n,r,hl,e⟩:=I.lstR hH
 obtain⟨z2,its2,n2,r2,hl2,e2⟩:=I.lstR hB
 refine PySem.P.add_list e e2 ?_ (by rw[NS,NS];omega)
 have ea:its.toArray ++ its2.toArray=(its ++ its2).toArray:=by simp
 rw[ea]
 exact⟨.ref _,_,I.lnew (t':=s.toks) (r.append r2) (by rw[Oe];omega),rfl,q _ I.fresh⟩
def jb:D->D->Option D
 | .list a,.list b=>if a.length + b.length<=sizeLine then some (.list (a ++ b)) else none
 |_,_=>none
def sh:lZ K Ha jb .w:=by
 intro B G H x y dx dy d Q s hB bx by' e k
 cases dx <;> cases dy <;> first | (cases e;done) |skip
 rename_i a b
 simp only[jb] at e
 split at e
 ·rename_i hz
  cases e
  obtain⟨p,xs,rfl,q1,r1⟩:=bx.list s
  obtain⟨p2,ys,rfl,q2,r2⟩:=by'.list s
  refine⟨p,p2,xs,ys,rfl,rfl,q1,q2,by rw[r1.len,r2.len];exact hz,λl hl=>?_⟩
  exact k _ _ _ (Ext.own s (o:=.lst (xs ++ ys)) hl) ⟨l,rfl,hl,s.free hl,_,au,r1.append r2⟩
 ·cases e
def cH:D->D->Option D:=uV λi j=>.int (i + j)
def iV:lZ K (tL λi j=>.int (i + j)) cH .v:=oI λdx dy d h=>by obtain⟨i,j,rfl,rfl,rfl⟩:=iU h;exact⟨i,j,rfl,rfl,λ_=>.int _⟩
def gq:D->D->Option D:=gI (λi j=>(decide (-(2 ^ 64) < i) && decide (i < 2 ^ 64)) || (decide (-(2 ^ 64) < j) && decide (j < 2 ^ 64))) λi j=>.int (i * j)
def lQ:lZ K (rI Dv λi j=>.int (i * j)) gq .v:=wF λdx dy d h=>by obtain⟨i,j,rfl,rfl,c,rfl⟩:=w8 h;exact⟨i,j,rfl,rfl,by simpa[Dv] using c,λ_=>.int _⟩
def oN:D->D->Option D
 | .list a,.int k=>if -(2 ^ 63)<=k/\k < 2 ^ 63/\a.length * k.toNat<=sizeLine then some (.list (List.replicate k.toNat a).flatten) else none
 |_,_=>none
def xu (ha:SE X Γ E a fa La .w)(hb:SE X Γ E b fb Lb mb):SE X Γ E (.BinOp a .Mult b pos) (f2 fa fb oN) (La ++ Lb) .w:=by
 refine PE.post' (oB DI ha hb) λσ H Q ⟨env,G,B,β,I,o⟩=>?_
 refine⟨env,G,B,β,I,o.bnd.imp λd1 β1 h x G1 H1 I1 s1 m1 vx=>⟨bt La env,G1,B,β1,I1,?_⟩⟩
 rw[fg]
 refine h.bnd.imp λd2 β2 h y G2 H2 I2 s2 m2 vy=>?_
 obtain⟨d,e,k⟩:=h.of
 rw[<-cw] at I2
 obtain⟨p,rfl,p1,p2,p3⟩:=vx
 have by':=vy.brw I1.boxThere
 cases d1 <;> cases d2 <;> first | (cases e;done) |skip
 rename_i l j
 obtain rfl:=by'.int
 simp only[oN] at e
 split at e
 ·rename_i hz
  cases e
  obtain⟨xs,q,r⟩:=p3
  obtain⟨q1,q2,q3,q4⟩:=I.fresh p1
  have r2:=r.mono s2
  refine⟨p,j,xs,rfl,rfl,m2 _ _ q q3,hz.1,hz.2.1,by rw[r.len];exact hz.2.2,λl hl=>?_⟩
  have x:=Ext.own I2.sub (o:=.lst (List.replicate j.toNat xs).flatten) hl
  exact k _ _ _ (I2.ext x) ((s1.trans s2).trans x.gg) ((m1.trans m2).trans (x.hh.mov B)) ⟨l,rfl,gS (m1.trans m2) I2.boxThere hl,I2.sub.free hl,_,au,r2.rep⟩
 ·cases e
def AA:D->Option D
 | .int i=>some (.int (-i))
 |_=>none
theorem sP:BH K (rU λi=>.int (-i)) AA .v:=by
 intro B G H x dx d Q s hB bx e k
 cases dx with
 |int i=>cases e;obtain rfl:=bx.int;exact⟨i,rfl,k _ G H (Ext.refl s) (.int _)⟩
 |_=>cases e
def Ky:D->String
 | .none=>"NoneType"
 | .bool _=>"bool"
 | .int _=>"int"
 | .str _=>"str"
 | .list _=>"list"
 | .tuple _=>"tuple"
 | .dict _=>"dict"
def CO (d:D)(T:String):Bool:=Ky d == T || (T == "int" && Ky d == "bool")
def b9:D->Bool
 | .dict ((.none,_) :: _)=>true
 |_=>false
def jd (T:String)(d:D):Option D:=if b9 d=true then none else some (.bool (CO d T))
def M9 (K:Frag)(H:Hp)(x:V)(t:String):Prop:=E3 K H x t\/(t="dict"/\∃a kvs,x=.ref a/\H a=some (.dT kvs))
def Km (K:Frag):List V->Hp->VK->Prop:=λxs H Q=>∃x T t b,xs= [x,.ty T]/\M9 K H x t/\PySem.W.kitOne K (.type t) (.type T)=some b/\Q (.bl b) H
def CI:cB X (.builtin "isinstance") (Km X.K):=by
 intro pins s σ H xs us Q I r h
 obtain⟨x,T,t,b,rfl,ty,e,q⟩:=h
 rcases ty with ty | ⟨rfl,a,kvs,rfl,hk⟩
 ·exact DB pins s σ H _ us Q I r ⟨x,T,t,b,rfl,ty,e,q⟩
 ·obtain⟨u,c,rfl,rx,rc⟩:=vals2 r
  cases rc
  cases rx
  obtain⟨_,_,_,_,o,_,_,e2,ex,_⟩:=I.hok a _ hk
  exact OA PySem.W.kitx_dict I.kIn ⟨o,e2,ex.1⟩ e (λz=>nomatch z) λtk=>⟨.bl b,H,I.tok tk,rfl,q⟩
theorem lW.ty (h:lW K B G H v d)(s:aw G H)(n:b9 d=false):M9 K H v (Ky d):=by
 cases d with
 |none=>obtain rfl:=h.none;exact .inl .non
 |bool b=>obtain rfl:=h.bool;exact .inl (.bl b)
 |int b=>obtain rfl:=h.int;exact .inl (.int b)
 |str b=>obtain rfl:=h.str;exact .inl (.str b)
 |list b=>obtain⟨a,xs,rfl,q,_⟩:=h.list s;exact .inl (.lst (.inl q))
 |tuple b=>obtain⟨a,xs,rfl,q,_⟩:=h.tuple s;exact .inl (.tup q)
 |dict b=>
  rcases h with h | ⟨a,rfl,_,h⟩
  ·cases h with
   |scr _=>cases n
   |dK q _=>exact .inl (.dic (s _ _ q))
   |dT q _=>exact .inr ⟨rfl,_,_,rfl,s _ _ q⟩
  ·rcases h with⟨_,q,_⟩ | ⟨_,q,_⟩
   ·exact .inl (.dic q)
   ·exact .inr ⟨rfl,_,_,rfl,q⟩
theorem Kg (hT:T∈ ["int","bool","str","list","tuple","dict"]):PySem.W.kitOne K (.type (Ky d)) (.type T)=some (CO d T):=by
 simp only[NI,Oi,O3] at hT
 cases d with
 |dict l=>rcases hT with rfl |rfl |rfl |rfl |rfl |rfl <;> rfl
 |none=>rcases hT with rfl |rfl |rfl |rfl |rfl |rfl <;> rfl
 |bool _=>rcases hT with rfl |rfl |rfl |rfl |rfl |rfl <;> rfl
 |int _=>rcases hT with rfl |rfl |rfl |rfl |rfl |rfl <;> rfl
 |str _=>rcases hT with rfl |rfl |rfl |rfl |rfl |rfl <;> rfl
 |list _=>rcases hT with rfl |rfl |rfl |rfl |rfl |rfl <;> rfl
 |tuple _=>rcases hT with rfl |rfl |rfl |rfl |rfl |rfl <;> rfl
def jV {pos p p2:Pos}(T:String)(hT:T∈ ["int","bool","str","list","tuple","dict"])(hK:X.K=Γ.K)(hg:Gl X "isinstance")(hm:X.mg "isinstance"=none)(hgT:Gl X y)(hmT:X.mg y=none)(hvT:bootBuiltins y=some (.type T))(ha:SE X Γ E a fa La ma)
  (hnT:y≠"__name__":=by decide) (hdT:(y == ("__debug__":Str))=false:=by decide)
  (he:starEach [a,.Name y p2] X.env=(false,eval a X.env) :: starEach [.Name y p2] X.env:=by rfl) (he2:starEach [.Name y p2] X.env=(false,eval (.Name y p2) X.env) :: starEach [] X.env:=by rfl) (hpl:(backTo pos (starEach [.Name y p2] X.env)).any (·.1)=false:=by rfl) :
  SE X Γ E (.Call (.Name "isinstance" p) [a,.Name y p2] [] pos) (f1 fa (jd T)) La .v:=by
 refine PE.post' (bu CI hg hm (by decide +kernel) (ak ha (ak (zr hgT hmT hvT (show RelV (.ty T) _ from rfl) hnT hdT) aN he2) he) (by decide) (by decide) he hpl) λσ H Q ⟨env,G,B,β,I,o⟩=>?_
 refine iD (r:=λx H1 Q=>Km X.K [x,.ty T] H1 Q) ?_ I o
 intro B G H x dx d Q s hB bx e k
 unfold jd at e
 split at e
 ·cases e
 ·rename_i hn
  cases e
  rw[hK]
  exact⟨x,T,Ky dx,CO dx T,rfl,bx.ty s (by simpa using hn),Kg hT,k _ G H (Ext.refl s) (.bl _)⟩
def jZ (fa fb fc:VF D)(g g':D->D->Option D):VF D:=λvs β=>(fa vs β).bnd λx β1=>(fb vs β1).bnd λy β2=>match g x y with
 |some (.bool true)=>(fc vs β2).bnd λz β3=>R.of (g' y z) β3
 |some (.bool false)=>.ok (.bool false) β2
 |_=>.bad
theorem we {pos:Pos}{g g':D->D->Option D}(ho:kg X (compareOp op) r)(ho':kg X (compareOp op') r')(pr:lZ Γ.K r g .v)(pr':lZ Γ.K r' g' .v)(ha:SE X Γ E a fa [] ma)(hb:SE X Γ E b fb [] mb)(hc:SE X Γ E c fc [] mc)
  (hm:lastMarks [op,op'] [b,c]=false:=by with_unfolding_all rfl):SE X Γ E (.Compare a [op,op'] [b,c] pos) (jZ fa fb fc g g') [] .v:=by
 refine PE.post' (Cu ho ho' ha hb hc hm) λσ H Q ⟨env,G,B,β,I,o⟩=>?_
 refine two (W:=λx y H2=>r x y H2 λz H3=>∃k,z=.bl k/\(if k=true then pT Γ E fc [] mc σ H3 λw' H4=>r' y w' H4 Q else Q (.bl false) H3)) I (o.bnd.imp λd1 β1 h=>h.bnd.imp λd2 β2 h x y G2 H2 I2 s2 m2 bx by'=>?_)
 obtain⟨cb,ec,h⟩:∃cb,g d1 d2=some (.bool cb)/\Out Γ E (if cb=true then (fc (vl env) β2).bnd λz β3=>R.of (g' d2 z) β3 else .ok (.bool false) β2) λd β'=>∀v G' H',SR Γ B G' H' σ (bt [] env) β'->aw G G'->iy B H H'->VO Γ.K B H G' H' .v d v->Q v H':=by
  split at h
  ·rename_i q;exact⟨true,q,by rw[NG rfl];exact h⟩
  ·rename_i q;exact⟨false,q,by rw[NL NY];exact h⟩
  ·exact h.elim
 refine pr B G2 H2 x y d1 d2 _ _ I2.sub I2.boxThere bx by' ec λv G' H' x' vo=>?_
 cases vo
 refine⟨cb,rfl,?_⟩
 have I3:=I2.ext x'
 cases cb with
 |false=>rw[NL NY] at h;exact qL (h _ G' H' I3 (s2.trans x'.gg) (m2.trans (x'.mov B)) (.bl false))
 |true=>
  rw[NG rfl] at h
  refine wZ ⟨env,G',B,β2,I3,h.bnd.imp λd3 β3 h z G4 H4 I4 s4 m4 vz=>?_⟩
  obtain⟨d,e,k⟩:=h.of
  refine pr' B G4 H4 y z d2 d3 d Q I4.sub I4.boxThere (by'.mono (x'.gg.trans s4) ((x'.mov B).trans m4)) (vz.brw I3.boxThere) e λv G5 H5 x5 vo=>?_
  exact k v G5 H5 (I4.ext x5) (((s2.trans x'.gg).trans s4).trans x5.gg) (((m2.trans (x'.mov B)).trans m4).trans (x5.mov B)) vo
end
def dZ.u1 (r:dZ k A):A.units + 100 < cLine:=by have:=r.un;omega
def M7 (N:List Str)(sc:Scope)(NB:List Str)(own:Nat)(ixs:List Nat)(scope:Scope):Bool:=
 decide (scope.kind=.function) && (scope.names.all λy=>decide (y.2≠.cell)) && (scope.names.all λy=>decide (scope.names.lookup y.1=some y.2)) &&
 (scope.names.all λy=>decide (y.2=.free->(sc.names.lookup y.1=some .cell\/sc.names.lookup y.1=some .free))) && decide NB.Nodup && decide (NB.length=own + ixs.length) &&
 ((List.range ixs.length).all λk=>decide (NB[own + k]? =N[ixs.getD k 0]?) && (match NB[own + k]? with |some x=>decide ((x,NameKind.free)∈scope.names) |none=>true))
def gy {X:Cx}{own:Nat}(h:M7 X.N X.env.scope NB own ixs scope=true):cZ X NB own ixs scope:=by
 unfold M7 at h
 simp only[N3,OF,N4,N6] at h
 obtain⟨⟨⟨⟨⟨⟨h1,h2⟩,h3⟩,h4⟩,h5⟩,h6⟩,h7⟩:=h
 refine⟨h1,h2,h3,h4,h5,h6,λk hk=>⟨(h7 k hk).1,λx hx=>?_⟩⟩
 have:=(h7 k hk).2
 rw[hx] at this
 simpa using this
section
variable {X:Cx}{Γ:Fx}{E:XK}{e a b c:Expr}{f fa fb fc:VF D}{L La Lb:List Nat}{md ma mb mc:Md}{pos:Pos}{K:Frag}
def tN (fa:VF D)(neg:Bool):VF Bool:=λvs β=>(fa vs β).bnd λx β1=>.ok (if neg then !GA x else GA x) β1
def oT (Γ:Fx)(E:XK)(f:VF (Option Int))(L:List Nat):TO:=λσ H Q=>∃env G B β,SR Γ B G H σ env β/\
 Out Γ E (f (vl env) β) λd β'=>∀G' H',SR Γ B G' H' σ (bt L env) β'->aw G G'->iy B H H'->Q d H'
def LF (X:Cx)(Γ:Fx)(E:XK)(e:Option Expr)(f:VF (Option Int))(L:List Nat):Prop:=PO X e (oT Γ E f L)
def z8:LF X Γ E none (λ_ β=>.ok none β) []:=λpins s σ H Q I ⟨env,G,B,β,J,o⟩=>FO pins s σ H Q I (o G H J (aw.refl _) (iy.refl _ _))
def BX (fa:VF D):VF (Option Int):=λvs β=>(fa vs β).bnd λx β1=>match x with
 | .int i=>.ok (some i) β1
 |_=>.bad
theorem ph (ha:SE X Γ E a fa La ma):LF X Γ E (some a) (BX fa) La:=λpins s σ H Q I ⟨env,G,B,β,J,o⟩=>by
 refine E2 ha pins s σ H Q I ⟨env,G,B,β,J,o.bnd.imp λd1 β1 h x G1 H1 I1 s1 m1 vx=>?_⟩
 cases d1 with
 |int i=>exact⟨i,(vx.brw J.boxThere).int,h G1 H1 I1 s1 m1⟩
 |_=>exact h.elim
def cutD (xs:List D)(lo hi:Option Int):List D:=(xs.drop (HT.dw xs.length 0 lo)).take (HT.dw xs.length xs.length hi - HT.dw xs.length 0 lo)
def FU (r:cc K G xs ds)(lo hi:Option Int):cc K G (rL xs lo hi) (cutD ds lo hi):=by
 unfold rL cutD
 rw[r.len]
 exact (r.drop _).take _
def HX:lZ K (λx y H Q=>∃i j,[x,y]= [.int i,.int j]/\Q (.int (if j > i then j else i)) H) (uV λi j=>.int (if j > i then j else i)) .v:=by
 intro B G H x y dx dy d Q s hB bx by' e k
 obtain⟨i,j,rfl,rfl,rfl⟩:=iU e
 obtain rfl:=bx.int
 obtain rfl:=by'.int
 exact⟨i,j,rfl,k _ G H (Ext.refl s) (.int _)⟩
def Hr:lZ K (λx y H Q=>∃i j,[x,y]= [.int i,.int j]/\Q (.int (if j < i then j else i)) H) (uV λi j=>.int (if j < i then j else i)) .v:=by
 intro B G H x y dx dy d Q s hB bx by' e k
 obtain⟨i,j,rfl,rfl,rfl⟩:=iU e
 obtain rfl:=bx.int
 obtain rfl:=by'.int
 exact⟨i,j,rfl,k _ G H (Ext.refl s) (.int _)⟩
end
structure jJ (K:Frag)(mg:Str->Option Value)(x:Str)(st:Stmt)(ps:List Str)(f:Addr)(fd:FuncData):Prop where
 mg:mg x=some (.ref f)
 F:BK K x x st f fd
 b:Binds K fd ps []
structure Exc (K:Frag)(mg:Str->Option Value)(ca:Str->Addr)(x:Str):Prop where
 mg:mg x=some (.ref (ca x))
 ex:PySem.W.excIn K (ca x) [.type "ValueError",.type "Exception",.type "BaseException",.type "object"] "ValueError.__new__"=true
def Exc.ca {K:Frag}{mg:Str->Option Value}{ca:Str->Addr}{x:Str}(h:Exc K mg ca x):ca x=ca x:=rfl
structure j4 (mg:Str->Option Value):Prop where
 len:mg "len"=none
 range:mg "range"=none
 enumerate:mg "enumerate"=none
 zip:mg "zip"=none
 min:mg "min"=none
 max:mg "max"=none
 sum:mg "sum"=none
 abs:mg "abs"=none
 sorted:mg "sorted"=none
 reversed:mg "reversed"=none
 int:mg "int"=none
 str:mg "str"=none
 bool:mg "bool"=none
 list:mg "list"=none
 tuple:mg "tuple"=none
 dict:mg "dict"=none
 set:mg "set"=none
 isinstance:mg "isinstance"=none
 repr:mg "repr"=none
 any:mg "any"=none
 all:mg "all"=none
 divmod:mg "divmod"=none
inductive FB where
 |ok (d:D) (fresh:Bool) (β:Int)
 |bad
def Ka (K:Frag)(n:Nat)(F:List D->Int->FB):Sp:=λvs H Q _=>∃b rest G ds β,vs=.ref b :: rest/\H b=some (.lst [.int β])/\G b=none/\aw G H/\ds.length=n/\cc K G rest ds/\match F ds β with
 | .ok d fr β'=>∀v G' H',iy (some b) H H'->H' b=some (.lst [.int β'])->aw G G'->aw G' H'->(∀c,Mx H c->G c=none->G' c=none)->FV K H G' H' fr d v->Q v H'
 | .bad=>False
structure lr (P:Program)(w:World)(K:Frag)(mg:Str->Option Value)(base:Heap)(x:Str)(ps:List Str)(k:Nat)(F:List D->Int->FB):Prop where
 ex:∃f fd,mg x=some (.ref f)/\PySem.W.keepIn K (.ref f)=true/\Binds K fd ps []/\gj P w K mg base (me P w) k f fd ps (Ka K (ps.length - 1) F)
 len:∀ds β,F ds β≠.bad->ds.length=ps.length - 1
def yr (vs:List Nv)(i:Nat):Bool:=match vs[i]? with
 |some .bx=>true
 |_=>false
def lq (i:Nat)(F:List D->Int->FB)(fr:VF (List D)):VF D:=λvs β=>if yr vs i=true then (fr vs β).bnd λds β1=>match F ds β1 with
 | .ok d _ β2=>.ok d β2
 | .bad=>.bad else .bad
def LO (i:Nat)(F:List D->Int->FB)(fr:VF (List D)):VF D:=λvs β=>if yr vs i=true then (fr vs β).bnd λds β1=>match F ds β1 with
 | .ok d true β2=>.ok d β2
 |_=>.bad else .bad
section
variable {X:Cx}{Γ:Fx}{E:XK}{e a b c:Expr}{f fa fb fc:VF D}{L La Lb:List Nat}{md ma mb mc:Md}{pos:Pos}{K:Frag}{es:List Expr}{fr:VF (List D)}
def EU (h:yr (vl env) i=true):env[i]? =some .bx:=by
 unfold yr at h
 split at h
 ·exact Kt (by assumption)
 ·cases h
def FF {env:En}{i j:Nat}{d:D}(h:(jj env i)[j]? =some (.br d)):env[j]? =some (.br d):=by
 unfold jj at h
 split at h
 ·rename_i d' e
  by_cases z:i=j
  ·subst z
   rw[NW (NV.mp e).1] at h;cases h
  ·rw[NX z] at h;exact h
 ·exact h
theorem HI {L:List Nat}{env:En}{j:Nat}{d:D}(h:(bt L env)[j]? =some (.br d)):env[j]? =some (.br d):=by
 unfold bt at h
 induction L generalizing env with
 |nil=>exact h
 |cons i L ih=>exact FF (ih h)
def SR.calledB (I1:SR Γ (some p) G1 H1 σ env β)(h:iy (some p) H1 H2)(hp:H2 p=some (.lst [.int β']))(g:aw G1 G2)(s:aw G2 H2)(n:∀b,Mx H1 b->G1 b=none->G2 b=none):SR Γ (some p) G2 H2 σ env β':=by
 obtain⟨b1,b2,b3⟩:=I1.box p rfl
 refine⟨s,I1.old.trans g,λb n1 n2=>n b (I1.thereM n1) (I1.new b n1 n2),λb o e np=>h b o (I1.keep b o e np) λz=>?_,λb hb=>?_,I1.fix,λb e=>?_,I1.len,λi t e=>?_,I1.sep⟩
 ·cases z
  rcases b3 with b3 |b3
  ·exact np b3
  ·rw[e] at b3;cases b3
 ·by_cases z:p=b
  ·subst z;exact Mx.lst hp
  ·exact (I1.pin b hb).same λo q=>h b o q λy=>z (Option.some.inj y)
 ·cases e
  exact⟨hp,n p (Mx.lst b1) b2,b3⟩
 ·have q:=I1.slot i t e
  cases t with
  |no=>trivial
  |fz d=>obtain⟨v,h1,h2⟩:=q;exact⟨v,h1,h2.mono g⟩
  |ow d=>
   obtain⟨c,h1,h2,h3,h4,h5⟩:=q
   exact⟨c,h1,h2,n c h5.mx h3,h4,h5.mono g λo q=>h c o q h4⟩
  |bx=>exact q
  |br d=>obtain⟨b1,c,h1,h4,hpp,h5⟩:=q;exact⟨b1,c,h1,h4,hpp,h5.mono g λo q=>h c o q h4⟩
theorem Fb {F:List D->Int->FB}{ps:List Str}{Q:VK}{i:Nat}(I:SR Γ B G H σ env β)(hK:X.K=Γ.K)(hp:B=some p){wv:Bool}
  (h:Out Γ E (fr (vl env) β) λds β1=>Out Γ E (match F ds β1 with
   | .ok d true β2=>.ok d β2
   | .ok d false β2=>if wv=true then .bad else .ok d β2
   | .bad=>.bad) λd β'=>∀v G' H',SR Γ B G' H' σ (bt L env) β'->aw G G'->iy B H H'->VO Γ.K B H G' H' (if wv=true then .w else .v) d v->Q v H') (hl:∀ds β,F ds β≠.bad->ds.length=ps.length - 1) :
  aT Γ E fr L σ H λvs H1=>Ka X.K (ps.length - 1) F (.ref p :: vs) H1 Q E:=by
 subst hp
 refine⟨env,G,_,β,I,h.imp λds β1 k vs G1 H1 I1 s1 m1 r=>?_⟩
 obtain⟨b1,b2,b3⟩:=I1.box p rfl
 refine⟨p,vs,G1,ds,β1,rfl,b1,b2,I1.sub,hl ds β1 λz=>by rw[z] at k;exact k,by rw[hK];exact r,?_⟩
 cases q:F ds β1 with
 |bad=>rw[q] at k;exact k
 |ok d fr' β2=>
  rw[q] at k
  intro v G' H' hh hb hg hs hn fv
  have I2:=I1.calledB hh hb hg hs hn
  cases fr' with
  |true=>
   obtain⟨c,rfl,p1,p2,p3⟩:∃a,v=.ref a/\H1 a=none/\G' a=none/\Own X.K G' H' a d:=fv
   rw[hK] at p3
   have hp:=gS m1 I1.boxThere p1
   cases wv with
   |true=>exact k _ G' H' I2 (s1.trans hg) (m1.trans hh) ⟨c,rfl,hp,p2,p3⟩
   |false=>
    obtain⟨q1,q2,q3,q4⟩:=I1.fresh p1
    obtain⟨G3,I3,s3,r3⟩:=I2.letIn q1 p2 q3 q4 p3
    exact k _ G3 H' I3 ((s1.trans hg).trans s3) (m1.trans hh) r3
  |false=>
   cases wv with
   |true=>exact k.elim
   |false=>
    have fv:Rp X.K G' v d:=fv
    rw[hK] at fv
    exact k _ G' H' I2 (s1.trans hg) (m1.trans hh) fv
theorem IQ {F:List D->Int->FB}{ps:List Str}{Q:VK}{i:Nat}{σ:St}{H:Hp}(hK:X.K=Γ.K){wv:Bool}(hl:∀ds β,F ds β≠.bad->ds.length=ps.length - 1)(h:pT Γ E (if wv=true then LO i F fr else lq i F fr) L (if wv=true then .w else .v) σ H Q) :
  Fu i σ H λx H1=>aT Γ E fr L σ H1 λvs H2=>Ka X.K (ps.length - 1) F (x :: vs) H2 Q E:=by
 obtain⟨env,G,B,β,I,o⟩:=h
 have hi:yr (vl env) i=true:=by
  by_cases hi:yr (vl env) i=true
  ·exact hi
  ·exfalso
   cases wv with
   |true=>simp only[OR] at o;unfold LO at o;rw[NL hi] at o;exact o
   |false=>simp only[NZ,Ou] at o;unfold lq at o;rw[NL hi] at o;exact o
 obtain⟨p,e1,e2⟩:=I.slot i _ (EU hi)
 refine⟨.ref p,e1,Fb (i:=i) (ps:=ps) I hK e2 (wv:=wv) ?_ hl⟩
 cases wv with
 |true=>
  simp only[OR] at o ⊢
  unfold LO at o
  rw[NG hi] at o
  refine o.bnd.imp λds β1 h=>?_
  cases q:F ds β1 with
  |bad=>rw[q] at h;exact h
  |ok d b β2=>rw[q] at h;cases b <;> exact h
 |false=>
  simp only[NZ,Ou] at o ⊢
  unfold lq at o
  rw[NG hi] at o
  refine o.bnd.imp λds β1 h=>?_
  cases q:F ds β1 with
  |bad=>rw[q] at h;exact h
  |ok d b β2=>rw[q] at h;cases b <;> exact h
def jk {x y:Str}{ps:List Str}{k:Nat}{F:List D->Int->FB}{p np:Pos}(i:Nat)(hf:lr X.prog X.w X.K X.mg X.base x ps k F)(hr:dZ k X.A)(hx:Passes (me X.prog X.w) X E)(hK:X.K=Γ.K)(hg:Gl X x)(ha:SA X Γ E es fr L)(hN:X.N[i]? =some y:=by rfl)(hv:xm X.env.scope y:=by first |exact Or.inl rfl |exact Or.inr (Or.inl rfl) |exact Or.inr (Or.inr rfl))(hd:(y == ("__debug__":Str))=false:=by decide)
  (hcd:(y == ("__classdict__":Str))=false:=by decide) (hdb:(x == ("__debug__":Str))=false:=by decide)
  (he:starEach (.Name y np :: es) X.env=(false,eval (.Name y np) X.env) :: starEach es X.env:=by rfl) (hpl:(backTo pos (starEach es X.env)).any (·.1)=false:=by rfl):SE X Γ E (.Call (.Name x p) (.Name y np :: es) [] pos) (lq i F fr) L .v:=by
 obtain⟨f,fd,hm,hk,hb,hF⟩:=hf.ex
 refine PE.post' (pf (dvs:=[]) hF hr hg hm hk hb .nil hx (ak (iX hN hv hd hcd) ha he) hdb he hpl) λσ H Q h=>?_
 have:=IQ (Q:=Q) (wv:=false) (ps:=ps) hK hf.len (by simpa using h)
 show Fu i σ H λx H1=>aT Γ E fr L σ H1 λvs H2=>Ka X.K (ps.length - 1) F ((x :: vs) ++ []) H2 Q E
 simpa using this
def DG:D->Option Int
 | .list [.int z]=>some z
 |_=>none
def Fh (h:DG d=some z):d=.list [.int z]:=by
 unfold DG at h
 split at h
 ·cases h;rfl
 ·cases h
def Nz (f0:VF D)(F:List D->Int->FB)(n:Int):VF D:=λvs β=>(f0 vs β).bnd λd0 β1=>match DG d0 with
 |some z=>(match F [.int n] z with
  | .ok d _ _=>.ok d β1
  | .bad=>.bad)
 |none=>.bad
def rj (env:En):En:=env.map λs=>match s with
 | .bx=>.no
 |s=>s
theorem CG {env:En}{i:Nat}{s:Sl}(h:(rj env)[i]? =some s)(n:s≠.no):env[i]? =some s/\s≠.bx:=by
 unfold rj at h
 rw[NP] at h
 cases e:env[i]? with
 |none=>rw[e] at h;cases h
 |some t=>
  rw[e] at h
  have h:=Option.some.inj h
  cases t with
  |bx=>exact absurd h.symm n
  |no=>exact absurd h.symm n
  |fz d=>subst h;exact⟨rfl,λz=>by cases z⟩
  |ow d=>subst h;exact⟨rfl,λz=>by cases z⟩
  |br d=>subst h;exact⟨rfl,λz=>by cases z⟩
def zk (i:Nat)(L:List Nat)(f:VF D):SF:=λenv β=>toS (f (vl env) β) λd _=>match DG d with
 |some z=>.nx ((rj (bt L env)).set i .bx) z
 |none=>.bad
theorem FC {i:Nat}{x:Str}{pos':Pos}(hbx:Γ.bx=none)(he:SE X Γ E e f L .w)(hN:X.N.Nodup)(hi:X.N[i]? =some x:=by rfl)(hx:Loc X.env.scope x:=by first |exact Or.inl rfl |exact Or.inr rfl)(hs:swapsWith e (some (.Name x pos')) pos.line X.env=pure false:=by rfl)(hf:X.fn x=true\/X.env.scope.names.lookup x=some .local:=by first |exact .inl rfl |exact .inr rfl |assumption) :
  SS X Γ E (.Assign [.Name x pos'] e pos) (zk i L f):=by
 refine PS.post (jt hN hi hx he hs hf) λN σ H ⟨env,G,B,β,I,o⟩=>?_
 refine⟨env,G,B,β,I,cC o λd β' k v G' H' I' s' m' vo=>?_⟩
 cases q:DG d with
 |none=>rw[q] at k;exact k.elim
 |some z=>
  rw[q] at k
  obtain rfl:=Fh q
  obtain⟨p,rfl,h1,h2,xs,h3,r⟩:=vo
  have hx2:H' p=some (.lst [.int z]):=by
   cases r with
   |cons r1 r2=>
    cases r1
    cases r2
    exact h3
  obtain⟨q1,q2,q3,q4⟩:=I.fresh h1
  refine k (some p) G' H' _ ⟨I'.sub,I'.old,I'.new,I'.keep,I'.pin,λb e=>(by rw[hbx] at e;cases e),λb e=>?_,?_,λj t e=>?_,λj j' c d1 d2 e1 e2 e3 e4=>?_⟩ s'
  ·cases e;exact⟨hx2,h2,.inr q1⟩
  ·rw[OL,OL];unfold rj;rw[NM];exact I'.len
  ·by_cases hj:j=i
   ·subst hj
    by_cases hl:j < (rj (bt L env)).length
    ·rw[NW hl] at e
     cases e
     refine⟨p,?_,rfl⟩
     rw[NW]
     rw[I'.len];unfold rj at hl;simpa using hl
    ·rw[Pg (by rw[OL];omega)] at e;cases e
   ·rw[NX (Ne.symm hj)] at e ⊢
    by_cases hn:t=.no
    ·subst hn;trivial
    ·obtain⟨e1,nb⟩:=CG e hn
     have w:=I'.slot j t e1
     cases t with
     |no=>trivial
     |fz d=>exact w
     |bx=>exact absurd rfl nb
     |ow d=>
      obtain⟨a',g1,g2,g3,g4,g5⟩:=w
      exact⟨a',g1,g2,g3,λy=>q4 j d (uR e1) (by cases y;exact g1),g5⟩
     |br d=>
      obtain⟨b1,a',g1,g4,hpp,g5⟩:=w
      have e0:env[j]? =some (.br d):=HI e1
      obtain⟨_,a2,f1,_,_,f5⟩:=I.slot j _ e0
      rw[g1] at f1;cases f1
      obtain⟨o,ho⟩:=f5.obj
      exact⟨b1,a',g1,λy=>(by cases y;rw[h1] at ho;cases ho),hpp,g5⟩
  ·have back:∀{j:Nat} {d1:D},((rj (bt L env)).set i Sl.bx)[j]? =some (.ow d1)->j≠i/\(bt L env)[j]? =some (.ow d1):=λ{j d1} e=>by
    by_cases hj:j=i
    ·subst hj
     by_cases hl:j < (rj (bt L env)).length
     ·rw[NW hl] at e;cases e
     ·rw[Pg (by rw[OL];omega)] at e;cases e
    ·rw[NX (Ne.symm hj)] at e
     exact⟨hj,(CG e (λy=>by cases y)).1⟩
   obtain⟨n1,w1⟩:=back e1
   obtain⟨n2,w2⟩:=back e2
   rw[NX (Ne.symm n1)] at e3
   rw[NX (Ne.symm n2)] at e4
   exact I'.sep j j' c d1 d2 w1 w2 e3 e4
end
section
variable {P:Program}{w:World}{K:Frag}{mg:Str->Option Value}{base:Heap}{ca:Str->Addr}
def AB:SO->FB
 | .nx _ β=>.ok .none false β
 | .rt d fr β=>.ok d fr β
 |_=>.bad
def xj (n:Nat)(ds:List D):En:=.bx :: ds.map Sl.fz ++ List.replicate (n - 1 - ds.length) .no
def o5 (n p:Nat)(m:SF):List D->Int->FB:=λds β=>if ds.length=p then AB (m (xj n ds) β) else .bad
abbrev Fx.fb (K:Frag)(H G:Hp)(ca:Str->Addr)(b:Addr):Fx:=⟨K,H,G,[b],ca,λ_=>false,some b⟩
def SR.startB {b:Addr}(s:aw G H)(hb:H b=some (.lst [.int β]))(gb:G b=none)(r:cc K G vs ds)(hn:ds.length + 1<=N.length):SR (Fx.fb K H G ca b) (some b) G H (L2.start N (.ref b :: vs)) (xj N.length ds) β:=by
 have hl:=r.len
 refine⟨s,aw.refl _,λc _ h=>h,λc o h _=>h,λc h=>?_,λc h=>h,λc h=>?_,?_,λi t e=>?_,λi j a d e h=>?_⟩
 ·have:c=b:=by simpa using h
  subst this;exact Mx.lst hb
 ·cases h;exact⟨hb,gb,.inl (by simp)⟩
 ·unfold L2.start xj;simp;omega
 ·cases i with
  |zero=>
   unfold xj at e
   cases e
   exact⟨b,rfl,rfl⟩
  |succ i=>
   unfold xj at e
   have e:(ds.map Sl.fz ++ List.replicate (N.length - 1 - ds.length) Sl.no)[i]? =some t:=by simpa using e
   by_cases hi:i < ds.length
   ·rw[Ow (by simpa using hi),NP,NC hi] at e
    cases e
    obtain⟨x,hx,rx⟩:=r.at (NC hi)
    refine⟨x,?_,rx⟩
    unfold L2.start
    have hi':i < vs.length:=by rw[hl];exact hi
    rw[Ow (by simp;exact hi'),NP,List.getElem?_cons_succ,hx];rfl
   ·rw[Oj (by simpa using hi),O6] at e
    split at e
    ·cases e;trivial
    ·cases e
 ·unfold xj at h
  have hm:=NU h
  rcases NI.mp hm with z |hm
  ·cases z
  rcases N7.mp hm with z |z
  ·obtain⟨_,_,z⟩:=NT.mp z;cases z
  ·have:=Pl z;cases this
def mF {st:Stmt}{f:Addr}{k:Nat}{m:SF}(F:BK K x qual st f fd)(S:aK N ps (av st))(hp:1<=ps.length)
  (hbody:∀(cdv:Value) (A:Around) (outer:List Env) (s:Shared) (H G:Hp) (b:Addr) (E:XK),dZ k (A.deeper (envOfC qual (av st) s.heap.objs.size f cdv))->BN (kE (me P w) P w K mg base N qual (av st) f cdv A outer s H E) (Fx.fb K H G ca b) E (bX st) m) :
  gj P w K mg base (me P w) (k + 1) f fd ps (Ka K (ps.length - 1) (o5 N.length (ps.length - 1) m)):=by
 have hpn:ps.length<=N.length:=by have:=congrArg List.length S.pre;rw[OP] at this;omega
 refine F.u9 S (λvs H Q E h=>?_) (λcdv A outer s H vs Q E hr h=>?_)
 ·obtain⟨b,rest,G,ds,β,rfl,hb,gb,sG,hl,r,_⟩:=h
  rw[N0,r.len];omega
 ·obtain⟨b,rest,G,ds,β,rfl,hb,gb,sG,hl,r,h⟩:=h
  refine⟨_,hbody cdv A outer s H G b E hr,?_⟩
  have I:=SR.startB (ca:=ca) (N:=N) sG hb gb r (by omega)
  refine⟨_,G,some b,β,I,?_⟩
  unfold o5 at h
  rw[NG hl] at h
  have fin':∀{B G' H' σ env β},SR (Fx.fb K H G ca b) B G' H' σ env β->iy (some b) H H'/\H' b=some (.lst [.int β]):=λJ=>by
   have e:=J.fix b rfl
   refine⟨λc o ec n=>J.keep c o ec λz=>n ?_,(J.box b e).1⟩
   have:c=b:=by simpa using z
   rw[this]
  cases q:m (xj N.length ds) β with
  |nx env β'=>rw[q] at h;exact λB G' H' σ J s'=>h .non G' H' (fin' J).1 (fin' J).2 s' J.sub (λc h1 h2=>J.new c h1 h2) Rp.non
  |bk env β'=>rw[q] at h;exact h.elim
  |ct env β'=>rw[q] at h;exact h.elim
  |rt d fr β'=>
   rw[q] at h
   refine λB G' H' σ env v J s' rv=>h v G' H' (fin' J).1 (fin' J).2 s' J.sub (λc h1 h2=>J.new c h1 h2) ?_
   cases fr with
   |true=>exact rv
   |false=>exact rv
  |exc c=>rw[q] at h;exact h.elim
  |bad=>rw[q] at h;exact h.elim
def mP (ds:List D)(β:Int)(h:o5 n p m ds β≠.bad):ds.length=p:=by
 unfold o5 at h
 by_cases hl:ds.length=p
 ·exact hl
 ·rw[NL hl] at h;exact absurd rfl h
end
def aY (p:Pr):D:=.tuple [.int p.1,.int p.2]
def qK:D->Option Pr
 | .tuple [.int a,.int b]=>some (a,b)
 |_=>none
def vm (h:qK d=some p):d=aY p:=by
 unfold qK at h
 split at h
 ·cases h;rfl
 ·cases h
def AL (p:Pr):qK (aY p)=some p:=rfl
def gx:List D->Option (List Pr)
 | []=>some []
 |d :: ds=>match qK d,gx ds with
  |some p,some ps=>some (p :: ps)
  |_,_=>none
theorem kO:∀{ds:List D} {ps:List Pr},gx ds=some ps->ds=ps.map aY
 | [],ps,h=>by cases h;rfl
 |d :: ds,ps,h=>by
  unfold gx at h
  split at h
  ·rename_i p qs h1 h2;cases h;rw[vm h1,kO h2];rfl
  ·cases h
theorem iu:∀ps:List Pr,gx (ps.map aY)=some ps
 | []=>rfl
 |p :: ps=>by
  show (match qK (aY p),gx (ps.map aY) with
   |some p,some ps=>some (p :: ps)
   |_,_=>none)=_
  rw[AL,iu ps]
section
variable {K:Frag}{X:Cx}{G H:Hp}
theorem cc.pairs:∀{ps:List Pr} {xs:List V},cc K G xs (ps.map aY)->aW K G xs ps
 | [],_,.nil=>.nil
 |p :: ps,_,.cons r t=>by
  cases r with
  |tup hq r=>
   cases r with
   |cons r1 r=>
    cases r with
    |cons r2 r=>cases r;cases r1;cases r2;exact .cons ⟨_,rfl,hq⟩ (cc.pairs t)
theorem aW.rps:∀{ps:List Pr} {xs:List V},aW K G xs ps->cc K G xs (ps.map aY)
 | [],_,.nil=>.nil
 |p :: ps,_,.cons r t=>by
  obtain⟨a,rfl,q⟩:=r
  exact .cons (.tup q (.cons (.int _) (.cons (.int _) .nil))) (aW.rps t)
def JH (p:Pr):Bool:=decide (0<=p.1) && decide (p.1 < 8) && decide (0<=p.2) && decide (p.2 < 8)
def Ie (h:JH p=true):Sm p:=by
 unfold JH at h
 simp only[N3,N4] at h
 exact⟨⟨h.1.1.1,h.1.1.2⟩,h.1.2,h.2⟩
noncomputable def cI (d:D):Option D:=match j9 d with
 |some ds=>(match gx ds with
  |some ps=>if ps.all JH=true/\(OM.cu 8 (OM.Mem ps)).length < 64 then some (.list ((OM.cu 8 (OM.Mem ps)).map aY)) else none
  |none=>none)
 |none=>none
variable {Γ:Fx}{E:XK}{e a b c:Expr}{f fa fb fc:VF D}{L La Lb:List Nat}{md ma mb mc:Md}{pos:Pos}
theorem pS {p1 p2 pos2:Pos}(hc:X.calm=true)(hu:X.A.units + 64 < cLine)(hK:X.K=Γ.K)(hg:Gl X "sorted")(hm:X.mg "sorted"=none)(hg2:Gl X "set")(hm2:X.mg "set"=none)(ha:SE X Γ E a fa La ma)
  (he:starEach [a] X.env=(false,eval a X.env) :: starEach [] X.env:=by rfl)
  (he2:starEach [.Call (.Name "set" p2) [a] [] pos2] X.env=(false,eval (.Call (.Name "set" p2) [a] [] pos2) X.env) :: starEach [] X.env:=by rfl) :
  SE X Γ E (.Call (.Name "sorted" p1) [.Call (.Name "set" p2) [a] [] pos2] [] pos) (f1 fa cI) La .w:=by
 refine PE.post' (bu (sZ hc) hg hm (by decide +kernel) (ak (gZ (B8 hc hu) hg2 hm2 (by decide +kernel) (ak ha aN he) (by decide) (by decide) he) aN he2) (by decide) (by decide) he2) λσ H Q ⟨env,G,B,β,I,o⟩=>?_
 refine iD (r:=λx H1 Q=>J1 X.prog X.w X.K [x] H1 λy H2=>vF X.prog X.w X.K [y] H2 Q) ?_ I o
 intro B G H x dx d Q s hB bx e k
 rw[hK]
 unfold cI at e
 cases q:j9 dx with
 |none=>rw[q] at e;cases e
 |some ds=>
  rw[q] at e
  dsimp only at e
  cases q2:gx ds with
  |none=>rw[q2] at e;cases e
  |some ps=>
   rw[q2] at e
   dsimp only at e
   split at e
   ·rename_i hh
    obtain⟨h1,h2⟩:=hh
    cases e
    obtain⟨p,xs,rfl,hq,r⟩:=bx.seq q s
    rw[kO q2] at r
    have pv:=(r.mono s).pairs
    have sm:∀p,p∈ps->Sm p:=λp hp=>Ie (OF.mp h1 p hp)
    refine⟨p,xs,ps,rfl,hq,pv,sm,λS qs hS hpv nd hm=>?_⟩
    have qsl:qs.length < 64:=by
     have:(pq qs).length<=(OM.cu 8 (OM.Mem ps)).length:=OM.fu nd λx hx=>by
      have hx':=(hm x).mp hx
      have hs:=sm x hx'
      exact OM.bq.mpr ⟨⟨⟨hs.1.1,hs.1.2⟩,hs.2.1,hs.2.2⟩,hx'⟩
     simp only[NM] at this
     omega
    have xS:=Ext.own s (o:=Bx X.prog X.w S qs) hS
    refine⟨S,qs,rfl,au,hpv.grow (iA.new hS),λp hp=>sm p ((hm p).mp hp),nd,qsl,λl ws rs hl hpw hr hmem=>?_⟩
    have ers:rs=OM.cu 8 (OM.Mem ps):=OM.jz hr (OM.dC _ _) λx=>by
     rw[hmem x,hm x,OM.bq]
     constructor
     ·intro hx;have hs:=sm x hx;exact⟨⟨⟨hs.1.1,hs.1.2⟩,hs.2.1,hs.2.2⟩,hx⟩
     ·intro hx;exact hx.2
    subst ers
    have hlH:H l=none:=by
     by_cases z:l=S
     ·subst z;exact hS
     ·rw[aB z] at hl;exact hl
    have lS:l≠S:=λz=>by subst z;rw[au] at hl;cases hl
    have hh:aw H (upd (upd H S (Bx X.prog X.w S qs)) l (.lst ws)):=(aw.new hS).trans (aw.new hl)
    have xx:=Ext.tups s hh
    refine k _ _ _ xx ⟨l,rfl,hlH,?_,ws,au,?_⟩
    ·unfold ml
     rw[s.free hlH,au]
     exact NL λy=>y
    ·refine aW.rps (Paired.mapP hpw λv p ⟨a,ea,qa⟩=>⟨a,ea,qQ (s.trans hh) ?_⟩)
     exact qa.grow (iA.new hl)
   ·cases e
end
section
variable {K:Frag}{X:Cx}{G H:Hp}{Γ:Fx}{E:XK}{e a b c:Expr}{f fa fb fc:VF D}{L La Lb:List Nat}{md ma mb mc:Md}{pos apos cpos np:Pos}
def eN:D->Option D
 | .int n=>if 0<=n/\n<=1000 then some (.list (cQ 0 n.toNat)) else none
 |_=>none
def Ao (n:Nat):cc K G ((List.range n).map λ(i:Nat)=>V.int (i:Int)) (cQ 0 n):=by
 have key:∀l:List Nat,cc K G (l.map λ(i:Nat)=>V.int (i:Int)) (l.map λ(k:Nat)=>int (0 + k)):=by
  intro l
  induction l with
  |nil=>exact .nil
  |cons x l ih=>exact .cons (by show Rp K G (.int (x:Int)) (.int (0 + (x:Int)));rw[P5];exact .int _) ih
 exact key _
theorem lT {p1 p2 pos2:Pos}(hc:X.calm=true)(hg:Gl X "list")(hm:X.mg "list"=none)(hg2:Gl X "range")(hm2:X.mg "range"=none)(ha:SE X Γ E a fa La ma)
  (he:starEach [a] X.env=(false,eval a X.env) :: starEach [] X.env:=by rfl)
  (he2:starEach [.Call (.Name "range" p2) [a] [] pos2] X.env=(false,eval (.Call (.Name "range" p2) [a] [] pos2) X.env) :: starEach [] X.env:=by rfl) :
  SE X Γ E (.Call (.Name "list" p1) [.Call (.Name "range" p2) [a] [] pos2] [] pos) (f1 fa eN) La .w:=by
 refine PE.post' (gZ (rC hc) hg hm (by decide +kernel) (ak (gZ Cd hg2 hm2 (by decide +kernel) (ak ha aN he) (by decide) (by decide) he) aN he2) (by decide) (by decide) he2) λσ H Q ⟨env,G,B,β,I,o⟩=>?_
 refine iD (r:=λx H1 Q=>∃n:Int,[x]= [.int n]/\∀p,H1 p=none->(λ(y:V) (H2:Hp)=>∃(p:Addr) (n:Int),[y]= [V.ref p]/\H2 p=some (.eB 0 n)/\0<=n/\n<=1000/\∀l,H2 l=none->Q (.ref l) (upd H2 l (.lst ((List.range n.toNat).map λ(i:Nat)=>V.int (i:Int))))) (V.ref p) (upd H1 p (.eB 0 n))) ?_ I o
 intro B G H x dx d Q s hB bx e k
 cases dx with
 |int n=>
  obtain rfl:=bx.int
  simp only[eN] at e
  split at e
  ·rename_i hh
   cases e
   refine⟨n,rfl,λp hp=>⟨p,n,rfl,au,hh.1,hh.2,λl hl=>?_⟩⟩
   have hlp:l≠p:=λz=>by subst z;rw[au] at hl;cases hl
   have hlH:H l=none:=by rw[aB hlp] at hl;exact hl
   have x1:=Ext.own s (o:=.eB 0 n) hp
   have x2:=Ext.own x1.gh (o:=.lst ((List.range n.toNat).map λ(i:Nat)=>V.int (i:Int))) hl
   exact k _ _ _ (x1.trans x2) ⟨l,rfl,hlH,s.free hlH,_,au,Ao _⟩
  ·cases e
 |_=>cases e
def FK:D->Option D
 | .int i=>some (.int (if i < 0 then -i else i))
 |_=>none
theorem JY:BH K (λx H Q=>∃i,[x]= [.int i]/\Q (.int (if i < 0 then -i else i)) H) FK .v:=by
 intro B G H x dx d Q s hB bx e k
 cases dx with
 |int i=>cases e;obtain rfl:=bx.int;exact⟨i,rfl,k _ G H (Ext.refl s) (.int _)⟩
 |_=>cases e
noncomputable def Mc (d:D):Option D:=match d with
 | .list ds=>(match gx ds with
  |some ps=>if ps.all JH=true/\ps.Nodup/\ps.length < 64 then some (.list ((OM.cu 8 (OM.Mem ps)).map aY)) else none
  |none=>none)
 |_=>none
def AU (ds:List D)(k:D):Option (D×List D):=match k with
 | .int i=>if -(2 ^ 63)<=i/\i < 2 ^ 63 then (match seqIndex? i ds.length with
  |some n=>(match ds[n]? with
   |some d=>some (d,ds.eraseIdx n)
   |none=>none)
  |none=>none) else none
 |_=>none
def jS (i j:Nat)(L:List Nat)(f:VF D):SF:=λenv β=>if tO env[i]? =true/\tO env[j]? =true/\i≠j then toS (f (vl env) β) λk β'=>match (bt L env)[j]? with
 |some (.ow (.list es))=>(match AU es k with
  |some (d,es')=>IY i ((bt L env).set j (.ow (.list es'))) β' λds=>if ds.length < sizeLine then some (ds ++ [d]) else none
  |none=>.bad)
 |_=>.bad else .bad
theorem cc.eraseIdx:∀{xs:List V} {ds:List D} (i:Nat),cc K G xs ds->cc K G (xs.eraseIdx i) (ds.eraseIdx i)
 |_,_,_,.nil=>.nil
 |_,_,0,.cons _ t=>t
 |_,_,i + 1,.cons r t=>.cons r (cc.eraseIdx i t)
theorem AH (i j:Nat){x y:Str}{np2 apos2 cpos2:Pos}(hb:∀j,Γ.br j=false)(he:SE X Γ E e f L md)(hN:X.N[i]? =some x:=by rfl)(hv:xm X.env.scope x:=by first |exact Or.inl rfl |exact Or.inr (Or.inl rfl) |exact Or.inr (Or.inr rfl))(hd:(x == ("__debug__":Str))=false:=by decide)
  (hcd:(x == ("__classdict__":Str))=false:=by decide)
  (hN2:X.N[j]? =some y:=by rfl) (hv2:xm X.env.scope y:=by first |exact Or.inl rfl |exact Or.inr (Or.inl rfl) |exact Or.inr (Or.inr rfl)) (hd2:(y == ("__debug__":Str))=false:=by decide)
  (hcd2:(y == ("__classdict__":Str))=false:=by decide)
  (hbase:attributeBase (.Name x np) "append" X.env (eval (.Name x np) X.env)=eval (.Name x np) X.env:=by rfl)
  (hfew:((backTo cpos (starEach [.Call (.Attribute (.Name y np2) "pop" apos2) [e] [] cpos2] X.env)).all (λx=> !x.1) && (backToKw cpos (keywordEach [] X.env)).all (λx=>x.1.isSome)
   && decide ([Expr.Call (.Attribute (.Name y np2) "pop" apos2) [e] [] cpos2].length + ([]:List Keyword).length + (if ([]:List Keyword).isEmpty then 0 else 1) < 30))=true:=by rfl)
  (hline:(apos.endLine == cpos.line)=true:=by rfl) (hs:starEach [.Call (.Attribute (.Name y np2) "pop" apos2) [e] [] cpos2] X.env=(false,eval (.Call (.Attribute (.Name y np2) "pop" apos2) [e] [] cpos2) X.env) :: starEach [] X.env:=by rfl)
  (hbase2:attributeBase (.Name y np2) "pop" X.env (eval (.Name y np2) X.env)=eval (.Name y np2) X.env:=by rfl)
  (hfew2:((backTo cpos2 (starEach [e] X.env)).all (λx=> !x.1) && (backToKw cpos2 (keywordEach [] X.env)).all (λx=>x.1.isSome)
   && decide ([e].length + ([]:List Keyword).length + (if ([]:List Keyword).isEmpty then 0 else 1) < 30))=true:=by rfl)
  (hline2:(apos2.endLine == cpos2.line)=true:=by rfl) (hs2:starEach [e] X.env=(false,eval e X.env) :: starEach [] X.env:=by rfl)
  (hsw:swapsWith (.Call (.Attribute (.Name x np) "append" apos) [.Call (.Attribute (.Name y np2) "pop" apos2) [e] [] cpos2] [] cpos) none pos.line X.env=pure false:=by rfl) :
  SS X Γ E (.Expr (.Call (.Attribute (.Name x np) "append" apos) [.Call (.Attribute (.Name y np2) "pop" apos2) [e] [] cpos2] [] cpos) pos) (jS i j L f):=by
 refine PS.post (tG (wK Pw PySem.F.slot_list_append PySem.F.type_list_append og (iX hN hv hd hcd)
  (ak (wK Pw PySem.F.slot_list_pop PySem.F.type_list_pop DZ (iX hN2 hv2 hd2 hcd2) (ak he aN hs2) hbase2 hfew2 hline2 hs2 rfl) aN hs) hbase hfew hline hs rfl) hsw) λN σ H ⟨env,G,B,β,I,o⟩=>?_
 unfold jS at o
 by_cases hO:tO env[i]? =true/\tO env[j]? =true/\i≠j
 case neg=>rw[NL hO] at o;exact o.elim
 rw[NG hO] at o
 obtain⟨hO1,hO2,hij⟩:=hO
 obtain⟨ds0,q0⟩:=pe hO1
 obtain⟨es0,w0⟩:=pe hO2
 obtain⟨p,h1,_,_,_,xs,h5,_⟩:=I.slot i _ q0
 obtain⟨q,k1,_,_,_,ys,k5,_⟩:=I.slot j _ w0
 refine⟨_,h1,.inl ⟨rfl,xs,.inl (.inl h5)⟩,?_⟩
 refine⟨_,k1,.inl ⟨rfl,ys,.inl (.inl k5)⟩,?_⟩
 refine⟨env,G,B,β,I,cC o λkd β' k v G' H' I' s' m' vo=>?_⟩
 cases ej:(bt L env)[j]? with
 |none=>rw[ej] at k;exact k.elim
 |some sj=>
  rw[ej] at k
  cases sj with
  |ow dj=>
   cases dj with
   |list es=>
    dsimp only at k
    cases ep:AU es kd with
    |none=>rw[ep] at k;exact k.elim
    |some pr=>
     obtain⟨d,es'⟩:=pr
     rw[ep] at k
     dsimp only at k
     unfold AU at ep
     cases kd <;> first | (cases ep;done) |skip
     rename_i ii
     dsimp only at ep
     split at ep
     ·rename_i hr
      cases eI:seqIndex? ii es.length with
      |none=>rw[eI] at ep;cases ep
      |some n=>
       rw[eI] at ep
       dsimp only at ep
       cases eD:es[n]? with
       |none=>rw[eD] at ep;cases ep
       |some d0=>
        rw[eD] at ep
        cases ep
        obtain rfl:=(vo.brw I.boxThere).int
        obtain⟨q',g1,_,_,_,zs,g5,g6⟩:=I'.slot j _ ej
        rw[k1] at g1;cases g1
        obtain⟨xv,ex,rx⟩:=g6.at eD
        refine⟨q,zs,ii,n,xv,rfl,rfl,g5,hr.1,hr.2,by rw[g6.len];exact eI,ex,?_⟩
        have I2:=I'.write hb ej k1 (o:=.lst (zs.eraseIdx n)) (d':=.list (es.eraseIdx n)) λH2 e2 s2=>⟨_,e2,g6.eraseIdx n⟩
        obtain⟨ds,fs,eq,eg,k⟩:=tJ k
        by_cases hz:ds.length < sizeLine
        case neg=>rw[NL hz] at eg;cases eg
        rw[NG hz] at eg
        cases eg
        obtain⟨p',f1,_,_,_,us,f5,f6⟩:=I2.slot i _ eq
        rw[h1] at f1;cases f1
        refine⟨p,us,xv,rfl,rfl,f5,by rw[f6.len];exact hz,?_⟩
        exact k B G' _ σ (I2.write hb eq h1 λH2 e2 s2=>⟨_,e2,f6.snoc rx⟩) s'
     ·cases ep
   |_=>exact k.elim
  |_=>exact k.elim
end
def cq:List D->Int->FB
 | [.int m],β=>if 0 < m/\m < 1073741824 then .ok (.int (β % m)) false (β / m) else .bad
 |_,_=>.bad
def y9 (h:cq ds β≠.bad):∃m,ds= [.int m]/\0 < m/\m < 1073741824:=by
 unfold cq at h
 split at h
 ·rename_i m
  by_cases hh:0 < m/\m < 1073741824
  ·exact⟨m,rfl,hh.1,hh.2⟩
  ·rw[NL hh] at h;exact absurd rfl h
 ·exact absurd rfl h
def tW (h0:0 < m)(h1:m < 1073741824):cq [.int m] β=.ok (.int (β % m)) false (β / m):=NG ⟨h0,h1⟩
def constsOf:List Expr->Option (List Int)
 | []=>some []
 | .Constant (.int i) _ _ :: es=>(constsOf es).map λr=>i :: r
 |_=>none
def Nc (ns:List Int):VF (List D):=λ_ β=>.ok (ns.map int) β
theorem su {X:Cx}{Γ:Fx}{E:XK}:∀{es:List Expr} {ns:List Int},constsOf es=some ns->SA X Γ E es (Nc ns) []
 | [],ns,h=>by
  have e:ns= []:=by unfold constsOf at h;exact (Option.some.inj h).symm
  subst e
  exact ar
 |e :: es,ns,h=>by
  unfold constsOf at h
  split at h
  ·cases ‹_ :: _= []›
  ·next i a b es' heq=>
   cases heq
   cases q:constsOf es with
   |none=>rw[q] at h;cases h
   |some r=>
    rw[q] at h
    have e2:i :: r=ns:=Option.some.inj h
    subst e2
    exact ae ax (su q) rfl
  ·cases h
section
variable {P:Program}{w:World}{K:Frag}{mg:Str->Option Value}{base:Heap}
def ER {X:Cx}{px py pos:Pos}{k:Nat}(hN:X.N.Nodup)(hi:X.N[i]? =some x)(hj:X.N[j]? =some y)(hx:X.env.scope.names.lookup x=some .local)(hy:X.env.scope.names.lookup y=some .local)(hc:X.calm=true) :
  PG X (.Tuple [.Name x px,.Name y py] k pos) (Gu X.K 2 (pJ (lE i) (pJ (lE j) Gh))):=
 qj hc (dA (cP hN hi (Or.inl hx) (Or.inr hx)) (dA (cP hN hj (Or.inl hy) (Or.inr hy)) mr))
def D9 {b:Addr}{β m:Int}{H:Hp}{Q:VK}{G:Hp}(hb:H b=some (.lst [.int β]))(s:aw G H)(hp:H p=none)
  (kk:∀v G' H',iy (some b) H H'->H' b=some (.lst [.int (β / m)])->aw G G'->aw G' H'->(∀c,Mx H c->G c=none->G' c=none)->FV K H G' H' false (.int (β % m)) v->Q v H') (gb:G b=none) :
  Q (.int (β % m)) (upd (upd H p (.tup [.int (β / m),.int (β % m)])) b (.lst [.int (β / m)])):=by
 have hbp:b≠p:=aL hb hp
 refine kk _ G _ (λc o e n=>?_) au (aw.refl _) (λc o e=>?_) (λc _ h=>h) (.int _)
 ·rw[aB (λz=>n (by rw[z])),aB (aL e hp)];exact e
 ·rw[aB (λz=>by rw[z,gb] at e;cases e),aB (aL (s c o e) hp)];exact s c o e
end
end L2
namespace L2
open PySem PySem.SeqAt PySem.Spec PyProof.Rows
def tf {M:Model}{A:Around}{E:Value->Shared->Prop}{s:Shared}{β:Type}{b:Nat}(f:Nat->β->Sem (ForInStep β))(I:List Nat->β->Shared->Prop)(Q:β->Shared->Prop)
  (turn:∀x rest b s,I (x :: rest) b s->wpAny M A (f x b) (λr s'=>match r with | .yield b'=>I rest b' s' | .done b'=>Q b' s') E s)
  (fin:∀b s,I [] b s->Q b s) (c:β) (h:I (List.range' 0 b) c s):wpAny M A (forIn [0:b] c f) Q E s:=by
 rw[Std.Legacy.Range.forIn_eq_forIn_range']
 simp only[Std.Legacy.Range.size,Nat.sub_zero,Nat.add_sub_cancel,Nat.div_one]
 exact wpAny_forIn_list f I Q turn fin _ c h
def rl (l:Addr)(items:Array Value)(n:Nat)(dd:Option Addr)(sl:Array (Option Value))(x:Value)(e:Value->Bool)(j:Nat)(hj:j < items.size)
  (hit:e items[j]=true) (hno:∀m (hm:m < items.size),m < j->e items[m]=false) :
  Meets (Builtin.«tuple.index» ⟨[.ref l,x],[]⟩)
   (λA R s=>s.heap.get? l=some {cls:=.type "tuple",dict:=dd,data:=.seq items n,slots:=sl}/\(∀y,y∈items->EqAt A.in1 s y x (e y))/\R (.ok (.ret (.int j s.toks))) {s with toks:=s.toks + 1}):=
 .of_wp λprog w A R s h=>by
  obtain⟨hp,g,d,tk,os⟩:=s;obtain⟨hl,he,h⟩:=h
  wp_walk using wpAny_loadPart' hl,tf _ (λrest b s'=>b.1=none/\s'=⟨hp,g,d,tk,os⟩/\∃i,i<=j/\rest=List.range' i (items.size - i)) _
  case turn=>
   rintro y rest b s' ⟨hb,rfl,i,hi,hr⟩
   obtain⟨m,hm⟩:∃m,items.size - i=m + 1:=⟨items.size - i - 1,by omega⟩
   rw[hm,List.range'_succ] at hr
   obtain⟨rfl,rfl⟩:=List.cons.inj hr
   have hlt:y < items.size:=by omega
   have e1:items[y]? =some items[y]:=by simp[hlt]
   simp only[e1]
   refine NA (he _ (Qz hlt) prog w _ _ ?_)
   by_cases z:y=j
   ·subst z
    rw[hit]
    wp_walk
    exact⟨_,rfl,h⟩
   ·rw[hno y hlt (by omega)]
    wp_walk
    exact⟨rfl,rfl,y + 1,by omega,by congr 1;omega⟩
  case fin=>
   rintro b s' ⟨hb,rfl,i,hi,hr⟩
   obtain⟨m,hm⟩:∃m,items.size - i=m + 1:=⟨items.size - i - 1,by omega⟩
   rw[hm,List.range'_succ] at hr
   cases hr
  case h=>
   exact⟨rfl,rfl,0,Oh _,by rw[Nat.min_self];rfl⟩
section
variable {K:Frag}{X:Cx}{G H:Hp}{Γ:Fx}{E:XK}{e a b c:Expr}{f fa fb fc:VF D}{L La Lb:List Nat}{md ma mb mc:Md}{pos apos cpos np:Pos}
def xY (k:Int):Value->Bool
 | .int i _=>i == k
 |_=>false
theorem lY :∀{ns:List Int} {us:List Value} (i:Nat) (h:i < us.length) (h2:i < ns.length),Vals (ns.map V.int) us->xY k us[i]=(ns[i] == k)
 | [],_,_,_,h2,_=>absurd h2 (Nat.not_lt_zero _)
 |n :: ns,_,0,_,_,.cons r _=>by obtain⟨t,rfl⟩:=r;rfl
 |n :: ns,_,i + 1,h,h2,.cons _ rs=>lY i (Nat.lt_of_succ_lt_succ h) (Nat.lt_of_succ_lt_succ h2) rs
theorem vT (A:Around)(s:Shared):∀{ns:List Int} {us:List Value},Vals (ns.map V.int) us->∀y∈us,EqAt A s y (.int k t) (xY k y)
 | [],_,.nil,y,hy=>by cases hy
 |n :: ns,_,.cons r rs,y,hy=>by
  rcases NI.mp hy with z |z
  ·subst z;obtain⟨t',rfl⟩:=r;exact EqAt.int_int n t' k t
  ·exact vT A s rs y z
def FJ (K:Frag):V->List V->Hp->VK->Prop:=λx vs H Q=>∃(a:Addr) (ns:List Int) (k:Int),x=.ref a/\vs= [.int k]/\dU K H a (ns.map V.int)/\k∈ns/\Q (.int (ns.idxOf k:Nat)) H
def Ba:Hx X "tuple.index" (FJ X.K):=by
 intro pins s σ H x vs v us Q I rx rv h
 obtain⟨a,ns,k,rfl,rfl,hq,hk,q⟩:=h
 cases rx
 obtain⟨u,rfl,ru⟩:=vals1 rv
 obtain⟨t,rfl⟩:=ru
 obtain⟨its,rs,pl,hz⟩:=I.tuple hq
 obtain⟨⟨cls,dd,data,sl⟩,ho,hc,n,hd⟩:=id pl
 simp only at hc hd
 subst hc hd
 have hj:ns.idxOf k < ns.length:=OU.mpr hk
 have hlen:its.length=ns.length:=by rw[<-rs.length,NM]
 refine Qg PySem.F.slot_tuple_index ⟨_,ho,rfl⟩ PySem.F.entry_tuple_index (PySem.F.args_tuple_index_2 _ _)
  (rl a its.toArray n dd sl (.int k t) (xY k) (ns.idxOf k) (by simpa[hlen] using hj) ?_ ?_) ⟨ho,λy hy=>vT _ _ rs y (by simpa using hy),?_⟩
 ·have:=lY (k:=k) (ns.idxOf k) (by omega) hj rs
  simpa[Qb hj] using this
 ·intro m hm hlt
  have hm':m < ns.length:=by simpa[hlen] using hm
  have hne:ns[m]≠k:=λz=>by
   have:=List.not_of_lt_findIdx (p:=(· == k)) hlt
   simp[z] at this
  have:=lY (k:=k) m (by omega) hm' rs
  rw[beq_eq_false_iff_ne.mpr hne] at this;simpa using this
 ·exact⟨.int (ns.idxOf k:Nat),H,I.tok _,⟨_,rfl⟩,q⟩
def Inv.tupleP (I:Inv X pins σ H s)(h:dU X.K H p xs):s.TypeIs (.ref p) "tuple"/\∀a,Value.ref p=.ref a->∃ob,s.heap.get? a=some ob/\ob.dict=none:=by
 rcases h with h | ⟨o,its,n,hk,hc,hs,hz,r,hd⟩
 ·obtain⟨_,_,_,o,e,c,n,d,hd⟩:=h.ok I.hok
  exact⟨⟨o,e,c⟩,λa z=>by cases z;exact⟨o,e,hd⟩⟩
 ·exact⟨⟨o,I.kIn p o hk,hc⟩,λa z=>by cases z;exact⟨o,I.kIn p o hk,hd⟩⟩
def MX (K:Frag)(r:V->List V->Hp->VK->Prop)(to:TE)(t:TA):TE:=λσ H Q=>to σ H λx H1=>(∃p xs,x=.ref p/\dU K H1 p xs)/\t σ H1 λxs H2=>r x xs H2 Q
def JB {o e:Expr}{es:List Expr}{to:TE}{t:TA}{name:Str}{apos cpos:Pos}{id:String}{r:V->List V->Hp->VK->Prop}(slot:Slot "tuple" name id)(hty:typeOf (.builtin id)=pure (.type "method_descriptor"))(hm:Hx X id r)(ho:PE X o to)(ha:PA X (e :: es) t)
  (hbase:attributeBase o name X.env (eval o X.env)=eval o X.env:=by rfl)
  (hfew:((backTo cpos (starEach (e :: es) X.env)).all (λx=> !x.1) && (backToKw cpos (keywordEach [] X.env)).all (λx=>x.1.isSome)
   && decide ((e :: es).length + ([]:List Keyword).length + (if ([]:List Keyword).isEmpty then 0 else 1) < 30))=true:=by rfl)
  (hline:(apos.endLine == cpos.line)=true:=by rfl) (hs:starEach (e :: es) X.env=(false,eval e X.env) :: starEach es X.env:=by rfl) (hplain:(backTo cpos (starEach es X.env)).any (·.1)=false:=by rfl) :
  PE X (.Call (.Attribute o name apos) (e :: es) [] cpos) (MX X.K r to t):=by
 intro pins s σ H Q I h
 refine wpAny_Call_method_late hbase hfew hline rfl (cx (ho pins s σ H _ I h) λv s1 ⟨x,H1,I1,r1,⟨p,ys,ex,hr⟩,q1⟩=>?_)
 subst ex
 cases r1
 obtain⟨h1,h2⟩:=I1.tupleP hr
 refine⟨"tuple",id,PySem.F.plainAttrs_tuple,slot,hty,h1,h2,?_⟩
 have hA:=ha cpos pins s1 σ H1 _ I1 q1
 rw[hs] at hA ⊢
 refine Calls.callWith_builtin (by show (false || (backTo cpos (starEach es X.env)).any (·.1))=false;rw[hplain] <;> rfl) (Calls.evalArgs_plain ?_)
 exact cx hA λus s2 ⟨vs,H2,I2,r2,q2⟩=>hm pins s2 σ H2 (.ref p) vs (.ref p) us Q I2 rfl r2 q2
def gr:List D->Option (List Int)
 | []=>some []
 | .int i :: ds=>(gr ds).map (i :: ·)
 |_=>none
theorem kL:∀{ds:List D} {ns:List Int},gr ds=some ns->ds=ns.map int
 | [],ns,h=>by cases h;rfl
 | .int i :: ds,ns,h=>by
  unfold gr at h
  cases q:gr ds with
  |none=>rw[q] at h;cases h
  |some ms=>rw[q] at h;cases h;rw[kL q];rfl
 | .none :: _,_,h=>by cases h
 | .bool _ :: _,_,h=>by cases h
 | .str _ :: _,_,h=>by cases h
 | .list _ :: _,_,h=>by cases h
 | .tuple _ :: _,_,h=>by cases h
 | .dict _ :: _,_,h=>by cases h
theorem dP:∀ns:List Int,gr (ns.map int)=some ns
 | []=>rfl
 |n :: ns=>by show (gr (ns.map int)).map (n :: ·)=_;rw[dP ns];rfl
theorem qw:∀{ns:List Int} {xs:List V},cc K G xs (ns.map int)->xs=ns.map V.int
 | [],_,.nil=>rfl
 |n :: ns,_,.cons r t=>by cases r;rw[qw t];rfl
def Ft (d y:D):Option D:=match d,y with
 | .tuple ds,.int k=>(match gr ds with
  |some ns=>if k∈ns then some (.int (ns.idxOf k:Nat)) else none
  |none=>none)
 |_,_=>none
def zJ:D->Bool
 | .tuple _=>true
 |_=>false
def yO (fa fb:VF D):VF D:=λvs β=>(fa vs β).bnd λx β1=>if zJ x=true then (fb vs β1).bnd λy β2=>R.of (Ft x y) β2 else .bad
theorem wz (hK:X.K=Γ.K)(ha:SE X Γ E a fa La ma)(hb:SE X Γ E b fb Lb mb)
  (hbase:attributeBase a "index" X.env (eval a X.env)=eval a X.env:=by rfl)
  (hfew:((backTo cpos (starEach [b] X.env)).all (λx=> !x.1) && (backToKw cpos (keywordEach [] X.env)).all (λx=>x.1.isSome)
   && decide ([b].length + ([]:List Keyword).length + (if ([]:List Keyword).isEmpty then 0 else 1) < 30))=true:=by rfl)
  (hline:(apos.endLine == cpos.line)=true:=by rfl) (hs:starEach [b] X.env=(false,eval b X.env) :: starEach [] X.env:=by rfl) :
  SE X Γ E (.Call (.Attribute a "index" apos) [b] [] cpos) (yO fa fb) (La ++ Lb) .v:=by
 refine PE.post' (JB PySem.F.slot_tuple_index PySem.F.type_tuple_index Ba ha (ak hb aN hs) hbase hfew hline hs rfl) λσ H Q ⟨env,G,B,β,I,o⟩=>?_
 refine⟨env,G,B,β,I,o.bnd.imp λd1 β1 h x G1 H1 I1 s1 m1 vx=>?_⟩
 have vx:=vx.brw I.boxThere
 cases d1 with
 |tuple ds=>
  rw[NG (show zJ (.tuple ds)=true from rfl)] at h
  obtain⟨p,xs,rfl,hq,r⟩:=vx.tuple I1.sub
  refine⟨⟨p,xs,rfl,by rw[hK];exact hq⟩,?_⟩
  refine⟨bt La env,G1,B,β1,I1,?_⟩
  rw[fg]
  refine h.bnd.imp λd2 β2 h y G2 H2 I2 s2 m2 vy=>?_
  obtain⟨d,e,k⟩:=h.of
  have vy:=vy.brw I1.boxThere
  cases d2 with
  |int kk=>
   obtain rfl:=vy.int
   simp only[Ft] at e
   cases q:gr ds with
   |none=>rw[q] at e;cases e
   |some ns=>
    rw[q] at e
    dsimp only at e
    split at e
    ·rename_i hk
     cases e
     have eds:=kL q
     subst eds
     have exs:=qw r
     subst exs
     have hq2:dU X.K H2 p (ns.map V.int):=by
      rw[hK]
      rcases hq with hq |hq
      ·rcases vx with vx | ⟨_,_,_,vx⟩
       ·cases vx with
        |tup g1 r9=>have z9:=qw r9;subst z9;exact (g1.grow (s2.trans I2.sub).grow)
       ·exact vx.elim
      ·exact .inr hq
     exact⟨p,ns,kk,rfl,rfl,hq2,hk,k _ G2 H2 (by rw[cw];exact I2) (s1.trans s2) (m1.trans m2) (.int _)⟩
    ·cases e
  |_=>simp only[Ft] at e;cases e
 |_=>exact h.elim
abbrev Fx.at (Γ:Fx)(H0:Hp):Fx:=⟨Γ.K,H0,Γ.G0,Γ.par,Γ.ca,Γ.br,Γ.bx⟩
end
end L2
namespace L2
open PySem PySem.Spec PyProof.Rows
def J3 (W:Addr->Str->Prop):Sp:=λvs H Q _=>∃(ea D:Addr) (x:Str),vs= [.ref ea]/\H ea=some (.ext (ja ea (.ref D)))/\W D x/\∀H',aw H H'->Q (.str x) H'
def iZ:En->Bool
 | []=>true
 | .no :: env=>iZ env
 | .fz _ :: env=>iZ env
 |_=>false
theorem gV:∀{env:En} {i:Nat} {s:Sl},iZ env=true->env[i]? =some s->s=.no\/∃d,s=.fz d
 | [],_,_,_,e=>by simp at e
 | .no :: env,0,_,_,e=>by simp at e;exact .inl e.symm
 | .fz d :: env,0,_,_,e=>by simp at e;exact .inr ⟨d,e.symm⟩
 | .no :: env,i + 1,s,h,e=>gV (env:=env) h (by simpa using e)
 | .fz d :: env,i + 1,s,h,e=>gV (env:=env) h (by simpa using e)
 | .ow _ :: _,_,_,h,_=>by cases h
 | .br _ :: _,_,_,h,_=>by cases h
 | .bx :: _,_,_,h,_=>by cases h
section
variable {X:Cx}{Γ:Fx}{E:XK}{m:SF}
def SR.drop (I:SR Γ B G H σ env β)(hf:iZ env=true):SR (Fx.fn Γ.K H G Γ.ca) none G H σ env 0:=by
 refine⟨I.sub,aw.refl _,λb _ h=>h,λb o h _=>h,λb h=>(by cases h),λb h=>(by cases h),λb h=>(by cases h),I.len,λi s e=>?_,λi j a d e h=>?_⟩
 ·rcases gV hf e with rfl | ⟨d,rfl⟩
  ·trivial
  ·exact I.slot i _ e
 ·rcases gV hf h with z | ⟨_,z⟩ <;> cases z
def SR.undrop (I:SR Γ B G H σ env β)(J:SR (Fx.fn Γ.K H G Γ.ca) B' G' H' σ' env' β'):SR Γ B G' H' σ (List.replicate env.length .no) β:=by
 have kp:∀b o,H b=some o->H' b=some o:=λb o e=>J.keep b o e (by simp)
 refine⟨J.sub,I.old.trans J.old,λb h1 h2=>J.new b (I.thereM h1) (I.new b h1 h2),λb o h1 h2=>kp b o (I.keep b o h1 h2),λb hb=>(I.pin b hb).same (kp b),I.fix,λb e=>?_,by rw[Pe];exact I.len,λi s e=>?_,λi j a d e h=>?_⟩
 ·obtain⟨h1,h2,h3⟩:=I.box b e
  exact⟨kp b _ h1,J.new b (Mx.lst h1) h2,h3⟩
 ·rw[Pl (NU e)];trivial
 ·have:=Pl (NU h);cases this
def SR.forget (I:SR Γ B G H σ env β)(hh:aw H H'):SR Γ B G H' σ env β:=I.ext ⟨hh,aw.refl _,I.sub.trans hh,λ_ _=>rfl⟩
end
structure Fc (P:Program)(w:World)(K:Frag)(mg:Str->Option Value)(base:Heap)(ca:Str->Addr)(x y:Str)(marks:Str->Option Str):Prop where
 ex:∃(gm Dc:Addr) (dm:FuncData) (W:Addr->Str->Prop),r6 P w K mg base ye 1 gm dm ["e"] (J3 W)/\mg y=some (.ref gm)/\PySem.W.keepIn K (.ref gm)=true/\Binds K dm ["e"] []/\mg x=some (.ref Dc)/\∀c z,marks c=some z->Mt K (.ref (ca c)) Dc/\W (ca c) z
end L2
namespace L2
open PySem
section
variable {α γ:Type}
@[simp] theorem lI (a:α)(β:Int)(k:α->Int->R γ):(R.ok a β).bnd k=k a β:=rfl
@[simp] theorem LB (c:Str)(k:α->Int->R γ):(R.exc c:R α).bnd k=.exc c:=rfl
@[simp] theorem LG (k:α->Int->R γ):(R.bad:R α).bnd k=.bad:=rfl
@[simp] theorem ME (a:α)(β:Int)(k:α->Int->R γ):(R.ok a β).okb k=k a β:=rfl
@[simp] theorem uk (a:α)(β:Int):R.of (some a) β=.ok a β:=rfl
@[simp] theorem of_none (β:Int):(R.of none β:R α)=.bad:=rfl
@[simp] theorem MU (a:α)(β:Int)(k:α->Int->SO):toS (.ok a β) k=k a β:=rfl
@[simp] theorem Ls (c:Str)(k:α->Int->SO):toS (.exc c:R α) k=.exc c:=rfl
@[simp] theorem Lz (k:α->Int->SO):toS (.bad:R α) k=.bad:=rfl
end
section
variable (f fa fb fc:VF D)(t u:VF Bool)(m m':SF)(vs:List Nv)(β:Int)(env:En)(i j:Nat)(L:List Nat)
@[simp] theorem Hb:gv i vs β=R.of (dat vs[i]?) β:=rfl
@[simp] theorem ym (d:D):dat (some (.da d))=some d:=rfl
@[simp] theorem MR (d:D):cst d vs β=.ok d β:=rfl
@[simp] theorem MZ (g:D->Option D):f1 fa g vs β=(fa vs β).bnd λx β1=>R.of (g x) β1:=rfl
@[simp] theorem M8 (g:D->D->Option D):f2 fa fb g vs β=(fa vs β).bnd λx β1=>(fb vs β1).bnd λy β2=>R.of (g x y) β2:=rfl
@[simp] theorem yX:ag vs β=.ok [] β:=rfl
@[simp] theorem cU (fr:VF (List D)):aa fa fr vs β=(fa vs β).bnd λx β1=>(fr vs β1).bnd λxs β2=>.ok (x :: xs) β2:=rfl
@[simp] theorem td:oQ fa vs β=(fa vs β).bnd λx β1=>R.of (Js x) β1:=rfl
@[simp] theorem uj:uX t vs β=(t vs β).bnd λc β1=>.ok (!c) β1:=rfl
@[simp] theorem yH:zX t u vs β=(t vs β).bnd λc β1=>if c=true then u vs β1 else .ok false β1:=rfl
@[simp] theorem tK:oS t u vs β=(t vs β).bnd λc β1=>if c=true then .ok true β1 else u vs β1:=rfl
@[simp] theorem M6 (n:Bool):tN fa n vs β=(fa vs β).bnd λx β1=>.ok (if n then !GA x else GA x) β1:=rfl
@[simp] theorem LY:Nx t fa fb vs β=(t vs β).bnd λc β1=>if c=true then fa vs β1 else fb vs β1:=rfl
@[simp] theorem dq (c:Bool)(h:fa vs β=.ok (.bool c) β1):dh fa vs β=.ok c β1:=by unfold dh;rw[h];rfl
@[simp] theorem xC:vl []= []:=rfl
@[simp] theorem tQ (s:Sl):vl (s :: env)=s.val :: vl env:=rfl
@[simp] theorem xi (d:D):(Sl.fz d).val=.da d:=rfl
@[simp] theorem LQ (d:D):(Sl.ow d).val=.da d:=rfl
@[simp] theorem LR:Sl.no.val=.no:=rfl
@[simp] theorem L5:Sl.bx.val=.bx:=rfl
@[simp] theorem LJ:bt [] env=env:=rfl
@[simp] theorem KS:bt (i :: L) env=bt L (jj env i):=rfl
@[simp] theorem Lx:aJ m m' env β=(match m env β with
 | .nx env' β'=>m' env' β'
 |r=>r):=rfl
@[simp] theorem MT:lx L t m m' env β=toS (t (vl env) β) λc β'=>if c=true then m (bt L env) β' else m' (bt L env) β':=rfl
@[simp] theorem gE:cf f env β=toS (f (vl env) β) λd β'=>.rt d false β':=rfl
@[simp] theorem KG:wG f env β=toS (f (vl env) β) λd β'=>.rt d true β':=rfl
@[simp] theorem Mo:nt env β=.nx env β:=rfl
@[simp] theorem bD:a7 i L f env β=toS (f (vl env) β) λd β'=>.nx ((bt L env).set i (.fz d)) β':=rfl
@[simp] theorem jh:j6 i L f env β=toS (f (vl env) β) λd β'=>.nx ((bt L env).set i (.ow d)) β':=rfl
@[simp] theorem eS:qi L f env β=toS (f (vl env) β) λ_ β'=>.nx (bt L env) β':=rfl
end
def ao {m m':SF}{env env':En}{β β':Int}(h:m env β=.nx env' β'):aJ m m' env β=m' env' β':=by unfold aJ;rw[h]
def fO {m m':SF}{env:En}{β β':Int}(h:m env β=.rt d b β'):aJ m m' env β=.rt d b β':=by unfold aJ;rw[h]
def wu {m m':SF}{env:En}{β:Int}(h:m env β=.exc c):aJ m m' env β=.exc c:=by unfold aJ;rw[h]
def gC {L:List Nat}{t:VF Bool}{m m':SF}{env:En}{β β':Int}(h:t (vl env) β=.ok true β'):lx L t m m' env β=m (bt L env) β':=by unfold lx;rw[h];rfl
def fY {L:List Nat}{t:VF Bool}{m m':SF}{env:En}{β β':Int}(h:t (vl env) β=.ok false β'):lx L t m m' env β=m' (bt L env) β':=by unfold lx;rw[h];rfl
def aE {F:List D->FR}{vs:List Nv}{β β1:Int}(h:fr vs β=.ok ds β1)(e:F ds=.ok d b):az F fr vs β=.ok d β1:=by unfold az;rw[h];dsimp only[R.bnd];rw[e]
def sE {F:List D->FR}{vs:List Nv}{β β1:Int}(h:fr vs β=.ok ds β1)(e:F ds=.exc c):az F fr vs β=.exc c:=by unfold az;rw[h];dsimp only[R.bnd];rw[e]
def Ee {F:List D->FR}{vs:List Nv}{β β1:Int}(h:fr vs β=.ok ds β1)(e:F ds=.ok d true):vH F fr vs β=.ok d β1:=by unfold vH;rw[h];dsimp only[R.bnd];rw[e]
def dg {fa:VF D}{g:D->Option D}{vs:List Nv}{β β1:Int}(h:fa vs β=.ok x β1)(e:g x=some d):f1 fa g vs β=.ok d β1:=by unfold f1;rw[h];dsimp only[R.bnd];rw[e];rfl
def aH {fa fb:VF D}{g:D->D->Option D}{vs:List Nv}{β β1 β2:Int}(h:fa vs β=.ok x β1)(h':fb vs β1=.ok y β2)(e:g x y=some d):f2 fa fb g vs β=.ok d β2:=by unfold f2;rw[h];dsimp only[R.bnd];rw[h'];dsimp only[R.bnd];rw[e];rfl
def fD {i:Nat}{F:List D->Int->FB}{vs:List Nv}{β β1 β2:Int}(hi:yr vs i=true)(h:fr vs β=.ok ds β1)(e:F ds β1=.ok d b β2):lq i F fr vs β=.ok d β2:=by unfold lq;rw[NG hi,h];dsimp only[R.bnd];rw[e]
def sz (n:Nat)(h:n<=1000):n<=sizeLine:=by rw[N8];omega
def Kq (n:Nat)(h:n<=1000):n < sizeLine:=by rw[N8];omega
def kQ {vs:List Nv}{β β1:Int}(h:fr vs β=.ok ds β1)(hz:ds.length<=1000):cv fr vs β=.ok (.tuple ds) β1:=by unfold cv;rw[h];exact NG (sz _ hz)
def eG {vs:List Nv}{β β1:Int}(h:fr vs β=.ok ds β1)(hz:ds.length<=1000):bC fr vs β=.ok (.list ds) β1:=by unfold bC;rw[h];exact NG (sz _ hz)
def yv {i:Nat}{env:En}{β:Int}{g:List D->Option (List D)}(h:env[i]? =some (.ow (.list ds)))(e:g ds=some es):IY i env β g=.nx (env.set i (.ow (.list es))) β:=by unfold IY;rw[h];dsimp only;rw[e]
def pw {i:Nat}{L:List Nat}{f:VF D}{env:En}{β β':Int}(hi:env[i]? =some (.ow (.list ds)))(hf:f (vl env) β=.ok d β')(hL:(bt L env)[i]? =some (.ow (.list ds)))(hz:ds.length<=1000):l0 i L f env β=.nx ((bt L env).set i (.ow (.list (ds ++ [d])))) β':=by
 unfold l0
 rw[NG (by rw[hi];rfl),hf]
 exact yv hL (NG (Kq _ hz))
def yo {i j:Nat}{L:List Nat}{f:VF D}{env:En}{β β':Int}(hi:env[i]? =some (.ow (.list ds)))(hj:env[j]? =some (.ow (.list es)))(hij:i≠j)(hf:f (vl env) β=.ok k β')(hL:bt L env=env)(hp:AU es k=some (d,es'))(hz:ds.length<=1000):jS i j L f env β=.nx ((env.set j (.ow (.list es'))).set i (.ow (.list (ds ++ [d])))) β':=by
 unfold jS
 rw[NG ⟨by rw[hi];rfl,by rw[hj];rfl,hij⟩,hf,hL]
 dsimp only[toS]
 rw[hj]
 dsimp only
 rw[hp]
 exact yv (by rw[NX (Ne.symm hij)];exact hi) (NG (Kq _ hz))
def qP {i:Nat}{env:En}{β β1 β2:Int}(he:fe (vl env) β=.ok d β1)(h1:(bt Le env)[i]? =some (.ow (.list ds)))(hi:fi (vl env) β1=.ok (.int k) β2)(h2:(bt (Le ++ Li) env)[i]? =some (.ow (.list ds)))(hk:uW ds.length k=some n):mD i Le Li fe fi env β=.nx ((bt (Le ++ Li) env).set i (.ow (.list (ds.set n d)))) β2:=by
 unfold mD
 rw[he]
 dsimp only[toS]
 rw[NG (by rw[h1];rfl),hi]
 exact yv h2 (by dsimp only;rw[hk];rfl)
theorem qe {t:Tg}{vs:List Nv}(g:D->Bool)(h:D->D):∀{ds:List D} {β:Int},(∀d,d∈ds->∃vs1,oz t d vs=some vs1/\ft vs1 β=.ok (g d) β/\(g d=true->fe vs1 β=.ok (h d) β))->ic t ft fe vs ds β=.ok ((ds.filter g).map h) β
 | [],β,_=>rfl
 |d :: ds,β,hh=>by
  obtain⟨vs1,e1,e2,e3⟩:=hh d (NN ..)
  have ih:=qe (t:=t) (ft:=ft) (fe:=fe) (vs:=vs) g h (ds:=ds) (β:=β) λd' hd=>hh d' (NJ _ hd)
  unfold ic
  rw[e1]
  dsimp only
  rw[e2]
  dsimp only[R.okb]
  cases q:g d with
  |true=>
   rw[NG rfl,e3 q]
   dsimp only
   rw[ih,List.filter_cons_of_pos q];rfl
  |false=>
   rw[NL NY,ih,List.filter_cons_of_neg (by rw[q];exact NY)]
def yP {own:Nat}{ixs:List Nat}{t:Tg}{ft:VF Bool}{fe:VF D}{vs:List Nv}{β β1:Int}(g:D->Bool)(h:D->D)(hi:fi vs β=.ok ds β1)(hz:ds.length<=1000)
  (hh:∀d,d∈ds->∃vs1,oz t d (gB own ixs vs)=some vs1/\ft vs1 β1=.ok (g d) β1/\(g d=true->fe vs1 β1=.ok (h d) β1)):bh own ixs t fi ft fe vs β=.ok (.list ((ds.filter g).map h)) β1:=by
 unfold bh
 rw[hi]
 dsimp only[R.bnd]
 rw[NG (sz _ hz),qe g h hh];rfl
def rV {own:Nat}{ixs:List Nat}{t:Tg}{fe:VF D}{vs:List Nv}{β β1:Int}(h:D->D)(hi:fi vs β=.ok ds β1)(hz:ds.length<=1000)
  (hh:∀d,d∈ds->∃vs1,oz t d (gB own ixs vs)=some vs1/\fe vs1 β1=.ok (h d) β1):bh own ixs t fi oH fe vs β=.ok (.list (ds.map h)) β1:=by
 rw[yP (ft:=oH) (λ_=>true) h hi hz λd hd=>let ⟨vs1,e1,e2⟩:=hh d hd;⟨vs1,e1,rfl,λ_=>e2⟩]
 rw[List.filter_eq_self.mpr (λ_ _=>rfl)]
def hZ {α:Type}{own:Nat}{ixs:List Nat}{t:Tg}{fi:VF (List D)}{fe:VF D}{vs:List Nv}{β β1:Int}{l:List α}{e:α->D}(h:α->D)(hi:fi vs β=.ok (l.map e) β1)(hz:l.length<=1000)
  (hh:∀x,x∈l->∃vs1,oz t (e x) (gB own ixs vs)=some vs1/\fe vs1 β1=.ok (h x) β1):bh own ixs t fi oH fe vs β=.ok (.list (l.map h)) β1:=by
 unfold bh
 rw[hi]
 dsimp only[R.bnd]
 rw[NG (sz _ (by rw[NM];exact hz))]
 have key:∀m:List α,(∀x,x∈m->x∈l)->ic t oH fe (gB own ixs vs) (m.map e) β1=.ok (m.map h) β1:=by
  intro m
  induction m with
  |nil=>intro _;rfl
  |cons x m ih=>
   intro hm
   obtain⟨vs1,e1,e2⟩:=hh x (hm x (NN ..))
   rw[Oq]
   unfold ic
   rw[e1]
   dsimp only
   show (R.ok true β1).okb _=_
   dsimp only[R.okb]
   rw[NG rfl,e2]
   dsimp only
   rw[ih λy hy=>hm y (NJ _ hy)];rfl
 rw[key l λ_ h=>h];rfl
def jN {α:Type}{own:Nat}{ixs:List Nat}{t:Tg}{fi:VF (List D)}{ft:VF Bool}{fe:VF D}{vs:List Nv}{β β1:Int}{l:List α}{e:α->D}(g:α->Bool)(h:α->D)(hi:fi vs β=.ok (l.map e) β1)(hz:l.length<=1000)
  (hh:∀x,x∈l->∃vs1,oz t (e x) (gB own ixs vs)=some vs1/\ft vs1 β1=.ok (g x) β1/\(g x=true->fe vs1 β1=.ok (h x) β1)):bh own ixs t fi ft fe vs β=.ok (.list ((l.filter g).map h)) β1:=by
 unfold bh
 rw[hi]
 dsimp only[R.bnd]
 rw[NG (sz _ (by rw[NM];exact hz))]
 have key:∀m:List α,(∀x,x∈m->x∈l)->ic t ft fe (gB own ixs vs) (m.map e) β1=.ok ((m.filter g).map h) β1:=by
  intro m
  induction m with
  |nil=>intro _;rfl
  |cons x m ih=>
   intro hm
   obtain⟨vs1,e1,e2,e3⟩:=hh x (hm x (NN ..))
   have ih:=ih λy hy=>hm y (NJ _ hy)
   rw[Oq]
   unfold ic
   rw[e1]
   dsimp only
   rw[e2]
   dsimp only[R.okb]
   cases q:g x with
   |true=>
    rw[NG rfl,e3 q]
    dsimp only
    rw[ih,List.filter_cons_of_pos q];rfl
   |false=>
    rw[NL NY,ih,List.filter_cons_of_neg (by rw[q];exact NY)]
 rw[key l λ_ h=>h];rfl
theorem cT {t:Tg}{m:SF}(Pv:Nat->En->Int->Prop):∀{ds:List D} {k:Nat} {env:En} {β:Int},Pv k env β->
  (∀i d env β,ds[i]? =some d->Pv (k + i) env β->∃env1,fZ t d env=some env1/\∃env2 β2,m env1 β=.nx env2 β2/\Pv (k + i + 1) env2 β2)->∃env' β',mE t m ds env β=.nx env' β'/\Pv (k + ds.length) env' β'
 | [],k,env,β,h0,_=>⟨env,β,rfl,h0⟩
 |d :: ds,k,env,β,h0,hs=>by
  obtain⟨env1,e1,env2,β2,e2,h1⟩:=hs 0 d env β rfl h0
  obtain⟨env',β',e3,h2⟩:=cT Pv (t:=t) (m:=m) (ds:=ds) (k:=k + 1) h1 λi d' en be hi hp=>by
   have:=hs (i + 1) d' en be (by simpa using hi) (by rw[show k + (i + 1)=k + 1 + i by omega];exact hp)
   rw[show k + (i + 1) + 1=k + 1 + i + 1 by omega] at this
   exact this
  refine⟨env',β',?_,by rw[N0,show k + (ds.length + 1)=k + 1 + ds.length by omega];exact h2⟩
  unfold mE
  rw[e1]
  dsimp only
  rw[e2]
  exact e3
theorem hJ {L:List Nat}{t:VF Bool}{m:SF}(Pv:Nat->En->Int->Prop)(Dn:En->Int->Prop):∀{n k:Nat} {env:En} {β:Int},k < n->Pv k env β->
  (∀k env β,Pv k env β->∃c β1,t (vl env) β=.ok c β1/\((c=false/\Dn (bt L env) β1)\/(c=true/\∃env2 β2 k',m (bt L env) β1=.nx env2 β2/\k' < k/\Pv k' env2 β2)))->∃env' β',hX L t m n env β=.nx env' β'/\Dn env' β'
 | 0,k,env,β,hk,_,_=>by omega
 |n + 1,k,env,β,hk,h0,hs=>by
  obtain⟨c,β1,e1,hc⟩:=hs k env β h0
  unfold hX
  rw[e1]
  dsimp only[toS]
  rcases hc with⟨rfl,hd⟩ | ⟨rfl,env2,β2,k',e2,hl,h1⟩
  ·exact⟨_,_,rfl,hd⟩
  ·rw[NG rfl,e2]
   exact hJ Pv Dn (n:=n) (k:=k') (by omega) h1 hs
end L2
namespace RM
open PySem L2
def qd:SF:=(cf (iz (f1 (gv 0) (jd "int")) (f1 (f1 (gv 0) (jd "bool")) Ar)))
def pI (bW:List D->FR):SF:=(cf (iz (az bW (aa (gv 0) ag)) (jZ (cst (.int 0)) (gv 0) (gv 1) BP xc)))
def sX (bW:List D->FR):SF:=(cf (iz (az bW (aa (gv 0) ag)) (jZ (cst (.int 1)) (gv 0) (cst (.int 8)) BP BP)))
def sH (bg:List D->FR):SF:=(aJ (lx ([] ++ ([] ++ [])) (oS (uX (oQ (f1 (gv 0) (jd "tuple")))) (dh (f2 (f1 (gv 0) cR) (cst (.int 2)) (dX true))))
 (cf (cst (.bool false)))
 nt)
 (cf (iz (az bg (aa (f2 (gv 0) (cst (.int 0)) bV) (aa (gv 1) ag))) (az bg (aa (f2 (gv 0) (cst (.int 1)) bV) (aa (gv 1) ag))))))
def ud:SF:=(wG (bh 1 [0] (.nm 0) (kC (f2 (gv 0) (gv 0) gq)) oH (cv (aa (f2 (gv 0) (gv 1) B4) (aa (f2 (gv 0) (gv 1) mC) ag)))))
def pQ:SF:=(cf (f1 (bh 2 [] (.two 0 1) (bR (gv 0)) oH (f2 (gv 0) (gv 1) (dX false))) (dH λbs=>bs.any id)))
def hW (g7 gW jc fk:List D->FR):SF:=(aJ (lx ([] ++ ([] ++ [])) (oS (uX (oQ (f1 (gv 0) (jd "tuple")))) (dh (f2 (f1 (gv 0) cR) (cst (.int 2)) (dX true))))
 (cf (cst (.bool false)))
 nt)
 (aJ (a7 1 ([] ++ []) (f2 (gv 0) (cst (.int 0)) bV))
 (aJ (a7 2 ([] ++ []) (f2 (gv 0) (cst (.int 1)) bV))
 (aJ (lx (([1] ++ []) ++ []) (oS (uX (oQ (az g7 (aa (gv 1) ag)))) (uX (oQ (f1 (gv 2) (jd "tuple")))))
 (cf (cst (.bool false)))
 nt)
 (aJ (lx ([] ++ [1]) (uX (oQ (f1 (bh 1 [1] (.nm 0) (bR (gv 2)) oH (az gW (aa (gv 0) (aa (gv 1) ag)))) (dH λbs=>bs.all id))))
 (cf (cst (.bool false)))
 nt)
 (cf (iz (f2 (gv 2) (az jc (aa (gv 1) (aa (gv 2) ag))) (dX false)) (f1 (az fk (aa (gv 2) ag)) Ar))))))))
def gO (fA:List D->FR):SF:=(lx ([0] ++ []) (uX (oQ (az fA (aa (gv 0) ag))))
 (λenv β=>toS ((aa (cst (.str "this is no order")) ag) (vl env) β) λds _=>if ds.length<=sizeLine then .exc "NoOrder" else .bad)
 nt)
def fX:SF:=(aJ (lx ([] ++ []) (dh (f2 (gv 1) (f1 (gv 0) cR) xc))
 (cf (f2 (gv 0) (gv 1) bV))
 nt)
 (cf (cst (.int 0))))
def jL:SF:=(aJ (a7 2 [] (bC (Nc [48271,69621,16807,39373,30269,40014,40692,50021,61687,71993,83869,95561,30307]))) (aJ (a7 3 ((((([] ++ []) ++ []) ++ ([] ++ ([] ++ []))) ++ ([] ++ [])) ++ ([] ++ ([] ++ []))) (f2 (f2 (f2 (f2 (f2 (gv 0) (cst (.int 2147483647)) mC) (cst (.int 12345)) cH) (f2 (gv 2) (f2 (gv 1) (cst (.int 13)) mC) bV) gq) (f2 (cst (.int 977)) (gv 1) gq) cH) (f2 (cst (.int 7919)) (f2 (gv 1) (cst (.int 13)) B4) gq) cH))
 (aJ (a7 3 ([] ++ []) (f2 (gv 3) (cst (.int 1000000007)) mC))
 (cf (f2 (f2 (f2 (f2 (gv 3) (gv 3) gq) (f2 (cst (.int 48271)) (gv 1) gq) cH) (cst (.int 1000000007)) mC) (cst (.int 7)) B4)))))
def jx (dO fm:List D->FR):SF:=(aJ (a7 2 ([0] ++ ([1] ++ [])) (az dO (aa (gv 0) (aa (gv 1) ag))))
 (aJ (lx (([] ++ []) ++ []) (dh (f2 (f2 (gv 2) (cst (.int 2)) mC) (cst (.int 0)) (dX false)))
 (wG (bC (aa (f2 (f1 (gv 2) FK) (cst (.int 2)) B4) ag)))
 nt)
 (aJ (a7 3 [] (cst (.int 0)))
 (aJ (di (.nm 4) [] (kC (cst (.int 40)))
 (a7 3 (([] ++ []) ++ ([2] ++ ([4] ++ []))) (f2 (f2 (gv 3) (cst (.int 142857143)) gq) (az fm (aa (gv 2) (aa (gv 4) ag))) cH)))
 (wG (bC (aa (gv 3) ag)))))))
def dD (aG:List D->Int->FB):SF:=(aJ (j6 2 [] (f1 (gv 1) CC))
 (aJ (j6 3 [] (bC ag))
 (aJ (hX ([] ++ []) (dh (f2 (gv 2) (bC ag) (dX true)))
 (jS 3 2 ([] ++ []) (lq 0 aG (aa (f1 (gv 2) cR) ag))) 1000)
 (l5 3))))
noncomputable def fI:SF:=(aJ (a7 1 [] (f1 (gv 0) cI))
 (aJ (a7 2 [] (f1 (cst (.int 1)) AA))
 (aJ (hX ([] ++ []) (dh (f2 (gv 2) (f1 (gv 1) cR) (dX true)))
 (aJ (a7 2 [] (f1 (gv 1) cR))
 (aJ (a7 3 [] (bC ag))
 (aJ (di (.two 4 5) [1] (bR (gv 1))
 (a7 3 ([] ++ ([] ++ [4])) (f2 (gv 3) (bh 2 [5,4] (.two 0 1) (bR (gv 1)) (dh (f2 (gv 0) (gv 2) (dX false))) (cv (aa (gv 3) (aa (gv 1) ag)))) jb)))
 (a7 1 ([] ++ []) (f1 (f2 (gv 1) (gv 3) jb) cI))))) 1000)
 (cf (f1 (gv 1) ua)))))
def gK (cM:List D->FR)(aG aZ:List D->Int->FB):SF:=(aJ (a7 2 ([] ++ ([1] ++ [])) (f2 (cst (.int 1)) (lq 0 aG (aa (gv 1) ag)) cH))
 (aJ (a7 3 ([] ++ []) (lq 0 aZ (aa (f1 (gv 2) eN) ag)))
 (aJ (a7 4 (([] ++ ([] ++ ([] ++ ([] ++ [])))) ++ ([] ++ [])) (f2 (bC (aa (cst (.int 2)) (aa (cst (.int 3)) (aa (cst (.int 4)) (aa (cst (.int 7)) ag))))) (lq 0 aG (aa (cst (.int 4)) ag)) bV))
 (aJ (j6 5 [] (bC ag))
 (aJ (di (.nm 6) [] (kC (gv 2))
 (di (.nm 7) (([] ++ []) ++ []) (sg (f2 (gv 6) (cst (.int 1)) cH) (gv 2))
 (lx (([4] ++ []) ++ []) (dh (f2 (lq 0 aG (aa (gv 4) ag)) (cst (.int 0)) (dX false)))
 (l0 5 (([] ++ []) ++ (([] ++ []) ++ [])) (cv (aa (f2 (gv 3) (gv 6) bV) (aa (f2 (gv 3) (gv 7) bV) ag))))
 nt)))
 (cf (cv (aa (gv 2) (aa (az cM (aa (gv 5) ag)) ag)))))))))
def vQ:D->Bool
 | .int _=>true
 |_=>false
def kx:List D->FR
 | [d]=>if b9 d=true then .bad else .ok (.bool (vQ d)) false
 |_=>.bad
def nu {d:D}(h:b9 d=false):kx [d]=.ok (.bool (vQ d)) false:=NL (by rw[h];exact NY)
def yV (ds:List D)(h:kx ds≠.bad):bA 1 1 qd ds=kx ds:=by
 unfold kx at h
 split at h
 ·rename_i d
  cases q:b9 d with
  |true=>rw[q] at h;exact absurd rfl h
  |false=>
   rw[nu q]
   have e1:jd "int" d=some (.bool (CO d "int")):=by unfold jd;rw[q];rfl
   have e2:jd "bool" d=some (.bool (CO d "bool")):=by unfold jd;rw[q];rfl
   show fin (cf (iz (f1 (gv 0) (jd "int")) (f1 (f1 (gv 0) (jd "bool")) Ar)) [.fz d] 0)=_
   unfold cf iz f1 gv
   simp only[tQ,xC,xi,List.getElem?_cons_zero,ym,uk,lI,e1,e2]
   cases d <;> rfl
 ·exact absurd rfl h
def dr (d:D)(n:Int):Bool:=match d with
 | .int i=>decide (0<=i/\i < n)
 |_=>false
def dv:List D->FR
 | [d,.int n]=>if b9 d=true then .bad else .ok (.bool (dr d n)) false
 |_=>.bad
def uc {d:D}{n:Int}(h:b9 d=false):dv [d,.int n]=.ok (.bool (dr d n)) false:=NL (by rw[h];exact NY)
def wR {i lo n:Int}{vs:List Nv}{β:Int}{fa fb fc:VF D}{g':D->D->Option D}{q:Bool}(ha:fa vs β=.ok (.int lo) β)(hb:fb vs β=.ok (.int i) β)(hc:fc vs β=.ok (.int n) β)(hq:g' (.int i) (.int n)=some (.bool q)):jZ fa fb fc BP g' vs β=.ok (.bool (decide (lo<=i) && q)) β:=by
 unfold jZ
 rw[ha];dsimp only[R.bnd];rw[hb];dsimp only[R.bnd]
 show (match (some (PyData.bool (decide (lo<=i))):Option D) with
  |some (.bool true)=>_
  |some (.bool false)=>_
  |_=>_)=_
 by_cases h:lo<=i
 ·rw[NK h]
  dsimp only
  rw[hc]
  dsimp only[R.bnd]
  rw[hq];rfl
 ·rw[NR h];rfl
def Fi (ds:List D)(h:dv ds≠.bad):bA 2 2 (pI kx) ds=dv ds:=by
 unfold dv at h
 split at h
 ·rename_i d n
  cases q:b9 d with
  |true=>rw[q] at h;exact absurd rfl h
  |false=>
   rw[uc q]
   show fin (cf (iz (az kx (aa (gv 0) ag)) (jZ (cst (.int 0)) (gv 0) (gv 1) BP xc)) [.fz d,.fz (.int n)] 0)=_
   unfold cf iz az
   simp only[tQ,xC,xi,cU,yX,Hb,List.getElem?_cons_zero,ym,uk,lI,nu q]
   cases d with
   |int i=>
    show fin (toS (jZ (cst (.int 0)) (gv 0) (gv 1) BP xc [.da (.int i),.da (.int n)] 0) _)=_
    rw[wR (lo:=0) (i:=i) (n:=n) rfl rfl rfl rfl]
    show FR.ok (.bool (decide (0<=i) && decide (i < n))) false=.ok (.bool (decide (0<=i/\i < n))) false
    rw[Bool.decide_and]
   |_=>rfl
 ·exact absurd rfl h
def Hk (d:D):Bool:=match d with
 | .int i=>decide (1<=i/\i<=8)
 |_=>false
def lA:List D->FR
 | [d]=>if b9 d=true then .bad else .ok (.bool (Hk d)) false
 |_=>.bad
def Dg {d:D}(h:b9 d=false):lA [d]=.ok (.bool (Hk d)) false:=NL (by rw[h];exact NY)
def Hz (ds:List D)(h:lA ds≠.bad):bA 1 1 (sX kx) ds=lA ds:=by
 unfold lA at h
 split at h
 ·rename_i d
  cases q:b9 d with
  |true=>rw[q] at h;exact absurd rfl h
  |false=>
   rw[Dg q]
   show fin (cf (iz (az kx (aa (gv 0) ag)) (jZ (cst (.int 1)) (gv 0) (cst (.int 8)) BP BP)) [.fz d] 0)=_
   unfold cf iz az
   simp only[tQ,xC,xi,cU,yX,Hb,List.getElem?_cons_zero,ym,uk,lI,nu q]
   cases d with
   |int i=>
    show fin (toS (jZ (cst (.int 1)) (gv 0) (cst (.int 8)) BP BP [.da (.int i)] 0) _)=_
    rw[wR (lo:=1) (i:=i) (n:=8) rfl rfl rfl rfl]
    show FR.ok (.bool (decide (1<=i) && decide (i<=8))) false=.ok (.bool (decide (1<=i/\i<=8))) false
    rw[Bool.decide_and]
   |_=>rfl
 ·exact absurd rfl h
def pairF:List D->FR
 | [d,.int n]=>(match qK d with
  |some p=>.ok (.bool (decide ((0<=p.1/\p.1 < n)/\(0<=p.2/\p.2 < n)))) false
  |none=>.bad)
 |_=>.bad
def DW (p:Pr)(n:Int):pairF [aY p,.int n]=.ok (.bool (decide ((0<=p.1/\p.1 < n)/\(0<=p.2/\p.2 < n)))) false:=rfl
def I0 (ds:List D)(h:pairF ds≠.bad):bA 2 2 (sH dv) ds=pairF ds:=by
 unfold pairF at h
 split at h
 ·rename_i d n
  cases q:qK d with
  |none=>rw[q] at h;exact absurd rfl h
  |some p=>
   obtain rfl:=vm q
   rw[DW]
   obtain⟨a,b⟩:=p
   show fin (toS (iz (az dv (aa (f2 (gv 0) (cst (.int 0)) bV) (aa (gv 1) ag))) (az dv (aa (f2 (gv 0) (cst (.int 1)) bV) (aa (gv 1) ag))) [.da (.tuple [.int a,.int b]),.da (.int n)] 0) λd β'=>.rt d false β')=_
   have e1:az dv (aa (f2 (gv 0) (cst (.int 0)) bV) (aa (gv 1) ag)) [.da (.tuple [.int a,.int b]),.da (.int n)] 0=.ok (.bool (decide (0<=a/\a < n))) 0:=rfl
   have e2:az dv (aa (f2 (gv 0) (cst (.int 1)) bV) (aa (gv 1) ag)) [.da (.tuple [.int a,.int b]),.da (.int n)] 0=.ok (.bool (decide (0<=b/\b < n))) 0:=rfl
   unfold iz
   rw[e1]
   dsimp only[R.bnd]
   by_cases c:0<=a/\a < n
   ·rw[NK c,e2]
    show FR.ok (.bool (decide (0<=b/\b < n))) false=.ok (.bool (decide ((0<=a/\a < n)/\(0<=b/\b < n)))) false
    simp[c]
   ·rw[NR c]
    show FR.ok (.bool false) false=.ok (.bool (decide ((0<=a/\a < n)/\(0<=b/\b < n)))) false
    simp[c]
 ·exact absurd rfl h
def aA (n:Nat)(l:List Pr):D:=.tuple [.int n,.tuple (l.map aY)]
open Classical in
noncomputable def rX (f:Nat->List Pr->FR):D->FR:=λd=>if h:∃nl:Nat×List Pr,d=aA nl.1 nl.2/\OM.Ord nl.1 nl.2 then f (Classical.choose h).1 (Classical.choose h).2 else .bad
def EG {p q:Pr}(h:aY p=aY q):p=q:=by
 obtain⟨a,b⟩:=p
 obtain⟨c,d⟩:=q
 unfold aY at h
 simp at h
 rw[h.1,h.2]
theorem oE:∀{l m:List Pr},l.map aY=m.map aY->l=m
 | [],[],_=>rfl
 | [],_ :: _,h=>by cases h
 |_ :: _,[],h=>by cases h
 |p :: l,q :: m,h=>by
  simp only[Oq,List.cons.injEq] at h
  rw[EG h.1,oE h.2]
def CN {n m:Nat}{l k:List Pr}(h:aA n l=aA m k):n=m/\l=k:=by
 unfold aA at h
 simp only[PyData.tuple.injEq,List.cons.injEq,int.injEq,and_true] at h
 exact⟨by omega,oE h.2⟩
def w9 {f:Nat->List Pr->FR}{n:Nat}{l:List Pr}(O:OM.Ord n l):rX f (aA n l)=f n l:=by
 unfold rX
 have h:∃nl:Nat×List Pr,aA n l=aA nl.1 nl.2/\OM.Ord nl.1 nl.2:=⟨(n,l),rfl,O⟩
 rw[dif_pos h]
 obtain⟨e,_⟩:=Classical.choose_spec h
 obtain⟨e1,e2⟩:=CN e
 rw[<-e1,<-e2]
def vG {f:Nat->List Pr->FR}{d:D}(h:rX f d≠.bad):∃n l,d=aA n l/\OM.Ord n l:=by
 unfold rX at h
 by_cases q:∃nl:Nat×List Pr,d=aA nl.1 nl.2/\OM.Ord nl.1 nl.2
 ·obtain⟨nl,e,O⟩:=q;exact⟨nl.1,nl.2,e,O⟩
 ·rw[dif_neg q] at h;exact absurd rfl h
noncomputable def cV:List D->FR
 | [.int n,d]=>(match j9 d with
  |some ds=>(match gx ds with
   |some ps=>(open Classical in if 1<=n/\n<=8/\OM.Wn n.toNat ps then .ok (.tuple ((OM.cu n.toNat (OM.Tr (OM.Mem ps))).map aY)) false else .bad)
   |none=>.bad)
  |none=>.bad)
 |_=>.bad
def DV {n:Nat}{ps:List Pr}(h1:1<=n)(h8:n<=8)(w:OM.Wn n ps):cV [.int n,.tuple (ps.map aY)]=.ok (.tuple ((OM.cu n (OM.Tr (OM.Mem ps))).map aY)) false:=by
 unfold cV
 simp only[j9,iu]
 rw[NG ⟨by omega,by omega,by rw[Oa];exact w⟩,Oa]
def j5:List D->FR
 | [.tuple ds]=>(match gx ds with
  |some ps=>if ps.length<=1000 then .ok (.bool (ps.any λp=>decide (p.1=p.2))) false else .bad
  |none=>.bad)
 |_=>.bad
theorem i7 {α:Type}(f:α->Bool):∀l:List α,kq (l.map λx=>PyData.bool (f x))=some (l.map f)
 | []=>rfl
 |x :: l=>by
  show (kq (l.map λx=>PyData.bool (f x))).map (f x :: ·)=_
  rw[i7 f l];rfl
def IB (ds:List D)(h:j5 ds≠.bad):bA 1 1 pQ ds=j5 ds:=by
 unfold j5 at h
 split at h
 ·rename_i ds
  cases q:gx ds with
  |none=>rw[q] at h;exact absurd rfl h
  |some ps=>
   rw[q] at h
   dsimp only at h
   by_cases hz:ps.length<=1000
   case neg=>rw[NL hz] at h;exact absurd rfl h
   obtain rfl:=kO q
   have e:j5 [.tuple (ps.map aY)]=.ok (.bool (ps.any λp=>decide (p.1=p.2))) false:=by
    unfold j5;simp only[iu];rw[NG hz]
   rw[e]
   have ec:bh 2 [] (.two 0 1) (bR (gv 0)) oH (f2 (gv 0) (gv 1) (dX false)) [.da (.tuple (ps.map aY))] 0=.ok (.list (ps.map λp=>PyData.bool (decide (p.1=p.2)))) 0:=by
    exact hZ (l:=ps) (e:=aY) (λp=>PyData.bool (decide (p.1=p.2))) rfl hz λp hp=>⟨_,rfl,rfl⟩
   show fin (toS ((bh 2 [] (.two 0 1) (bR (gv 0)) oH (f2 (gv 0) (gv 1) (dX false)) [.da (.tuple (ps.map aY))] 0).bnd λx β1=>R.of (dH (λbs=>bs.any id) x) β1) λd β'=>.rt d false β')=_
   rw[ec]
   simp only[lI,dH]
   rw[i7]
   simp[fin,List.any_map]
 ·exact absurd rfl h
theorem zE:∀l:List Pr,PyData.canLayAll0 (l.map aY)=true
 | []=>rfl
 |p :: l=>by
  show ((aY p).canLay0 && PyData.canLayAll0 (l.map aY))=true
  rw[zE l];rfl
theorem y0:∀l:List Pr,PyData.depthAll (l.map aY)<=1
 | []=>by show (0:Nat)<=1;omega
 |p :: l=>by
  show max (aY p).depth (PyData.depthAll (l.map aY))<=1
  have h1:(aY p).depth=1:=by simp[aY,PyData.depth,PyData.depthAll]
  have h2:=y0 l
  omega
def pL (l:List Pr):SeqAt.shaped (.tuple (l.map aY))=true:=by
 unfold SeqAt.shaped
 have h1:(PyData.tuple (l.map aY)).canLay0=true:=by simp only[PyData.canLay0];exact zE l
 have h2:(PyData.tuple (l.map aY)).depth<=64:=by simp only[PyData.depth];have:=y0 l;omega
 rw[h1,NK h2];rfl
def Jm (p q:Pr):PyData.eqv (aY p) (aY q)=decide (p=q):=by
 obtain⟨a,b⟩:=p
 obtain⟨c,d⟩:=q
 simp only[aY,PyData.eqv,PyData.eqvAll,Bool.and_true]
 rw[Ox]
 simp
theorem zj:∀l m:List Pr,PyData.eqvAll (l.map aY) (m.map aY)=decide (l=m)
 | [],[]=>rfl
 | [],_ :: _=>rfl
 |_ :: _,[]=>rfl
 |p :: l,q :: m=>by
  show (PyData.eqv (aY p) (aY q) && PyData.eqvAll (l.map aY) (m.map aY))=_
  rw[Jm,zj l m,Ox]
  simp
def pd {n:Nat}{l:List Pr}(O:OM.Ord n l):l.length < 64:=by
 have h8:=O.hi
 have e:=O.closed
 by_cases h:l.length < 64
 ·exact h
 ·exfalso
  have h1:l.length<=n * n:=by rw[<-e];exact OM.C5 _ _
  have h2:n * n<=64:=O5 h8 h8
  have hn:n=8:=by
   by_cases h7:n<=7
   ·have:n * n<=7 * 7:=O5 h7 h7
    omega
   ·omega
  have hlen:l.length=n * n:=by subst hn;omega
  have hg:l=OM.gG n:=by
   refine OM.sub_eq O.ris (OM.vD n) (λx hx=>OM.gc.mpr (O.wn x hx)) ?_
   rw[hlen];unfold OM.gG;simp
  have:((0:Int),(0:Int))∈l:=by rw[hg];exact OM.gc.mpr ⟨⟨by omega,by omega⟩,by omega,by omega⟩
  exact O.irr 0 this
def Dx {n:Nat}(h1:1<=n)(h8:n<=8):lA [.int n]=.ok (.bool true) false:=by
 rw[Dg rfl]
 show FR.ok (.bool (decide (1<=(n:Int)/\(n:Int)<=8))) false=_
 rw[NK (by omega)]
def CB (neg:Bool)(l m:List Pr):dX neg (.tuple (l.map aY)) (.tuple (m.map aY))=some (.bool (if neg then !decide (l=m) else decide (l=m))):=by
 unfold dX
 rw[pL,pL]
 simp only[Bool.and_self,OR,PyData.eqv,zj]
def Fw {n:Nat}{l:List Pr}(O:OM.Ord n l):j5 [.tuple (l.map aY)]=.ok (.bool false) false:=by
 have hl:=pd O
 unfold j5
 simp only[iu]
 rw[NG (by omega)]
 have:(l.any λp=>decide (p.1=p.2))=false:=by
  rw[List.any_eq_false]
  intro p hp
  simp only[N4]
  intro e
  obtain⟨a,b⟩:=p
  simp only at e
  subst e
  exact O.irr a hp
 rw[this]
def A1 {n:Nat}{l:List Pr}(O:OM.Ord n l):bA 3 1 (hW lA pairF cV j5) [aA n l]=.ok (.bool true) false:=by
 have hl:=pd O
 show fin (hW lA pairF cV j5 [.fz (aA n l),.no,.no] 0)=_
 unfold hW
 rw[ao (env':=[.fz (aA n l),.no,.no]) (β':=0) (by rfl)]
 rw[ao (env':=[.fz (aA n l),.fz (.int n),.no]) (β':=0) (by rfl)]
 rw[ao (env':=[.fz (aA n l),.fz (.int n),.fz (.tuple (l.map aY))]) (β':=0) (by rfl)]
 have e4:az lA (aa (gv 1) ag) [.da (aA n l),.da (.int n),.da (.tuple (l.map aY))] 0=.ok (.bool true) 0:=aE rfl (Dx O.lo O.hi)
 rw[ao (env':=[.fz (aA n l),.fz (.int n),.fz (.tuple (l.map aY))]) (β':=0) ?h4]
 case h4=>
  refine fY ?_
  show oS (uX (oQ (az lA (aa (gv 1) ag)))) _ [.da (aA n l),.da (.int n),.da (.tuple (l.map aY))] 0=_
  rw[tK,uj,td,e4]
  rfl
 have e5:bh 1 [1] (.nm 0) (bR (gv 2)) oH (az pairF (aa (gv 0) (aa (gv 1) ag))) [.da (aA n l),.da (.int n),.da (.tuple (l.map aY))] 0=.ok (.list (l.map λ_=>PyData.bool true)) 0:=by
  refine hZ (l:=l) (e:=aY) (λ_=>PyData.bool true) rfl (by omega) λp hp=>⟨_,rfl,?_⟩
  refine aE (b:=false) (ds:=[aY p,.int n]) rfl ?_
  rw[DW,NK (by have:=O.wn p hp;exact this)]
 rw[ao (env':=[.fz (aA n l),.fz (.int n),.fz (.tuple (l.map aY))]) (β':=0) ?h5]
 case h5=>
  refine fY ?_
  show uX (oQ (f1 (bh 1 [1] (.nm 0) (bR (gv 2)) oH (az pairF (aa (gv 0) (aa (gv 1) ag)))) (dH λbs=>bs.all id))) [.da (aA n l),.da (.int n),.da (.tuple (l.map aY))] 0=_
  rw[uj,td,dg (d:=.bool true) e5 (by simp only[dH];rw[i7];simp)]
  rfl
 have e6:az cV (aa (gv 1) (aa (gv 2) ag)) [.da (aA n l),.da (.int n),.da (.tuple (l.map aY))] 0=.ok (.tuple (l.map aY)) 0:=aE rfl (by rw[DV O.lo O.hi O.wn,O.closed])
 have e7:az j5 (aa (gv 2) ag) [.da (aA n l),.da (.int n),.da (.tuple (l.map aY))] 0=.ok (.bool false) 0:=aE rfl (Fw O)
 show fin (toS (iz (f2 (gv 2) (az cV (aa (gv 1) (aa (gv 2) ag))) (dX false)) (f1 (az j5 (aa (gv 2) ag)) Ar) [.da (aA n l),.da (.int n),.da (.tuple (l.map aY))] 0) _)=_
 unfold iz
 rw[aH (d:=.bool true) (x:=.tuple (l.map aY)) rfl e6 (by rw[CB];simp)]
 dsimp only[R.bnd]
 rw[dg (d:=.bool true) e7 rfl]
 rfl
noncomputable def eV:List D->FR
 | [d]=>rX (λ_ _=>.ok (.bool true) false) d
 |_=>.bad
def sC {n:Nat}{l:List Pr}(O:OM.Ord n l):eV [aA n l]=.ok (.bool true) false:=by simp only[eV];exact w9 O
def yE (ds:List D)(h:eV ds≠.bad):bA 3 1 (hW lA pairF cV j5) ds=eV ds:=by
 unfold eV at h
 split at h
 ·obtain⟨n,l,rfl,O⟩:=vG h
  rw[A1 O,sC O]
 ·exact absurd rfl h
noncomputable def jr:List D->FR
 | [d]=>rX (λ_ _=>.ok .none false) d
 |_=>.bad
def nR {n:Nat}{l:List Pr}(O:OM.Ord n l):jr [aA n l]=.ok .none false:=by simp only[jr];exact w9 O
def Gy (ds:List D)(h:jr ds≠.bad):bA 1 1 (gO eV) ds=jr ds:=by
 unfold jr at h
 split at h
 ·obtain⟨n,l,rfl,O⟩:=vG h
  rw[nR O]
  have e:az eV (aa (gv 0) ag) [.da (aA n l)] 0=.ok (.bool true) 0:=aE (ds:=[aA n l]) rfl (sC O)
  show fin (gO eV [.fz (aA n l)] 0)=_
  unfold gO
  rw[fY (β':=0)]
  ·rfl
  ·show uX (oQ (az eV (aa (gv 0) ag))) [.da (aA n l)] 0=_
   rw[uj,td,e];rfl
 ·exact absurd rfl h
abbrev cg (ns:List Int):D:=.dict [(.none,.list (ns.map int))]
def pP (h: -(2 ^ 64) < i/\i < 2 ^ 64):gq (.int i) (.int j)=some (.int (i * j)):=NG (by dsimp only;rw[NK h.1,NK h.2];rfl)
def Ia (h: -(2 ^ 64) < j/\j < 2 ^ 64):gq (.int i) (.int j)=some (.int (i * j)):=NG (by dsimp only;rw[NK h.1,NK h.2,Bool.and_self,Bool.or_true])
def pK (h:0 < j):mC (.int i) (.int j)=some (.int (i % j)):=NG (NK h)
def Dd (h:0 < j)(h2:j < 1073741824):B4 (.int i) (.int j)=some (.int (i / j)):=NG (by dsimp only;rw[NK h,NK h2];rfl)
theorem cW {α β:Type}(f:α->β)(l:List α)(i:Int):i4 (l.map f) i=(i4 l i).map f:=by
 unfold i4
 rw[NM]
 cases uW l.length i with
 |none=>rfl
 |some j=>simp
def jE {α:Type}{l:List α}{k:Nat}(h:k < l.length):i4 l (k:Int)=some l[k]:=jT (NC h)
def Jz (h:fa vs β=.ok (.int i) β1)(h':fb vs β1=.ok (.int j) β2):dh (f2 fa fb xc) vs β=.ok (decide (i < j)) β2:=dq _ _ _ _ (aH h h' rfl)
def iG (h:fa vs β=.ok (.int i) β1)(h':fb vs β1=.ok (.int j) β2):dh (f2 fa fb (dX neg)) vs β=.ok (if neg then !decide (i=j) else decide (i=j)) β2:=by
 refine dq _ _ _ _ (aH h h' ?_)
 cases neg <;> rfl
def Jj (ns:List Int)(k:Nat):∃z,bA 2 2 fX [cg ns,.int k]=.ok (.int z) false:=by
 show ∃z,fin (fX [.fz (cg ns),.fz (.int k)] 0)=.ok (.int z) false
 unfold fX
 have e:dh (f2 (gv 1) (f1 (gv 0) cR) xc) [.da (cg ns),.da (.int k)] 0=.ok (decide ((k:Int) < (ns.map int).length)) 0:=Jz rfl rfl
 by_cases h:k < ns.length
 ·refine⟨ns[k],?_⟩
  rw[NK (by simp;exact h)] at e
  rw[fO (d:=.int ns[k]) (b:=false) (β':=0)]
  ·rfl
  ·rw[gC e]
   show toS (f2 (gv 0) (gv 1) bV [.da (cg ns),.da (.int k)] 0) _=_
   rw[aH (x:=cg ns) (y:=.int k) (d:=.int ns[k]) (β1:=0) (β2:=0) rfl rfl]
   ·rfl
   ·show i4 (ns.map int) (k:Int)=_
    rw[cW,jE h];rfl
 ·refine⟨0,?_⟩
  rw[NR (by simp;omega)] at e
  rw[ao (env':=[.fz (cg ns),.fz (.int k)]) (β':=0)]
  ·rfl
  ·rw[fY e];rfl
noncomputable def zQ:List D->FR:=bA 2 2 fX
noncomputable def BS:List D->FR:=bA 4 2 jL
abbrev yG:List Int:=[48271,69621,16807,39373,30269,40014,40692,50021,61687,71993,83869,95561,30307]
def KZ (c k:Int):∃z,BS [.int c,.int k]=.ok (.int z) false:=by
 show ∃z,fin (jL [.fz (.int c),.fz (.int k),.no,.no] 0)=.ok (.int z) false
 unfold jL
 rw[ao (env':=[.fz (.int c),.fz (.int k),.fz (.list (yG.map int)),.no]) (β':=0) (by rfl)]
 obtain⟨j,hj⟩:∃j:Nat,k % 13=j:=⟨(k % 13).toNat,by omega⟩
 have hj13:j < yG.length:=by show j < 13;omega
 have e1:f2 (f2 (f2 (f2 (f2 (gv 0) (cst (.int 2147483647)) mC) (cst (.int 12345)) cH) (f2 (gv 2) (f2 (gv 1) (cst (.int 13)) mC) bV) gq) (f2 (cst (.int 977)) (gv 1) gq) cH) (f2 (cst (.int 7919)) (f2 (gv 1) (cst (.int 13)) B4) gq) cH [.da (.int c),.da (.int k),.da (.list (yG.map int)),.no] 0
   =.ok (.int ((c % 2147483647 + 12345) * yG[j] + 977 * k + 7919 * (k / 13))) 0:=by
  refine aH (aH (aH (aH (aH (x:=.int c) (y:=.int 2147483647) rfl rfl (pK (by omega))) rfl rfl) (aH (x:=.list (yG.map int)) rfl (aH (x:=.int k) (y:=.int 13) rfl rfl (pK (by omega))) (d:=.int yG[j]) ?_) (pP ⟨by omega,by omega⟩)) (aH (x:=.int 977) (y:=.int k) rfl rfl (pP ⟨by omega,by omega⟩)) rfl) (aH (x:=.int 7919) rfl (aH (x:=.int k) (y:=.int 13) rfl rfl (Dd (by omega) (by omega))) (pP ⟨by omega,by omega⟩)) rfl
  show i4 (yG.map int) (k % 13)=_
  rw[hj,cW,jE hj13];rfl
 generalize ((c % 2147483647 + 12345) * yG[j] + 977 * k + 7919 * (k / 13))=st at e1
 rw[ao (env':=[.fz (.int c),.fz (.int k),.fz (.list (yG.map int)),.fz (.int st)]) (β':=0) ?h]
 case h=>
  show toS (f2 _ _ cH [.da (.int c),.da (.int k),.da (.list (yG.map int)),.no] 0) _=_
  rw[e1];rfl
 have e2:f2 (gv 3) (cst (.int 1000000007)) mC [.da (.int c),.da (.int k),.da (.list (yG.map int)),.da (.int st)] 0=.ok (.int (st % 1000000007)) 0:=aH rfl rfl (pK (by omega))
 rw[ao (env':=[.fz (.int c),.fz (.int k),.fz (.list (yG.map int)),.fz (.int (st % 1000000007))]) (β':=0) ?h2]
 case h2=>
  show toS (f2 (gv 3) (cst (.int 1000000007)) mC [.da (.int c),.da (.int k),.da (.list (yG.map int)),.da (.int st)] 0) _=_
  rw[e2];rfl
 have hb: -(2 ^ 64) < st % 1000000007/\st % 1000000007 < 2 ^ 64:=⟨by omega,by omega⟩
 generalize st % 1000000007=u at hb
 have e3:f2 (f2 (f2 (f2 (gv 3) (gv 3) gq) (f2 (cst (.int 48271)) (gv 1) gq) cH) (cst (.int 1000000007)) mC) (cst (.int 7)) B4 [.da (.int c),.da (.int k),.da (.list (yG.map int)),.da (.int u)] 0=.ok (.int ((u * u + 48271 * k) % 1000000007 / 7)) 0:=
  aH (aH (aH (aH (x:=.int u) (y:=.int u) rfl rfl (pP hb)) (aH (x:=.int 48271) (y:=.int k) rfl rfl (pP ⟨by omega,by omega⟩)) rfl) rfl (pK (by omega))) rfl (Dd (by omega) (by omega))
 refine⟨(u * u + 48271 * k) % 1000000007 / 7,?_⟩
 show fin (toS (f2 _ (cst (.int 7)) B4 [.da (.int c),.da (.int k),.da (.list (yG.map int)),.da (.int u)] 0) _)=_
 rw[e3];rfl
noncomputable def Jg:List D->FR:=bA 5 2 (jx zQ BS)
def K6 (ns:List Int)(k:Nat):∃z,Jg [cg ns,.int k]=.ok (.list [.int z]) true:=by
 obtain⟨c,hc⟩:=Jj ns k
 show ∃z,fin (jx zQ BS [.fz (cg ns),.fz (.int k),.no,.no,.no] 0)=.ok (.list [.int z]) true
 unfold jx
 have e0:az zQ (aa (gv 0) (aa (gv 1) ag)) [.da (cg ns),.da (.int k),.no,.no,.no] 0=.ok (.int c) 0:=aE rfl hc
 rw[ao (env':=[.fz (cg ns),.fz (.int k),.fz (.int c),.no,.no]) (β':=0) ?h]
 case h=>
  show toS (az zQ _ [.da (cg ns),.da (.int k),.no,.no,.no] 0) _=_
  rw[e0];rfl
 have e1:dh (f2 (f2 (gv 2) (cst (.int 2)) mC) (cst (.int 0)) (dX false)) [.da (cg ns),.da (.int k),.da (.int c),.no,.no] 0=.ok (decide (c % 2=0)) 0:=iG (neg:=false) (aH rfl rfl (pK (by omega))) rfl
 by_cases h:c % 2=0
 ·rw[NK h] at e1
  refine⟨(if c < 0 then -c else c) / 2,?_⟩
  rw[fO (d:=.list [.int ((if c < 0 then -c else c) / 2)]) (b:=true) (β':=0)]
  ·rfl
  ·rw[gC e1]
   show toS (bC (aa (f2 (f1 (gv 2) FK) (cst (.int 2)) B4) ag) [.da (cg ns),.da (.int k),.da (.int c),.no,.no] 0) _=_
   rw[eG (ds:=[.int ((if c < 0 then -c else c) / 2)]) (β1:=0)]
   ·rfl
   ·have e2:f2 (f1 (gv 2) FK) (cst (.int 2)) B4 [.da (cg ns),.da (.int k),.da (.int c),.no,.no] 0=.ok (.int ((if c < 0 then -c else c) / 2)) 0:=aH (dg (x:=.int c) rfl rfl) rfl (Dd (by omega) (by omega))
    rw[cU,e2];rfl
   ·simp
 ·rw[NR h] at e1
  rw[ao (env':=[.fz (cg ns),.fz (.int k),.fz (.int c),.no,.no]) (β':=0) (by rw[fY e1];rfl)]
  rw[ao (env':=[.fz (cg ns),.fz (.int k),.fz (.int c),.fz (.int 0),.no]) (β':=0) (by rfl)]
  obtain⟨env',β',el,z,x,rfl,rfl⟩:=cT (t:=.nm 4) (m:=a7 3 (([] ++ []) ++ ([2] ++ ([4] ++ []))) (f2 (f2 (gv 3) (cst (.int 142857143)) gq) (az BS (aa (gv 2) (aa (gv 4) ag))) cH)) (ds:=cQ 0 40) (k:=0)
   (λ_ env β=>∃(z:Int) (x:Sl),env= [.fz (cg ns),.fz (.int k),.fz (.int c),.fz (.int z),x]/\β=0) (env:=[.fz (cg ns),.fz (.int k),.fz (.int c),.fz (.int 0),.no]) (β:=0) ⟨0,.no,rfl,rfl⟩ (by
    rintro i d env β hi ⟨z,x,rfl,rfl⟩
    obtain⟨j,rfl⟩:∃j:Int,d=.int j:=by
     unfold cQ at hi
     rw[NP] at hi
     cases q:(List.range 40)[i]? with
     |none=>rw[q] at hi;cases hi
     |some j=>rw[q] at hi;cases hi;exact⟨_,rfl⟩
    obtain⟨y,hy⟩:=KZ c j
    refine⟨_,rfl,_,_,?_,z * 142857143 + y,.fz (.int j),rfl,rfl⟩
    show toS (f2 (f2 (gv 3) (cst (.int 142857143)) gq) (az BS (aa (gv 2) (aa (gv 4) ag))) cH [.da (cg ns),.da (.int k),.da (.int c),.da (.int z),.da (.int j)] 0) _=_
    rw[aH (d:=.int (z * 142857143 + y)) (aH (x:=.int z) (y:=.int 142857143) (β1:=0) (β2:=0) rfl rfl (Ia ⟨by omega,by omega⟩)) (aE (ds:=[.int c,.int j]) (β1:=0) rfl hy) rfl]
    rfl)
  refine⟨z,?_⟩
  rw[ao (env':=[.fz (cg ns),.fz (.int k),.fz (.int c),.fz (.int z),x]) (β':=0) ?h2]
  case h2=>exact el
  show fin (toS (bC (aa (gv 3) ag) [.da (cg ns),.da (.int k),.da (.int c),.da (.int z),x.val] 0) _)=_
  rw[eG (ds:=[.int z]) (β1:=0) rfl (by simp)]
  rfl
noncomputable def lO:List D->Int->FB:=o5 4 1 (dD cq)
theorem lay_ints:∀ns:List Int,PyData.canLayAll0 (ns.map int)=true
 | []=>rfl
 |n :: ns=>by
  show ((int n).canLay0 && PyData.canLayAll0 (ns.map int))=true
  rw[lay_ints ns];rfl
theorem vh:∀ns:List Int,PyData.depthAll (ns.map int)=0
 | []=>rfl
 |n :: ns=>by
  show max (int n).depth (PyData.depthAll (ns.map int))=0
  rw[vh ns];rfl
def shaped_ints (ns:List Int):SeqAt.shaped (.list (ns.map int))=true:=by
 unfold SeqAt.shaped
 have h1:(PyData.list (ns.map int)).canLay0=true:=by simp only[PyData.canLay0];exact lay_ints ns
 have h2:(PyData.list (ns.map int)).depth<=64:=by simp only[PyData.depth];rw[vh];omega
 rw[h1,NK h2];rfl
theorem wD:∀l m:List Int,PyData.eqvAll (l.map int) (m.map int)=decide (l=m)
 | [],[]=>rfl
 | [],_ :: _=>rfl
 |_ :: _,[]=>rfl
 |p :: l,q :: m=>by
  show ((p == q) && PyData.eqvAll (l.map int) (m.map int))=_
  rw[wD l m,Ox]
  simp
def l4 (neg:Bool)(l m:List Int):dX neg (.list (l.map int)) (.list (m.map int))=some (.bool (if neg then !decide (l=m) else decide (l=m))):=by
 unfold dX
 rw[shaped_ints,shaped_ints]
 simp only[Bool.and_self,OR,PyData.eqv,wD]
theorem hV {α:Type}:∀{l:List α} {k:Nat} {x:α},l[k]? =some x->(x :: l.eraseIdx k).Perm l
 | [],_,_,h=>by simp at h
 |y :: l,0,x,h=>by simp at h;subst h;exact List.Perm.refl _
 |y :: l,k + 1,x,h=>by
  have h:l[k]? =some x:=by simpa using h
  have ih:=hV h
  show (x :: y :: l.eraseIdx k).Perm (y :: l)
  exact (List.Perm.swap y x _).trans (ih.cons y)
theorem rP {α β:Type}(f:α->β):∀(l:List α) (k:Nat),(l.map f).eraseIdx k=(l.eraseIdx k).map f
 | [],_=>rfl
 |_ :: _,0=>rfl
 |x :: l,k + 1=>by simp[rP f l k]
def zK (ns:List Int)(hz:ns.length<=100)(β:Int):∃(ms:List Int) (β':Int),lO [.list (ns.map int)] β=.ok (.list (ms.map int)) true β'/\ms.Perm ns:=by
 show ∃(ms:List Int) (β':Int),AB (dD cq [.bx,.fz (.list (ns.map int)),.no,.no] β)=.ok (.list (ms.map int)) true β'/\ms.Perm ns
 unfold dD
 rw[ao (env':=[.bx,.fz (.list (ns.map int)),.ow (.list (ns.map int)),.no]) (β':=β) (by rfl)]
 have ez:bC ag [Nv.bx,.da (.list (ns.map int)),.da (.list (ns.map int)),.no] β=.ok (.list []) β:=eG rfl (by simp)
 rw[ao (env':=[.bx,.fz (.list (ns.map int)),.ow (.list (ns.map int)),.ow (.list [])]) (β':=β) ?h]
 case h=>
  show toS (bC ag [Nv.bx,.da (.list (ns.map int)),.da (.list (ns.map int)),.no] β) _=_
  rw[ez];rfl
 obtain⟨env',β',ew,ms,rfl,hp⟩:=hJ (L:=[] ++ []) (t:=dh (f2 (gv 2) (bC ag) (dX true))) (m:=jS 3 2 ([] ++ []) (lq 0 cq (aa (f1 (gv 2) cR) ag)))
  (λk env β=>∃ls ms:List Int,env= [.bx,.fz (.list (ns.map int)),.ow (.list (ls.map int)),.ow (.list (ms.map int))]/\(ms ++ ls).Perm ns/\k=ls.length)
  (λenv β=>∃ms:List Int,env= [.bx,.fz (.list (ns.map int)),.ow (.list []),.ow (.list (ms.map int))]/\ms.Perm ns) (n:=1000) (k:=ns.length) (env:=[.bx,.fz (.list (ns.map int)),.ow (.list (ns.map int)),.ow (.list [])]) (β:=β) (by omega) ⟨ns,[],rfl,by simp,rfl⟩ (by
   rintro k env β ⟨ls,ms,rfl,hp,rfl⟩
   have e1:bC ag [Nv.bx,.da (.list (ns.map int)),.da (.list (ls.map int)),.da (.list (ms.map int))] β=.ok (.list (([]:List Int).map int)) β:=eG rfl (by simp)
   have et:dh (f2 (gv 2) (bC ag) (dX true)) [Nv.bx,.da (.list (ns.map int)),.da (.list (ls.map int)),.da (.list (ms.map int))] β=.ok (!decide (ls= [])) β:=
    dq _ _ _ _ (aH (x:=.list (ls.map int)) rfl e1 (by rw[l4];rfl))
   refine⟨_,_,et,?_⟩
   have hlen:=hp.length_eq
   rw[Oe] at hlen
   cases ls with
   |nil=>exact .inl ⟨rfl,ms,rfl,by simpa using hp⟩
   |cons y ys=>
    refine .inr ⟨rfl,?_⟩
    have hm:(0:Int) < ((y :: ys).length:Nat)/\(((y :: ys).length:Nat):Int) < 1073741824:=by
     have:(y :: ys).length<=100:=by omega
     constructor
     ·simp
     ·omega
    obtain⟨j,hj⟩:∃j:Nat,β % (((y :: ys).length:Nat):Int)=j:=⟨(β % (((y :: ys).length:Nat):Int)).toNat,by have:=Int.emod_nonneg β (b:=(((y :: ys).length:Nat):Int)) (by omega);omega⟩
    have hj2:j < (y :: ys).length:=by have:=Int.emod_lt_of_pos β hm.1;omega
    have ef:lq 0 cq (aa (f1 (gv 2) cR) ag) [Nv.bx,.da (.list (ns.map int)),.da (.list ((y :: ys).map int)),.da (.list (ms.map int))] β=.ok (.int (j:Int)) (β / (((y :: ys).length:Nat):Int)):=by
     refine fD (ds:=[.int (((y :: ys).length:Nat):Int)]) (b:=false) (by rfl) ?_ (by rw[tW hm.1 hm.2,hj])
     show R.ok [int ((((y :: ys).map int).length:Nat):Int)] β=_
     rw[NM]
    have hpop:AU ((y :: ys).map int) (.int (j:Int))=some (.int (y :: ys)[j],((y :: ys).eraseIdx j).map int):=by
     unfold AU
     dsimp only
     rw[NG ⟨by omega,by omega⟩]
     have es:seqIndex? (j:Int) ((y :: ys).map int).length=some j:=by
      rw[NM]
      exact PySem.StrLaws.seqIndex_nonneg (by omega) (by omega)
     rw[es]
     dsimp only
     rw[NP,NC hj2,rP];rfl
    refine⟨[.bx,.fz (.list (ns.map int)),.ow (.list (((y :: ys).eraseIdx j).map int)),.ow (.list ((ms ++ [(y :: ys)[j]]).map int))],β / (((y :: ys).length:Nat):Int),((y :: ys).eraseIdx j).length,?_,?_,(y :: ys).eraseIdx j,ms ++ [(y :: ys)[j]],rfl,?_,rfl⟩
    ·show jS 3 2 ([] ++ []) (lq 0 cq (aa (f1 (gv 2) cR) ag)) [.bx,.fz (.list (ns.map int)),.ow (.list ((y :: ys).map int)),.ow (.list (ms.map int))] β=_
     rw[yo (ds:=ms.map int) (es:=(y :: ys).map int) (by rfl) (by rfl) (by decide) ef (by rfl) hpop (by rw[NM];omega),OO]
     rfl
    ·rw[List.length_eraseIdx]
     rw[NG hj2]
     show (y :: ys).length - 1 < (y :: ys).length
     simp
    ·rw[Pp]
     exact (List.Perm.append_left ms (hV (NC hj2))).trans hp)
 refine⟨ms,β',?_,hp⟩
 rw[ao ew]
 rfl
def JZ (h8:n<=8)(w:OM.Wn n l):OM.cu 8 (OM.Mem l)=OM.cu n (OM.Mem l):=by
 refine OM.jz (OM.dC _ _) (OM.dC _ _) λx=>?_
 rw[OM.bq,OM.bq]
 constructor
 ·rintro⟨_,h⟩;exact⟨w x h,h⟩
 ·rintro⟨h1,h⟩;exact⟨⟨⟨h1.1.1,by omega⟩,h1.2.1,by omega⟩,h⟩
def Fj (h1:1<=n)(h8:n<=8)(w:OM.Wn n l)(nd:l.Nodup)(irr:∀a,(a,a)∉l):l.length < 64:=by
 have:=OM.fu (l:=(0,0) :: l) (m:=OM.gG n) (Og.mpr ⟨irr 0,nd⟩) (λx hx=>by
  rcases NI.mp hx with e |e
  ·subst e;exact OM.gc.mpr ⟨⟨by simp,by simp;omega⟩,by simp,by simp;omega⟩
  ·exact OM.gc.mpr (w x e))
 have hg:(OM.gG n).length=n * n:=by unfold OM.gG;simp
 have hn:n * n<=64:=O5 h8 h8
 rw[hg,N0] at this
 omega
def Jn (h8:n<=8)(w:OM.Wn n l):l.all JH=true:=by
 rw[OF]
 intro p hp
 have:=w p hp
 unfold JH
 rw[NK this.1.1,NK (by omega:p.1 < 8),NK this.2.1,NK (by omega:p.2 < 8)];rfl
def ot (h8:n<=8)(w:OM.Wn n l)(hl:(OM.cu n (OM.Mem l)).length < 64)(hd:j9 d=some (l.map aY)):cI d=some (.list ((OM.cu n (OM.Mem l)).map aY)):=by
 unfold cI
 rw[hd]
 simp only[iu]
 rw[JZ h8 w,NG ⟨Jn h8 w,hl⟩]
def xb (l:List Pr)(p:Pr):List Pr:=(l.filter λq=>decide (q.1=p.2)).map λq=>(p.1,q.2)
def zA (l:List Pr)(p:Pr):(xb l p).length<=l.length:=by unfold xb;rw[NM];exact PK ..
theorem vv (l m:List Pr):(m.flatMap (xb l)).length<=m.length * l.length:=by
 induction m with
 |nil=>simp
 |cons p m ih=>
  rw[List.flatMap_cons,Oe,N0,Nat.succ_mul]
  have:=zA l p
  omega
def mV (h:a.length + b.length<=10000):jb (.list a) (.list b)=some (.list (a ++ b)):=NG (by rw[N8];omega)
noncomputable def js:List D->FR:=bA 6 1 fI
def AK (h1:1<=n)(h8:n<=8)(w:OM.Wn n ps)(irr:∀a,¬OM.Tr (OM.Mem ps) a a):js [.list (ps.map aY)]=.ok (.tuple ((OM.cu n (OM.Tr (OM.Mem ps))).map aY)) false:=by
 have blen:∀{l:List Pr},OM.Hm n ps l->l.length < 64:=λ{l} B=>Fj h1 h8 B.wn (OM.g8 B.ris) λa ha=>irr a (B.sup _ ha)
 show fin (fI [.fz (.list (ps.map aY)),.no,.no,.no,.no,.no] 0)=_
 unfold fI
 have B0:=OM.Bj (ps:=ps) w
 have e0:f1 (gv 0) cI [.da (.list (ps.map aY)),.no,.no,.no,.no,.no] 0=.ok (.list ((OM.cu n (OM.Mem ps)).map aY)) 0:=dg rfl (ot h8 w (blen B0) rfl)
 rw[ao (env':=[.fz (.list (ps.map aY)),.fz (.list ((OM.cu n (OM.Mem ps)).map aY)),.no,.no,.no,.no]) (β':=0) ?h0]
 case h0=>
  show toS (f1 (gv 0) cI [.da (.list (ps.map aY)),.no,.no,.no,.no,.no] 0) _=_
  rw[e0];rfl
 rw[ao (env':=[.fz (.list (ps.map aY)),.fz (.list ((OM.cu n (OM.Mem ps)).map aY)),.fz (.int (-1)),.no,.no,.no]) (β':=0) (by rfl)]
 obtain⟨env',β',ew,rfl,x,sz,a,b,rfl⟩:=hJ (L:=[] ++ []) (t:=dh (f2 (gv 2) (f1 (gv 1) cR) (dX true)))
  (m:=aJ (a7 2 [] (f1 (gv 1) cR)) (aJ (a7 3 [] (bC ag)) (aJ (di (.two 4 5) [1] (bR (gv 1)) (a7 3 ([] ++ ([] ++ [4])) (f2 (gv 3) (bh 2 [5,4] (.two 0 1) (bR (gv 1)) (dh (f2 (gv 0) (gv 2) (dX false))) (cv (aa (gv 3) (aa (gv 1) ag)))) jb))) (a7 1 ([] ++ []) (f1 (f2 (gv 1) (gv 3) jb) cI)))))
  (λk env β=>β=0/\∃(l:List Pr) (sz:Int) (x a b:Sl),env= [.fz (.list (ps.map aY)),.fz (.list (l.map aY)),.fz (.int sz),x,a,b]/\OM.Hm n ps l/\(sz= -1\/∃lp,OM.Hm n ps lp/\l=OM.kn n lp/\sz=lp.length)/\k=2 * (64 - l.length) + (if sz=l.length then 0 else 1))
  (λenv β=>β=0/\∃(x sz a b:Sl),env= [.fz (.list (ps.map aY)),.fz (.list ((OM.cu n (OM.Tr (OM.Mem ps))).map aY)),sz,x,a,b])
  (n:=1000) (k:=2 * (64 - (OM.cu n (OM.Mem ps)).length) + (if (-1:Int)=(OM.cu n (OM.Mem ps)).length then 0 else 1)) (env:=[.fz (.list (ps.map aY)),.fz (.list ((OM.cu n (OM.Mem ps)).map aY)),.fz (.int (-1)),.no,.no,.no]) (β:=0)
  (by split <;> omega) ⟨rfl,_,_,_,_,_,rfl,B0,.inl rfl,rfl⟩ (by
   rintro k env β ⟨rfl,l,sz,x,a,b,rfl,B,hsz,rfl⟩
   have hl:=blen B
   have et:dh (f2 (gv 2) (f1 (gv 1) cR) (dX true)) [.da (.list (ps.map aY)),.da (.list (l.map aY)),.da (.int sz),x.val,a.val,b.val] 0=.ok (!decide (sz=((l.map aY).length:Nat))) 0:=iG (neg:=true) rfl rfl
   rw[NM] at et
   refine⟨_,_,et,?_⟩
   by_cases c:sz=(l.length:Nat)
   ·refine .inl ⟨by rw[NK c];rfl,rfl,x,.fz (.int sz),a,b,?_⟩
    rcases hsz with h | ⟨lp,Bp,rfl,h⟩
    ·omega
    ·show [Sl.fz (.list (ps.map aY)),.fz (.list ((OM.kn n lp).map aY)),.fz (.int sz),x,a,b]=_
     rw[OM.Cw Bp (by omega)]
   ·refine .inr ⟨by rw[NR c];rfl,?_⟩
    obtain⟨B2,hs⟩:=OM.vY B
    have hl2:=blen B2
    have hge:l.length<=(OM.kn n l).length:=OM.fu (OM.g8 B.ris) hs
    have eturn:∃x' a' b':Sl,aJ (a7 2 [] (f1 (gv 1) cR)) (aJ (a7 3 [] (bC ag)) (aJ (di (.two 4 5) [1] (bR (gv 1)) (a7 3 ([] ++ ([] ++ [4])) (f2 (gv 3) (bh 2 [5,4] (.two 0 1) (bR (gv 1)) (dh (f2 (gv 0) (gv 2) (dX false))) (cv (aa (gv 3) (aa (gv 1) ag)))) jb))) (a7 1 ([] ++ []) (f1 (f2 (gv 1) (gv 3) jb) cI)))) [.fz (.list (ps.map aY)),.fz (.list (l.map aY)),.fz (.int sz),x,a,b] 0
      =.nx [.fz (.list (ps.map aY)),.fz (.list ((OM.kn n l).map aY)),.fz (.int (l.length:Nat)),x',a',b'] 0:=by
     rw[ao (env':=[.fz (.list (ps.map aY)),.fz (.list (l.map aY)),.fz (.int (l.length:Nat)),x,a,b]) (β':=0) ?g1]
     case g1=>
      show SO.nx [.fz (.list (ps.map aY)),.fz (.list (l.map aY)),.fz (.int ((l.map aY).length:Nat)),x,a,b] 0=_
      rw[NM]
     have e3:bC ag [.da (.list (ps.map aY)),.da (.list (l.map aY)),.da (.int (l.length:Nat)),x.val,a.val,b.val] 0=.ok (.list []) 0:=eG rfl (by simp)
     rw[ao (env':=[.fz (.list (ps.map aY)),.fz (.list (l.map aY)),.fz (.int (l.length:Nat)),.fz (.list []),a,b]) (β':=0) ?g2]
     case g2=>
      show toS (bC ag [.da (.list (ps.map aY)),.da (.list (l.map aY)),.da (.int (l.length:Nat)),x.val,a.val,b.val] 0) _=_
      rw[e3];rfl
     obtain⟨env2,β2,ef,rfl,a2,b2,rfl⟩:=cT (t:=.two 4 5) (m:=a7 3 ([] ++ ([] ++ [4])) (f2 (gv 3) (bh 2 [5,4] (.two 0 1) (bR (gv 1)) (dh (f2 (gv 0) (gv 2) (dX false))) (cv (aa (gv 3) (aa (gv 1) ag)))) jb)) (ds:=l.map aY) (k:=0)
      (λi env β=>β=0/\∃a b:Sl,env= [.fz (.list (ps.map aY)),.fz (.list (l.map aY)),.fz (.int (l.length:Nat)),.fz (.list (((l.take i).flatMap (xb l)).map aY)),a,b]) (env:=[.fz (.list (ps.map aY)),.fz (.list (l.map aY)),.fz (.int (l.length:Nat)),.fz (.list []),a,b]) (β:=0) ⟨rfl,a,b,rfl⟩ (by
       rintro i d env β hi ⟨rfl,a,b,rfl⟩
       rw[NP] at hi
       cases q:l[i]? with
       |none=>rw[q] at hi;cases hi
       |some p=>
        rw[q] at hi
        cases hi
        have hil:i < l.length:=(NV.mp q).1
        refine⟨[.fz (.list (ps.map aY)),.fz (.list (l.map aY)),.fz (.int (l.length:Nat)),.fz (.list (((l.take (0 + i)).flatMap (xb l)).map aY)),.fz (.int p.1),.fz (.int p.2)],rfl,[.fz (.list (ps.map aY)),.fz (.list (l.map aY)),.fz (.int (l.length:Nat)),.fz (.list (((l.take (0 + i + 1)).flatMap (xb l)).map aY)),.fz (.int p.1),.fz (.int p.2)],0,?_,rfl,_,_,rfl⟩
        have ec:bh 2 [5,4] (.two 0 1) (bR (gv 1)) (dh (f2 (gv 0) (gv 2) (dX false))) (cv (aa (gv 3) (aa (gv 1) ag))) [.da (.list (ps.map aY)),.da (.list (l.map aY)),.da (.int (l.length:Nat)),.da (.list (((l.take (0 + i)).flatMap (xb l)).map aY)),.da (.int p.1),.da (.int p.2)] 0=.ok (.list ((xb l p).map aY)) 0:=by
         rw[jN (l:=l) (e:=aY) (λq=>decide (q.1=p.2)) (λq=>aY (p.1,q.2)) rfl (by omega) (β1:=0)]
         ·unfold xb;rw[PD];rfl
         ·intro q hq
          refine⟨_,rfl,iG (neg:=false) (i:=q.1) (j:=p.2) rfl rfl,λ_=>?_⟩
          exact kQ (ds:=[.int p.1,.int q.2]) rfl (by simp)
        have hk:(l.take (0 + i)).length<=63:=by rw[OP];omega
        have hfl:=vv l (l.take (0 + i))
        have hfl2:(l.take (0 + i)).length * l.length<=63 * 63:=O5 hk (by omega)
        have hm1:=zA l p
        have e5:f2 (gv 3) (bh 2 [5,4] (.two 0 1) (bR (gv 1)) (dh (f2 (gv 0) (gv 2) (dX false))) (cv (aa (gv 3) (aa (gv 1) ag)))) jb [.da (.list (ps.map aY)),.da (.list (l.map aY)),.da (.int (l.length:Nat)),.da (.list (((l.take (0 + i)).flatMap (xb l)).map aY)),.da (.int p.1),.da (.int p.2)] 0=.ok (.list (((l.take (0 + i + 1)).flatMap (xb l)).map aY)) 0:=by
         refine aH rfl ec ?_
         rw[mV (by rw[NM,NM];omega),<-OO]
         have:l.take (0 + i + 1)=l.take (0 + i) ++ [p]:=by rw[Oz,PM,q];rfl
         rw[this,List.flatMap_append,List.flatMap_cons,List.flatMap_nil,PH]
        show toS (f2 (gv 3) (bh 2 [5,4] (.two 0 1) (bR (gv 1)) (dh (f2 (gv 0) (gv 2) (dX false))) (cv (aa (gv 3) (aa (gv 1) ag)))) jb [.da (.list (ps.map aY)),.da (.list (l.map aY)),.da (.int (l.length:Nat)),.da (.list (((l.take (0 + i)).flatMap (xb l)).map aY)),.da (.int p.1),.da (.int p.2)] 0) _=_
        rw[e5];rfl)
     rw[Oz,NM,Pb (NH _)] at ef
     rw[ao (env':=[.fz (.list (ps.map aY)),.fz (.list (l.map aY)),.fz (.int (l.length:Nat)),.fz (.list ((l.flatMap (xb l)).map aY)),a2,b2]) (β':=0) ?g3]
     case g3=>exact ef
     have hfl:=vv l l
     have hfl2:l.length * l.length<=63 * 63:=O5 (by omega) (by omega)
     have e6:f1 (f2 (gv 1) (gv 3) jb) cI [.da (.list (ps.map aY)),.da (.list (l.map aY)),.da (.int (l.length:Nat)),.da (.list ((l.flatMap (xb l)).map aY)),a2.val,b2.val] 0=.ok (.list ((OM.kn n l).map aY)) 0:=by
      refine dg (x:=.list ((l ++ OM.more l).map aY)) (aH rfl rfl ?_) (ot h8 (OM.Du B) hl2 rfl)
      rw[mV (by rw[NM,NM];omega),<-OO];rfl
     refine⟨.fz (.list ((l.flatMap (xb l)).map aY)),a2,b2,?_⟩
     show toS (f1 (f2 (gv 1) (gv 3) jb) cI [.da (.list (ps.map aY)),.da (.list (l.map aY)),.da (.int (l.length:Nat)),.da (.list ((l.flatMap (xb l)).map aY)),a2.val,b2.val] 0) _=_
     rw[e6];rfl
    obtain⟨x',a',b',et2⟩:=eturn
    refine⟨_,_,_,et2,?_,rfl,_,_,_,_,_,rfl,B2,.inr ⟨l,B,rfl,rfl⟩,rfl⟩
    rw[NL c]
    split <;> omega)
 rw[ao ew]
 rfl
def wj (ms:List Int)(ps:List Pr):Prop:=∀p,p∈ps->∃i j:Nat,i < j/\ms[i]? =some p.1/\ms[j]? =some p.2
theorem qu {α:Type}:∀{l:List α} {i j:Nat} {x:α},l.Nodup->l[i]? =some x->l[j]? =some x->i=j
 | [],_,_,_,_,h,_=>by simp at h
 |y :: l,0,0,_,_,_,_=>rfl
 |y :: l,0,j + 1,x,nd,h1,h2=>by
  simp at h1
  subst h1
  exact absurd (NU (by simpa using h2)) (Og.mp nd).1
 |y :: l,i + 1,0,x,nd,h1,h2=>by
  simp at h2
  subst h2
  exact absurd (NU (by simpa using h1)) (Og.mp nd).1
 |y :: l,i + 1,j + 1,x,nd,h1,h2=>by
  rw[qu (l:=l) (i:=i) (j:=j) (Og.mp nd).2 (by simpa using h1) (by simpa using h2)]
def BQ (nd:ms.Nodup)(h:wj ms ps)(t:OM.Tr (OM.Mem ps) a b):∃i j:Nat,i < j/\ms[i]? =some a/\ms[j]? =some b:=by
 refine t.least (S:=λa b=>∃i j:Nat,i < j/\ms[i]? =some a/\ms[j]? =some b) (λa b r=>h _ r) ?_
 rintro a b c ⟨i,j,hij,h1,h2⟩ ⟨k,l,hkl,h3,h4⟩
 have:=qu nd h2 h3
 exact⟨i,l,by omega,h1,h4⟩
def Au (nd:ms.Nodup)(h:wj ms ps)(a:Int):¬OM.Tr (OM.Mem ps) a a:=λt=>by
 obtain⟨i,j,hij,h1,h2⟩:=BQ nd h t
 have:=qu nd h1 h2
 omega
def eB (n:Nat):List Int:=(List.range n).map λ(k:Nat)=>(k:Int)
def cy (n:Nat):(eB n).length=n:=by unfold eB;simp
def a8 :x∈eB n↔0<=x/\x < n:=by
 unfold eB
 rw[NT]
 constructor
 ·rintro⟨k,hk,rfl⟩
  have:=N6.mp hk
  omega
 ·intro h
  exact⟨x.toNat,N6.mpr (by omega),by omega⟩
def jn (n:Nat):(eB n).Nodup:=by
 unfold eB
 rw[PL,OI]
 exact (PL.mp P0).imp λ{a b} h e=>h (by omega)
def Am (n:Nat):cQ 0 n=(eB n).map int:=by
 unfold cQ eB
 rw[PD]
 refine OG λk _=>?_
 show int (0 + (k:Int))=_
 rw[P5];rfl
theorem km (h:(cQ lo n)[i]? =some d):i < n/\d=.int (lo + i):=by
 unfold cQ at h
 rw[NP] at h
 cases q:(List.range n)[i]? with
 |none=>rw[q] at h;cases h
 |some j=>
  rw[q] at h
  cases h
  obtain⟨hi,ej⟩:=NV.mp q
  rw[Qf] at hi
  rw[Qu] at ej
  subst ej
  exact⟨hi,rfl⟩
def ko {n:Nat}(h:n<=1000):eN (.int n)=some (.list ((eB n).map int)):=by
 unfold eN
 dsimp only
 rw[NG ⟨by omega,by omega⟩,Oa,Am]
def mQ (h:fa vs β=.ok (.int n) β1)(hn:n<=1000):kC fa vs β=.ok (cQ 0 n) β1:=by
 unfold kC
 rw[h]
 simp only[lI]
 rw[NG (la (by omega) (by omega)),Oa]
def Cm (h:fa vs β=.ok (.int i) β1)(h':fb vs β1=.ok (.int j) β2)(hi:0<=i/\i<=1000)(hj:0<=j/\j<=1000):sg fa fb vs β=.ok (cQ i (j - i).toNat) β2:=by
 unfold sg
 rw[h]
 simp only[lI]
 rw[h']
 simp only[lI]
 rw[NG (by rw[la (by omega) (by omega),la (by omega) (by omega)];rfl)]
def dz (h:fi (vl env) β=.ok ds β1):di t L fi m env β=mE t m ds (bt L env) β1:=by unfold di;rw[h];rfl
noncomputable def tq:List D->Int->FB:=o5 8 1 (gK js cq lO)
def AJ (h1:1<=n)(h8:n<=8)(hp:ms.Perm (eB n))(ha:wj ms ps):OM.Wn n ps/\(∀a,¬OM.Tr (OM.Mem ps) a a)/\OM.Ord n (OM.cu n (OM.Tr (OM.Mem ps))):=by
 have nd:ms.Nodup:=hp.nodup_iff.mpr (jn n)
 have w:OM.Wn n ps:=λp hm=>by
  obtain⟨i,j,_,e1,e2⟩:=ha p hm
  have m1:=a8.mp (hp.mem_iff.mp (NU e1))
  have m2:=a8.mp (hp.mem_iff.mp (NU e2))
  exact⟨m1,m2⟩
 have ir:=λa=>Au nd ha a
 exact⟨w,ir,OM.Iu h1 h8 w ir⟩
def iq (h:1<=m)(h2:m<=1000)(β:Int):∃j:Nat,j < m/\cq [.int m] β=.ok (.int (j:Int)) false (β / m):=by
 refine⟨(β % m).toNat,?_,?_⟩
 ·have h0:=Int.emod_nonneg β (b:=(m:Int)) (by omega)
  have h3:=Int.emod_lt_of_pos β (b:=(m:Int)) (by omega)
  omega
 ·rw[tW (by omega) (by omega)]
  have h0:=Int.emod_nonneg β (b:=(m:Int)) (by omega)
  rw[show ((β % m).toNat:Int)=β % m by omega]
def BO {most:Nat}(hm1:1<=most)(hm8:most<=8)(β:Int):∃(n:Nat) (l:List Pr) (β':Int),tq [.int most] β=.ok (aA n l) false β'/\OM.Ord n l/\n<=most:=by
 obtain⟨j,hj,ej⟩:=iq hm1 (by omega) β
 show ∃(n:Nat) (l:List Pr) (β':Int),AB (gK js cq lO [.bx,.fz (.int most),.no,.no,.no,.no,.no,.no] β)=.ok (aA n l) false β'/\OM.Ord n l/\n<=most
 unfold gK
 generalize hβ1:β / (most:Int)=β1 at ej
 have n8:1 + j<=8:=by omega
 have e1:f2 (cst (.int 1)) (lq 0 cq (aa (gv 1) ag)) cH [Nv.bx,.da (.int most),.no,.no,.no,.no,.no,.no] β=.ok (.int ((1 + j:Nat):Int)) β1:=by
  refine aH (x:=.int 1) rfl (fD (by rfl) rfl ej) ?_
  show some (int (1 + (j:Int)))=_
  rw[show ((1 + j:Nat):Int)=1 + (j:Int) by omega]
 rw[ao (env':=[.bx,.fz (.int most),.fz (.int ((1 + j:Nat):Int)),.no,.no,.no,.no,.no]) (β':=β1) ?g1]
 case g1=>
  show toS (f2 (cst (.int 1)) (lq 0 cq (aa (gv 1) ag)) cH [Nv.bx,.da (.int most),.no,.no,.no,.no,.no,.no] β) _=_
  rw[e1];rfl
 generalize hn:1 + j=n at n8
 have n1:1<=n:=by omega
 obtain⟨ms,β2,em,hp⟩:=zK (eB n) (by rw[cy];omega) β1
 have hml:ms.length=n:=by rw[hp.length_eq,cy]
 have e2:lq 0 lO (aa (f1 (gv 2) eN) ag) [Nv.bx,.da (.int most),.da (.int n),.no,.no,.no,.no,.no] β1=.ok (.list (ms.map int)) β2:=by
  refine fD (ds:=[.list ((eB n).map int)]) (b:=true) (β1:=β1) (by rfl) ?_ em
  rw[cU,dg (x:=.int n) (d:=.list ((eB n).map int)) (β1:=β1) rfl (ko (by omega))];rfl
 rw[ao (env':=[.bx,.fz (.int most),.fz (.int n),.fz (.list (ms.map int)),.no,.no,.no,.no]) (β':=β2) ?g2]
 case g2=>
  show toS (lq 0 lO (aa (f1 (gv 2) eN) ag) [Nv.bx,.da (.int most),.da (.int n),.no,.no,.no,.no,.no] β1) _=_
  rw[e2];rfl
 obtain⟨q,hq,eq⟩:=iq (m:=4) (by omega) (by omega) β2
 obtain⟨th,hth,hthv⟩:∃th:Nat,([2,3,4,7]:List Nat)[q]? =some th/\1<=th/\th<=7:=by
  rcases (show q=0\/q=1\/q=2\/q=3 by omega) with rfl |rfl |rfl |rfl
  ·exact⟨2,rfl,by omega,by omega⟩
  ·exact⟨3,rfl,by omega,by omega⟩
  ·exact⟨4,rfl,by omega,by omega⟩
  ·exact⟨7,rfl,by omega,by omega⟩
 generalize hβ3:β2 / ((4:Nat):Int)=β3 at eq
 have e3:f2 (bC (aa (cst (.int 2)) (aa (cst (.int 3)) (aa (cst (.int 4)) (aa (cst (.int 7)) ag))))) (lq 0 cq (aa (cst (.int 4)) ag)) bV [Nv.bx,.da (.int most),.da (.int n),.da (.list (ms.map int)),.no,.no,.no,.no] β2=.ok (.int th) β3:=by
  refine aH (x:=.list (([2,3,4,7]:List Nat).map λ(k:Nat)=>int (k:Int))) (y:=.int q) (eG rfl (by simp)) (fD (ds:=[.int 4]) (by rfl) rfl eq) ?_
  show i4 (([2,3,4,7]:List Nat).map λ(k:Nat)=>int (k:Int)) (q:Int)=_
  rw[cW,jT hth];rfl
 rw[ao (env':=[.bx,.fz (.int most),.fz (.int n),.fz (.list (ms.map int)),.fz (.int th),.no,.no,.no]) (β':=β3) ?g3]
 case g3=>
  show toS (f2 (bC (aa (cst (.int 2)) (aa (cst (.int 3)) (aa (cst (.int 4)) (aa (cst (.int 7)) ag))))) (lq 0 cq (aa (cst (.int 4)) ag)) bV [Nv.bx,.da (.int most),.da (.int n),.da (.list (ms.map int)),.no,.no,.no,.no] β2) _=_
  rw[e3];rfl
 have e4:bC ag [Nv.bx,.da (.int most),.da (.int n),.da (.list (ms.map int)),.da (.int th),.no,.no,.no] β3=.ok (.list []) β3:=eG rfl (by simp)
 rw[ao (env':=[.bx,.fz (.int most),.fz (.int n),.fz (.list (ms.map int)),.fz (.int th),.ow (.list []),.no,.no]) (β':=β3) ?g4]
 case g4=>
  show toS (bC ag [Nv.bx,.da (.int most),.da (.int n),.da (.list (ms.map int)),.da (.int th),.no,.no,.no] β3) _=_
  rw[e4];rfl
 obtain⟨env',β',ef,ps,a,b,rfl,hal,hpl⟩:=cT (t:=.nm 6) (m:=di (.nm 7) (([] ++ []) ++ []) (sg (f2 (gv 6) (cst (.int 1)) cH) (gv 2))
   (lx (([4] ++ []) ++ []) (dh (f2 (lq 0 cq (aa (gv 4) ag)) (cst (.int 0)) (dX false)))
   (l0 5 (([] ++ []) ++ (([] ++ []) ++ [])) (cv (aa (f2 (gv 3) (gv 6) bV) (aa (f2 (gv 3) (gv 7) bV) ag)))) nt)) (ds:=cQ 0 n) (k:=0)
  (λi env β=>∃(ps:List Pr) (a b:Sl),env= [.bx,.fz (.int most),.fz (.int n),.fz (.list (ms.map int)),.fz (.int th),.ow (.list (ps.map aY)),a,b]/\wj ms ps/\ps.length<=8 * i)
  (env:=[.bx,.fz (.int most),.fz (.int n),.fz (.list (ms.map int)),.fz (.int th),.ow (.list []),.no,.no]) (β:=β3) ⟨[],.no,.no,rfl,λp hp=>(by cases hp),by simp⟩ (by
   rintro i d env β hi ⟨ps,a,b,rfl,hal,hpl⟩
   obtain⟨hin,rfl⟩:=km hi
   refine⟨[.bx,.fz (.int most),.fz (.int n),.fz (.list (ms.map int)),.fz (.int th),.ow (.list (ps.map aY)),.fz (.int (0 + (i:Int))),b],rfl,?_⟩
   have er:sg (f2 (gv 6) (cst (.int 1)) cH) (gv 2) [Nv.bx,.da (.int most),.da (.int n),.da (.list (ms.map int)),.da (.int th),.da (.list (ps.map aY)),.da (.int (0 + (i:Int))),b.val] β=.ok (cQ (0 + (i:Int) + 1) ((n:Int) - (0 + (i:Int) + 1)).toNat) β:=Cm rfl rfl ⟨by omega,by omega⟩ ⟨by omega,by omega⟩
   rw[dz (env:=[.bx,.fz (.int most),.fz (.int n),.fz (.list (ms.map int)),.fz (.int th),.ow (.list (ps.map aY)),.fz (.int (0 + (i:Int))),b]) er]
   obtain⟨env',β',ef,qs,b,rfl,hal2,hql⟩:=cT (t:=.nm 7) (m:=lx (([4] ++ []) ++ []) (dh (f2 (lq 0 cq (aa (gv 4) ag)) (cst (.int 0)) (dX false)))
     (l0 5 (([] ++ []) ++ (([] ++ []) ++ [])) (cv (aa (f2 (gv 3) (gv 6) bV) (aa (f2 (gv 3) (gv 7) bV) ag)))) nt) (ds:=cQ (0 + (i:Int) + 1) ((n:Int) - (0 + (i:Int) + 1)).toNat) (k:=0)
    (λk env β=>∃(qs:List Pr) (b:Sl),env= [.bx,.fz (.int most),.fz (.int n),.fz (.list (ms.map int)),.fz (.int th),.ow (.list (qs.map aY)),.fz (.int (0 + (i:Int))),b]/\wj ms qs/\qs.length<=8 * i + k)
    (env:=[.bx,.fz (.int most),.fz (.int n),.fz (.list (ms.map int)),.fz (.int th),.ow (.list (ps.map aY)),.fz (.int (0 + (i:Int))),b]) (β:=β) ⟨ps,b,rfl,hal,by omega⟩ (by
     rintro k d env β hk ⟨qs,b,rfl,hal,hql⟩
     obtain⟨hkn,rfl⟩:=km hk
     have hkn:i + 1 + k < n:=by omega
     refine⟨[.bx,.fz (.int most),.fz (.int n),.fz (.list (ms.map int)),.fz (.int th),.ow (.list (qs.map aY)),.fz (.int (0 + (i:Int))),.fz (.int (0 + (i:Int) + 1 + (k:Int)))],rfl,?_⟩
     obtain⟨z,hz,ez⟩:=iq hthv.1 (by omega) β
     have et:dh (f2 (lq 0 cq (aa (gv 4) ag)) (cst (.int 0)) (dX false)) [Nv.bx,.da (.int most),.da (.int n),.da (.list (ms.map int)),.da (.int th),.da (.list (qs.map aY)),.da (.int (0 + (i:Int))),.da (.int (0 + (i:Int) + 1 + (k:Int)))] β=.ok (decide ((z:Int)=0)) (β / th):=iG (neg:=false) (fD (ds:=[.int th]) (by rfl) rfl ez) rfl
     by_cases c:(z:Int)=0
     ·rw[NK c] at et
      have h1:i < ms.length:=by omega
      have h2:i + 1 + k < ms.length:=by omega
      refine⟨[.bx,.fz (.int most),.fz (.int n),.fz (.list (ms.map int)),.fz (.int th),.ow (.list ((qs ++ [(ms[i],ms[i + 1 + k])]).map aY)),.fz (.int (0 + (i:Int))),.fz (.int (0 + (i:Int) + 1 + (k:Int)))],β / th,?_,qs ++ [(ms[i],ms[i + 1 + k])],_,rfl,?_,?_⟩
      ·rw[gC et]
       have ep:cv (aa (f2 (gv 3) (gv 6) bV) (aa (f2 (gv 3) (gv 7) bV) ag)) [Nv.bx,.da (.int most),.da (.int n),.da (.list (ms.map int)),.da (.int th),.da (.list (qs.map aY)),.da (.int (0 + (i:Int))),.da (.int (0 + (i:Int) + 1 + (k:Int)))] (β / th)=.ok (aY (ms[i],ms[i + 1 + k])) (β / th):=by
        refine kQ (ds:=[.int ms[i],.int ms[i + 1 + k]]) ?_ (by simp)
        have a1:f2 (gv 3) (gv 6) bV [Nv.bx,.da (.int most),.da (.int n),.da (.list (ms.map int)),.da (.int th),.da (.list (qs.map aY)),.da (.int (0 + (i:Int))),.da (.int (0 + (i:Int) + 1 + (k:Int)))] (β / th)=.ok (.int ms[i]) (β / th):=by
         refine aH rfl rfl ?_
         show i4 (ms.map int) (0 + (i:Int))=_
         rw[P5,cW,jE h1];rfl
        have a2:f2 (gv 3) (gv 7) bV [Nv.bx,.da (.int most),.da (.int n),.da (.list (ms.map int)),.da (.int th),.da (.list (qs.map aY)),.da (.int (0 + (i:Int))),.da (.int (0 + (i:Int) + 1 + (k:Int)))] (β / th)=.ok (.int ms[i + 1 + k]) (β / th):=by
         refine aH rfl rfl ?_
         show i4 (ms.map int) (0 + (i:Int) + 1 + (k:Int))=_
         rw[show (0 + (i:Int) + 1 + (k:Int))=((i + 1 + k:Nat):Int) by omega,cW,jE h2];rfl
        rw[cU,a1]
        dsimp only[R.bnd]
        rw[cU,a2];rfl
       have:=pw (i:=5) (L:=([] ++ []) ++ (([] ++ []) ++ [])) (env:=[.bx,.fz (.int most),.fz (.int n),.fz (.list (ms.map int)),.fz (.int th),.ow (.list (qs.map aY)),.fz (.int (0 + (i:Int))),.fz (.int (0 + (i:Int) + 1 + (k:Int)))]) (ds:=qs.map aY) (by rfl) ep (by rfl) (by rw[NM];omega)
       rw[OO]
       exact this
      ·intro p hp
       rcases N7.mp hp with hp |hp
       ·exact hal p hp
       ·have:p=(ms[i],ms[i + 1 + k]):=by simpa using hp
        subst this
        exact⟨i,i + 1 + k,by omega,NC h1,NC h2⟩
      ·rw[Oe];simp;omega
     ·rw[NR c] at et
      refine⟨_,_,by rw[fY et];rfl,qs,_,rfl,hal,by omega⟩)
   have hlen:(cQ (0 + (i:Int) + 1) ((n:Int) - (0 + (i:Int) + 1)).toNat).length<=7:=by rw[kY];omega
   exact⟨_,_,ef,qs,_,b,rfl,hal2,by omega⟩)
 rw[ao (env':=[.bx,.fz (.int most),.fz (.int n),.fz (.list (ms.map int)),.fz (.int th),.ow (.list (ps.map aY)),a,b]) (β':=β') ?g5]
 case g5=>
  rw[dz (env:=[.bx,.fz (.int most),.fz (.int n),.fz (.list (ms.map int)),.fz (.int th),.ow (.list []),.no,.no]) (mQ (n:=n) rfl (by omega))]
  exact ef
 obtain⟨w,ir,O⟩:=AJ n1 n8 hp hal
 refine⟨n,OM.cu n (OM.Tr (OM.Mem ps)),β',?_,O,by omega⟩
 have e9:cv (aa (gv 2) (aa (az js (aa (gv 5) ag)) ag)) [Nv.bx,.da (.int most),.da (.int n),.da (.list (ms.map int)),.da (.int th),.da (.list (ps.map aY)),a.val,b.val] β'=.ok (aA n (OM.cu n (OM.Tr (OM.Mem ps)))) β':=by
  refine kQ (ds:=[.int n,.tuple ((OM.cu n (OM.Tr (OM.Mem ps))).map aY)]) ?_ (by simp)
  have a1:az js (aa (gv 5) ag) [Nv.bx,.da (.int most),.da (.int n),.da (.list (ms.map int)),.da (.int th),.da (.list (ps.map aY)),a.val,b.val] β'=.ok (.tuple ((OM.cu n (OM.Tr (OM.Mem ps))).map aY)) β':=aE rfl (AK n1 n8 w ir)
  rw[cU]
  show (R.ok (int n) β').bnd _=_
  dsimp only[R.bnd]
  rw[cU,a1];rfl
 show AB (toS (cv (aa (gv 2) (aa (az js (aa (gv 5) ag)) ag)) [Nv.bx,.da (.int most),.da (.int n),.da (.list (ms.map int)),.da (.int th),.da (.list (ps.map aY)),a.val,b.val] β') _)=_
 rw[e9];rfl
def uI (neg:Bool)(i j:Int):dX neg (.int i) (.int j)=some (.bool (if neg then !decide (i=j) else decide (i=j))):=rfl
def Np (h:fa vs β=.ok (aA n l) β):f2 fa (cst (.int 1)) bV vs β=.ok (.tuple (l.map aY)) β:=aH h rfl rfl
def Hq {n:Nat}{l:List Pr}{fa:VF D}{vs:List Nv}{β:Int}(h:fa vs β=.ok (aA n l) β):f2 fa (cst (.int 0)) bV vs β=.ok (.int n) β:=aH h rfl rfl
def jf (n:Nat):(OM.gG n).length=n * n:=by unfold OM.gG;simp
def mn (h:fa vs β=.ok (.bool c) β):oQ fa vs β=.ok c β:=by rw[td,h];rfl
theorem Dz :∀(ts:List Str) (k:Nat) (acc:Str),(∀t∈ts,t.length + 2<=c)->(textFrom k acc ts).length<=acc.length + c * ts.length
 | [],k,acc,_=>by show acc.length<=_;omega
 |t :: r,k,acc,h=>by
  have ih:=Dz r (k + 1) (acc ++ (if k > 0 then ", " else "":String) ++ t) λu hu=>h u (NJ _ hu)
  have e:(acc ++ (if k > 0 then ", " else "":String) ++ t).length=acc.length + (if k > 0 then 2 else 0) + t.length:=by
   rw[P9,P9]
   split <;> rfl
  rw[e] at ih
  have ht:=h t (NN ..)
  show (textFrom (k + 1) _ r).length<=_
  have e2:c * (t :: r).length=c * r.length + c:=by rw[N0,Nat.mul_succ]
  rw[e2]
  have:(if k > 0 then 2 else 0:Nat)<=2:=by split <;> omega
  omega
end RM
namespace L2
open PySem PySem.Spec PyProof.Rows
section
variable {X:Cx}{pins:List (Addr×Obj)}{σ:St}{H:Hp}{s:Shared}
def Inv.turnedL {t':Nat}{ch:List Addr}{h':Heap}(I:Inv X pins σ H s)(k:∀b o,b∉ch->s.heap.get? b=some o->h'.get? b=some o)(hf:∀b∈ch,nI X pins H b):Inv X pins σ H {s with heap:=h',toks:=t'}:=by
 have nit:∀b u,H b=some u->b∉ch:=λb u e z=>by rw[(hf b z).1] at e;cases e
 have nL:X.env.locals∉ch:=λz=>(hf _ z).2.1 rfl
 refine I.step (g':=s.gens) (d':=s.drawn) (ch:=ch) (λb hb=>?_) (λb o _ _ hc e _=>k b o hc e) (λb o _ _ hc e _=>⟨o.slots,k b o hc e⟩) (λ_ _ _ _ n=>n)
  (λb o hc e=>⟨o,k b o hc e⟩) (λ_ _ e=>e) (λ_ _ _ e=>e) (λb ps e=>⟨#[],by rw[e];simp⟩) (λm hm=>?_) (λb u e=>?_) I.bare
 ·obtain⟨f0,f1,f2,f3,f4,f5⟩:=hf b hb
  exact⟨f3,f1,f4,f5⟩
 ·obtain⟨o,es,ep,ho,r⟩:=hm
  exact⟨o,es,ep,k _ o nL ho,r⟩
 ·refine (I.hok b u e).stay (λc v hc q=>k c v ?_ q) (λ_ q=>q) λ_ _ q=>q
  rcases hc with z |z
  ·rw[z];exact nit b u e
  ·exact nit c _ z
end
def JI (i j:Nat)(h:(i == j)=false):(n + i:Nat)≠n + j:=by
 have:i≠j:=by simpa using h
 omega
section
variable {κ:Type}[DecidableEq κ]
def EW (kvs:List (κ×V))(k:κ):Option V:=(kvs.find? λkv=>decide (kv.1=k)).map (·.2)
def putK (kvs:List (κ×V))(k:κ)(v:V):List (κ×V):=
 if (kvs.any λkv=>decide (kv.1=k))=true then kvs.map (λkv=>if kv.1=k then (kv.1,v) else kv) else kvs ++ [(k,v)]
def Ho (kvs:List (κ×V))(k:κ):List (κ×V):=kvs.filter λkv=>decide (kv.1≠k)
def vX (kvs:List (κ×V))(k:κ)(v:V):(putK kvs k v).length<=kvs.length + 1:=by
 unfold putK
 split
 ·rw[NM];omega
 ·rw[Oe,N0,Qn];omega
theorem KV.any (r:KV kvs vs)(k:κ):(kvs.any λkv=>decide (kv.1=k))=vs.any λkv=>decide (kv.1=k):=by
 unfold KV at r
 induction r with
 |nil=>rfl
 |cons h t ih=>rw[P8,P8,ih,h.1]
theorem KV.repl (r:KV kvs vs)(k:κ){y:V}{u:Value}(ry:RelV y u) :
  KV (kvs.map λkv=>if kv.1=k then (kv.1,y) else kv) (vs.map λkv=>if kv.1=k then (kv.1,u) else kv):=by
 unfold KV at r ⊢
 induction r with
 |nil=>exact .nil
 | @cons p q ps qs h t ih=>
  rw[Oq,Oq]
  refine .cons ?_ ih
  obtain⟨h1,h2⟩:=h
  by_cases e:p.1=k
  ·rw[NG e,NG (h1.symm.trans e)];exact⟨h1,ry⟩
  ·rw[NL e,NL (λz=>e (h1.trans z))];exact⟨h1,h2⟩
def KV.put (r:KV kvs vs)(k:κ){y:V}{u:Value}(ry:RelV y u):KV (putK kvs k y) (stored vs k u):=by
 unfold putK stored
 rw[r.any k]
 by_cases e:(vs.any λkv=>decide (kv.1=k))=true
 ·rw[NG e,NG e];exact r.repl k ry
 ·rw[NL e,NL e];exact Paired.snoc r ⟨rfl,ry⟩
theorem KV.drop (r:KV kvs vs)(k:κ):KV (Ho kvs k) (without vs k):=by
 unfold KV at r ⊢
 unfold Ho without
 induction r with
 |nil=>exact .nil
 | @cons p q ps qs h t ih=>
  obtain⟨h1,h2⟩:=h
  rw[List.filter_cons,List.filter_cons]
  by_cases e:p.1=k
  ·have a:¬decide (p.1≠k)=true:=by simp[e]
   have b:¬decide (q.1≠k)=true:=by simp[h1.symm.trans e]
   rw[NL a,NL b];exact ih
  ·have e':¬q.1=k:=λz=>e (h1.trans z)
   have a:decide (p.1≠k)=true:=by simp[e]
   have b:decide (q.1≠k)=true:=by simp[e']
   rw[NG a,NG b];exact .cons ⟨h1,h2⟩ ih
end
theorem K5 {P:Program}{w:World}{u:Value}(r:RelV (kV k) u):(eM P w).is k u=true:=by
 cases k with
 |inl i=>obtain⟨t,e⟩:=(show ∃t,u=Value.int i t from r);subst e;exact vL P w i t
 |inr x=>obtain⟨t,e⟩:=(show ∃t,u=Value.str x t from r);subst e;exact wV P w x t
section
variable {P:Program}{w:World}{H:Hp}{h:Heap}{a:Addr}
def Ki {u:HO}(ok:kc P w H h)(e:Rd H a u):bN P w H h a u:=e.ok ok
def J4 (ok:kc P w H h)(e:Rd H a (.dK kvs)):kvs.length<=sizeLine/\(a == sysModules)=false/\∃vs,KV kvs vs/\h.DictOf (eM P w) a vs:=
 show bN P w H h a (.dK kvs) from Ki ok e
def KI (ok:kc P w H h)(e:H a=some (.dK kvs)):kvs.length<=sizeLine/\(a == sysModules)=false/\∃vs,KV kvs vs/\h.DictOf (eM P w) a vs:=J4 ok (.inl e)
end
def E8 (H:Hp)(a:Addr)(y:V)(r:Option V):Prop:=
 (∃kvs k,Rd H a (.dK kvs)/\y=kV k/\r=EW kvs k)\/∃kvs k b,Rd H a (.dT kvs)/\y=.ref b/\H b=some (.tup (k.map kV))/\r=EW kvs k
def ED (H:Hp)(a:Addr)(y v:V)(H':Hp):Prop:=
 (∃kvs k,H a=some (.dK kvs)/\y=kV k/\kvs.length < sizeLine/\H'=upd H a (.dK (putK kvs k v)))\/
 ∃kvs k b,H a=some (.dT kvs)/\y=.ref b/\H b=some (.tup (k.map kV))/\kvs.length < sizeLine/\H'=upd H a (.dT (putK kvs k v))
def E8.k {H:Hp}{a:Addr}{kvs:List (Key×V)}{k:Key}(e:H a=some (.dK kvs)):E8 H a (kV k) (EW kvs k):=.inl ⟨kvs,k,.inl e,rfl,rfl⟩
def E8.t {H:Hp}{a b:Addr}{kvs:List (List Key×V)}{k:List Key}(e:H a=some (.dT kvs))(eb:H b=some (.tup (k.map kV))):E8 H a (.ref b) (EW kvs k):=.inr ⟨kvs,k,b,.inl e,rfl,eb,rfl⟩
def ED.k {H:Hp}{a:Addr}{kvs:List (Key×V)}{k:Key}{v:V}(e:H a=some (.dK kvs))(hl:kvs.length < sizeLine):ED H a (kV k) v (upd H a (.dK (putK kvs k v))):=.inl ⟨kvs,k,e,rfl,hl,rfl⟩
def ED.t {H:Hp}{a b:Addr}{kvs:List (List Key×V)}{k:List Key}{v:V}(e:H a=some (.dT kvs))(eb:H b=some (.tup (k.map kV)))(hl:kvs.length < sizeLine) :
  ED H a (.ref b) v (upd H a (.dT (putK kvs k v))):=.inr ⟨kvs,k,b,e,rfl,eb,hl,rfl⟩
section
variable {X:Cx}{pins:List (Addr×Obj)}{σ:St}{H:Hp}{s:Shared}{a:Addr}{y v:V}{u r:Value}{o:Option V}{A:Around}{E:Value->Shared->Prop}
def Inv.big (I:Inv X pins σ H s):sysModules < s.heap.objs.size:=by
 have h:mainGlobals < s.heap.objs.size:=(I.mod.glob.keeps I.bk).lt
 exact Nat.lt_trans (by decide) h
def F0 {t':Nat}(I:Inv X pins σ H s)(mu:J9 (H a))(hs:Heap.SameBut a s.heap h')(he:∃q,h'.get? a=some q)(new:bN X.prog X.w (upd H a ob) h' a ob) :
  Inv X pins σ (upd H a ob) {s with heap:=h',toks:=t'}:=
 I.write (x:=a) (e:=a) mu (.inl rfl) (λb q hb z=>(hs.2 b hb).trans z) he new
def Iq {P:Program}{w:World}{H':Hp}(z:kvs.length<=sizeLine)(hd:(a == sysModules)=false)(rel:KV kvs vs)(dd:h'.DictOf (eM P w) a vs) :
  bN P w H' h' a (.dK kvs):=⟨z,hd,vs,rel,dd⟩
end
def wt {P:Program}{w:World}{H:Hp}(h:Heap)(hb:sysModules < h.objs.size):bN P w H (h.push {cls:=.type "dict",data:=.dict #[]}) h.objs.size (.dK []):=
 ⟨Oh _,beq_eq_false_iff_ne.mpr (Ne.symm (Of hb)),[],.nil,Heap.DictOf.new h⟩
def Ir:TE:=λ_ H Q=>∀p,H p=none->Q (.ref p) (upd H p (.dK []))
section
variable {X:Cx}{pos:Pos}
def CT:PE X (.Dict [] [] pos) Ir:=λpins s σ H Q I h=>
 wpAny_Dict_empty ⟨.ref s.heap.objs.size,_,I.laid (a:=s.heap.objs.size) (o:=.dK []) (t':=s.toks) (λ_ _ q=>ND _ q) (NH _) (wt s.heap I.big),rfl,h _ (I.hok.fresh (NH _))⟩
end
def xq:List (TE×TE)->St->Hp->(List (V×V)->Hp->Prop)->Prop
 | [],_,H,Q=>Q [] H
 | (tk,tv) :: r,σ,H,Q=>tk σ H λx H1=>tv σ H1 λy H2=>xq r σ H2 λps H3=>Q ((x,y) :: ps) H3
abbrev VV:List (V×V)->List (Value×Value)->Prop:=Paired λp q=>RelV p.1 q.1/\RelV p.2 q.2
def LC (X:Cx)(pos:Pos)(keys:List (Option Expr))(values:List Expr)(trs:List (TE×TE)):Prop:=
 ∀(pins:List (Addr×Obj)) (s:Shared) (σ:St) (H:Hp) (Q:List (V×V)->Hp->Prop),Inv X pins σ H s->xq trs σ H Q->
  wpAny (model X.prog X.w) X.A (evalPairs (pairTrees keys values X.env pos)) (λvs s'=>∃ps H',Inv X pins σ H' s'/\VV ps vs/\Q ps H') X.xe s
def E6 {X:Cx}{pos:Pos}:LC X pos [] [] []:=λpins s σ H Q I h=>pairTrees_nil_walk ⟨[],H,I,.nil,h⟩
def Dh {X:Cx}{pos:Pos}{k v:Expr}(hk:PE X k tk)(hv:PE X v tv)(hr:LC X pos ks vs trs) :
  LC X pos (some k :: ks) (v :: vs) ((tk,tv) :: trs):=λpins s σ H Q I h=>
 pairTrees_cons_walk (cx (hk pins s σ H _ I h) λu s1 ⟨x,H1,I1,rx,q1⟩=>cx (hv pins s1 σ H1 _ I1 q1) λw2 s2 ⟨y,H2,I2,ry,q2⟩=>
  cx (hr pins s2 σ H2 _ I2 q2) λws s3 ⟨ps,H3,I3,rel,q3⟩=>⟨(x,y) :: ps,H3,I3,.cons ⟨rx,ry⟩ rel,q3⟩)
def qr (kvs more:List (Key×V)):List (Key×V):=more.foldl (λacc kv=>putK acc kv.1 kv.2) kvs
theorem KV.merge:∀{more:List (Key×V)} {rs:List (Key×Value)} {kvs:List (Key×V)} {vs:List (Key×Value)},KV more rs->KV kvs vs->KV (qr kvs more) (merged vs rs):=by
 intro more rs kvs vs r
 unfold KV at r
 induction r generalizing kvs vs with
 |nil=>intro q;exact q
 | @cons p q ps qs h t ih=>
  intro r0
  have e:KV (putK kvs p.1 p.2) (stored vs q.1 q.2):=by
   have:=r0.put p.1 h.2
   rw[<-h.1];exact this
  exact ih e
theorem lB:∀(more kvs:List (Key×V)),(qr kvs more).length<=kvs.length + more.length
 | [],kvs=>by show kvs.length<=kvs.length + 0;omega
 |p :: r,kvs=>by
  have h1:=lB r (putK kvs p.1 p.2)
  have h2:=vX kvs p.1 p.2
  show (qr (putK kvs p.1 p.2) r).length<=_
  rw[N0];omega
theorem qg {P:Program}{w:World}:∀{kvs:List (Key×V)} {ws:List (Value×Value)},VV (kvs.map λkv=>(kV kv.1,kv.2)) ws->∃rs,Carries (eM P w) ws rs/\KV kvs rs
 | [],_,r=>by rw[List.map_nil] at r;cases r;exact⟨[],True.intro,.nil⟩
 |p :: kvs,_,r=>by
  rw[Oq] at r
  cases r with
  | @cons a b as bs h t=>
   obtain⟨rs,c,q⟩:=qg (P:=P) (w:=w) t
   obtain⟨b1,b2⟩:=b
   exact⟨(p.1,b2) :: rs,⟨K5 h.1,rfl,c⟩,.cons ⟨rfl,h.2⟩ q⟩
def K1 (trs:List (TE×TE)):TE:=λσ H Q=>∀p,H p=none->xq trs σ (upd H p (.dK [])) λps H2=>H2 p=some (.dK [])/\∃kvs:List (Key×V),ps=kvs.map (λkv=>(kV kv.1,kv.2))/\kvs.length<=15/\Q (.ref p) (upd H2 p (.dK (qr [] kvs)))
def Gp {X:Cx}{pos:Pos}(h:LC X pos keys values trs)(hall:keys.all (·.isSome)=true)(hl:keys.length=values.length)(h0:keys≠ [])
  (h15:keys.length<=15):PE X (.Dict keys values pos) (K1 trs):=by
 intro pins s σ H Q I q
 have hn:=I.hok.fresh (NH s.heap.objs.size)
 have I1:=I.laid (a:=s.heap.objs.size) (o:=.dK []) (h':=s.heap.push {cls:=.type "dict",data:=.dict #[]}) (t':=s.toks) (λ_ _ q=>ND _ q) (NH _) (wt s.heap I.big)
 refine wpAny_Dict_walk (knd:=eM X.prog X.w) hall hl h0 h15 (cx (h pins _ σ _ _ I1 (q _ hn)) λws s2 ⟨ps,H2,I2,rel,e,kvs,ep,lk,q2⟩=>?_)
 subst ep
 obtain⟨rs,c,rk⟩:=qg (P:=X.prog) (w:=X.w) rel
 obtain⟨z,hd,vs0,r0,dd⟩:=KI I2.hok e
 cases r0
 refine⟨rs,c,dd,λh' dd' hs=>⟨.ref s.heap.objs.size,_,?_,rfl,q2⟩⟩
 have hz:(qr [] kvs).length<=sizeLine:=by
  have h1:=lB kvs []
  rw[Qn] at h1
  rw[N8];omega
 have he:∃q,h'.get? s.heap.objs.size=some q:=let ⟨q,_,_,hq,_⟩:=dd';⟨q,hq⟩
 exact F0 I2 (by rw[e];exact True.intro) hs he (Iq hz hd (rk.merge .nil) dd')
section
variable {X:Cx}{Γ:Fx}{E:XK}{pos:Pos}
def FL {j j'}:SE X Γ E (.Dict [some (.Constant (.str k) j p)] [.Constant (.int i) j' p'] pos) (cst (.dict [(.str k,.int i)])) [] .v:=by
 refine PE.post' (Gp (Dh qI pY E6) rfl rfl (by simp) (by simp)) ?_
 rintro σ H Q ⟨env,G,B,β,I,o⟩ p hp
 have o:∀v G' H',SR Γ B G' H' σ (bt [] env) β->aw G G'->iy B H H'->Rp Γ.K G' v (.dict [(.str k,.int i)])->Q v H':=o
 refine⟨au,[(.inr k,.int i)],rfl,by simp,?_⟩
 rw[Fq]
 have xn:=Ext.new I.sub (o:=.dK [((.inr k:Key),V.int i)]) hp
 exact o _ _ _ (I.ext xn) xn.gg (xn.hh.mov B) (.dK (kvs:=[((.inr k:Key),V.int i)]) au (.cons (.int i) .nil))
end
mutual
def EB:D->Bool
 | .list ds=>DE ds
 | .tuple ds=>DE ds
 | .dict kvs=> !kvs.isEmpty && kvs.all λkv=>match kv.1,kv.2 with
  | .str _,.int _=>true
  |_,_=>false
 |_=>true
def DE:List D->Bool
 | []=>true
 |d :: ds=>EB d && DE ds
end
section
variable {prog:Program}{w:World}{A:Around}{E:Value->Shared->Prop}{s:Shared}{it t:Addr}{i:Nat}{xs:Array Value}{Q:Value->Shared->Prop}
theorem Mg (hi:s.heap.IsTupleIter it t i)(ht:s.heap.IsTuple t xs)
  (k1:∀x,xs[i]? =some x->∀h',h'.IsTupleIter it t (i + 1)->Heap.SameBut it s.heap h'->Q x {s with heap:=h'})
  (k2:xs[i]? =none->A.handled=none/\∀h' e,Heap.ExtBut it s.heap h'->(∃o,h'.get? e=some o/\o.cls=.type "StopIteration")->E (.ref e) {s with heap:=h'}) :
  wpAny (model prog w) A (Builtin.SmallTypes.nextOf (.ref it)) Q E s:=by
 obtain⟨o,ho,hc,hd⟩:=id hi
 obtain⟨ol,hol, -,nl,hdl⟩:=ht
 refine NA (Pu (name:=Str.ofString "__next__") hi.typeIs F.slot_tuple_iterator_next (O1 F.slot_tuple_iterator_next hi.typeIs F.entry_tuple_iterator_next ?_ (F.args_tuple_iterator_next_1 _)))
 refine (show wpAny _ _ (field (.ref it) 0 >>= _) _ _ s from NA (PU ho hd (x:=.ref t) rfl ?_))
 refine (show wpAny _ _ (if (Value.ref t == Value.none)=true then _ else _) _ _ s from ?_)
 rw[NL (by exact NY)]
 refine (show wpAny _ _ (field (.ref it) 1 >>= _) _ _ s from NA (PU ho hd (x:=.int i 0) rfl ?_))
 refine (show wpAny _ _ (seqItems? (.ref t) >>= _) _ _ s from NA (wpAny_seqItems hol hdl ?_))
 cases hx:xs[i]? with
 |some x=>
  simp only[Oa,hx]
  refine NA (Py ho hd (by simp) (NF ⟨x,rfl,NF (k1 x hx _ ?_ (Heap.SameBut.update ..))⟩))
  refine⟨_,OB _ ho (Obj.isFreed_of_fields (Qv hd _)),(Obj.cls_mapFields ..).trans hc,?_⟩
  rw[Qv hd]
  simp[rawInt]
 |none=>
  obtain⟨hh,hE⟩:=k2 hx
  simp only[Oa,hx]
  refine NA (wpAny_rule (NA (Py ho hd (by simp) (show wpAny _ _ (newExc (.type "StopIteration") [] >>= _) _ _ _ from NA ?_))))
  simp only[newExc,newTuple]
  refine NA (OH (NA (m:=firstArgMember _ _) (wpAny_of_eq (a:=Value.none) (by first |rfl | (simp only[firstArgMember];rfl)) (OH ?_ (by size_fits)))) (by size_fits))
  simp only[raiseNew]
  refine NA (wpAny_handled ?_)
  have hh':A.in1.handled=none:=hh
  first |rw[hh'] |rw[hh]
  exact NA (NF (wpAny_throw (hE _ _ (((Heap.SameBut.update ..).extBut.push _).push _) ⟨_,NQ _ rfl,rfl⟩)))
def HY (hh:A.handled=none)(hne:t≠it)(xs:Array Value):Draws prog w A it [it,t] xs.size (λi v=>xs[i]? =some v) (λi h=>h.IsTupleIter it t i/\h.IsTuple t xs) where
 live:=λ_ _ st=>let ⟨o,ho,_⟩:=st.1;⟨o,ho⟩
 frame:=λ_ _ _ st hk=>⟨st.1.at λo e=>hk it (by simp) o e,st.2.at λo e=>hk t (by simp) o e⟩
 item:=λi s Q E hi st k=>Mg st.1 st.2 (λx hx h' q1 q2=>k x h' s.toks hx ⟨q1,st.2.extBut q2.extBut hne⟩ q2) λz=>by simp at z;omega
 done:=λs Q E st k=>Mg st.1 st.2 (λx hx=>by simp at hx) λ_=>⟨hh,k⟩
end
abbrev JC (t:Addr):Obj:={cls:=.type "tuple_iterator",data:=.fields #[.ref t,.int 0 0]}
abbrev Lv (it:Addr):Obj:={cls:=.type "enumerate",data:=.fields #[.none,.bool false,.ref it,rawInt 0,.none,.none]}
def Ca (t:Addr)(xs:Array Value)(n:Nat)(dc:Option Addr)(sl:Array (Option Value)) :
  Meets (Builtin.«enumerate.__new__» ⟨[.type "enumerate",.ref t],[]⟩) (λ_ R s=>s.heap.get? t=some ⟨.type "tuple",dc,.seq xs n,sl⟩/\
   R (.ok (.ret (.ref (s.heap.push (JC t)).objs.size))) {s with heap:=(s.heap.push (JC t)).push (Lv s.heap.objs.size)}):=by
 refine .of_wp λprog w A R s h=>?_
 obtain⟨hp,g,d,tk,os⟩:=s
 obtain⟨hl,h⟩:=h
 have sb:=sub_enumerate
 have hT:Heap.IsTuple (Shared.heap ⟨hp,g,d,tk,os⟩) t xs:=⟨_,hl,rfl,n,rfl⟩
 wp_walk using Qw hl
 refine wpAny_stack_any λst=>NF ?_
 split
 ·rename_i c _ _ _ _ _
  cases (c == Value.type "enumerate") <;> (wp_walk using Qw hl,Qa hT;exact⟨_,rfl,h⟩)
 ·wp_walk using Qw hl,Qa hT
  exact⟨_,rfl,h⟩
section
variable {prog:Program}{w:World}{A:Around}{E:Value->Shared->Prop}{s:Shared}
def yJ {t:Addr}{xs:Array Value}{Q:Value->Shared->Prop}(hT:s.heap.IsTuple t xs)
  (k:∀h',IsEnum h' (s.heap.objs.size + 1) s.heap.objs.size 0 .none->h'.IsTupleIter s.heap.objs.size t 0->(∀b o,s.heap.get? b=some o->h'.get? b=some o)->Q (.ref (s.heap.objs.size + 1)) {s with heap:=h'}) :
  wpAny (model prog w) A (call (.type "enumerate") [.ref t]) Q E s:=by
 obtain⟨⟨c,dc,dt,sl⟩,hl,hc,n,hd⟩:=hT
 have hc:c=.type "tuple":=hc
 have hd:dt=.seq xs n:=hd
 subst hc hd
 refine callType_new F.called_enumerate (by decide) (F.typeCall_enumerate_1 _) (F.newCall_enumerate_1 _) (λob=>F.args_object_init_2 ob _) F.entry_enumerate_new (Ca t xs n dc sl) ⟨hl,?_⟩
 have hz:(s.heap.push (JC t)).objs.size=s.heap.objs.size + 1:=O4 ..
 have g2:((s.heap.push (JC t)).push (Lv s.heap.objs.size)).get? (s.heap.push (JC t)).objs.size=some (Lv s.heap.objs.size):=NQ _ rfl
 have g1:((s.heap.push (JC t)).push (Lv s.heap.objs.size)).get? s.heap.objs.size=some (JC t):=ND _ (NQ _ rfl)
 rw[hz] at g2
 show _/\_
 rw[hz]
 exact⟨⟨_,g2,rfl⟩,k _ g2 ⟨_,g1,rfl,rfl⟩ λb o e=>ND _ (ND _ e)⟩
end
def JF (hh:A.handled=none)(i:Nat)(hx:xs[i]? =none):Draws prog w A it [it,t] i (λ_ _=>False) (λj h=>j=i/\h.IsTupleIter it t i/\h.IsTuple t xs) where
 live:=λ_ _ st=>let ⟨o,ho,_⟩:=st.2.1;⟨o,ho⟩
 frame:=λ_ _ _ st hk=>⟨st.1,st.2.1.at λo e=>hk it (by simp) o e,st.2.2.at λo e=>hk t (by simp) o e⟩
 item:=λj s Q E hi st k=>absurd st.1 (by omega)
 done:=λs Q E st k=>Mg st.2.1 st.2.2 (λx h=>by rw[hx] at h;cases h) λ_=>⟨hh,k⟩
def Mz (K:Frag)(a:Addr):It:=
 ⟨λi H=>∃xs x,dU K H a xs/\xs[i]? =some x,
  λi H v H'=>∃x t,H t=none/\(∀xs,dU K H a xs->xs[i]? =some x)/\v=.ref t/\H'=upd H t (.tup [.int i,x]),
  λi H=>∃xs,dU K H a xs/\xs.length<=i⟩
abbrev rO (n:Nat):List Nat:=[n + 1,n]
def A3 {h:Heap}{a n:Addr}{i:Nat}{its:Array Value}{b:Addr}(p:h.IsTuple a its)(q:h.IsTupleIter n b i):a≠n:=λz=>by
 subst z
 obtain⟨o,e,c,_⟩:=p
 obtain⟨o',e',c',_⟩:=q
 rw[e] at e';cases e'
 rw[c] at c'
 simp at c'
def A4 {a n it:Addr}(p:h.IsTuple a its)(q:IsEnum h n it i old):n≠a:=λz=>by
 subst z
 obtain⟨o,e,c,_⟩:=p
 rw[q] at e;cases e
 simp at c
def yy {P:Program}{w:World}{K:Frag}{elts:List Expr}{x1}{pos:Pos}(a:Addr)(n:Nat):Turn P w K (.Tuple elts x1 pos) (Mz K a) (rO n) (n + 1)
  (λi h=>(∃old,IsEnum h (n + 1) n i old)/\h.IsTupleIter n a i) where
 mem:=by simp
 obj:=λi h st c hc=>by
  obtain⟨⟨old,z1⟩,⟨o2,z2,_,d2⟩⟩:=st
  simp only[rO,NI,Oi,O3] at hc
  rcases hc with rfl |rfl
  ·exact⟨_,z1,λv z=>by
    have z':Data.fields _=Data.cell v:=z
    cases z'⟩
  ·exact⟨o2,z2,λv z=>by rw[d2] at z;cases z⟩
 keep:=λi h h' st k=>by
  obtain⟨⟨old,z1⟩,z2⟩:=st
  exact⟨⟨old,k _ (by simp) _ z1⟩,z2.at λo e=>k _ (by simp) o e⟩
 item:=by
  intro X hP hw hK hc i pins s σ H E I hf st hg
  subst hP hw hK
  obtain⟨xs,x,ha,hx⟩:=hg
  obtain⟨its,rv,p,hz⟩:=I.tuple ha
  have p:s.heap.IsTuple a its.toArray:=p
  obtain⟨u0,hu0,ru0⟩:=rv.get hx
  obtain⟨⟨old,z1⟩,z2⟩:=st
  have hh:X.A.in1.handled=none:=I.ok.hd hc
  have hlt:i < its.toArray.size:=by
   have:=NV.mp hu0
   simpa using this.1
  refine wpAny_pyNext_enum_itemD (HY hh (A3 p z2) its.toArray) z1 ⟨z2,p⟩ hlt (JI 1 0 rfl) (by
   simp only[NI,Oi,O3,not_or]
   exact⟨JI 1 0 rfl,A4 p z1⟩) λu h' tk hu q1 q2 q3 q4 q5=>?_
  have eu:u0=u:=by
   have hu:its.toArray[i]? =some u:=hu
   rw[PJ,hu0] at hu
   exact Option.some.inj hu
  subst eu
  refine⟨_,rfl,wpAny_letOwnedTupleGo_enum (s:={s with heap:=h',toks:=tk + 1}) q1 λh2 r1 r2=>?_⟩
  have r2:∀c,c≠n + 1->h2.get? c=h'.get? c:=r2.2
  have lz:n + 1 < s.heap.objs.size:=NO z1
  have hT:H s.heap.objs.size=none:=I.hok.fresh (NH _)
  have I1:Inv X pins σ (upd H s.heap.objs.size (.tup [.int i,x])) {s with heap:=s.heap.push {cls:=.type "tuple",data:=.seq #[.int i tk,u0]},toks:=s.toks}:=
   I.laid (λb o e=>ND _ e) (NH _) ⟨by show 2<=sizeLine;rw[N8];omega,[.int i tk,u0],.cons ⟨tk,rfl⟩ (.cons ru0 .nil),qp.new _ _⟩
  have hf':∀c∈rO n,nI X pins (upd H s.heap.objs.size (.tup [.int i,x])) c:=λc hc=>⟨by
   rw[aB (λz=>?_)]
   ·exact (hf c hc).1
   ·subst z
    simp only[rO,NI,Oi,O3] at hc
    omega,(hf c hc).2⟩
  have I2:Inv X pins σ (upd H s.heap.objs.size (.tup [.int i,x])) {s with heap:=h2,toks:=tk + 1}:=by
   refine I1.turnedL (ch:=rO n) (λc o hc e=>?_) hf'
   have e:(s.heap.push {cls:=.type "tuple",data:=.seq #[.int i tk,u0]}).get? c=some o:=e
   simp only[rO,NI,Oi,O3,not_or] at hc
   rw[r2 c hc.1]
   by_cases z:c=s.heap.objs.size
   ·subst z
    rw[NQ _ rfl] at e
    rw[<-e];exact q3
   ·refine q5 c o hc.1 hc.2 ?_
    rw[Heap.get?_push_ne _ _ _ z] at e
    exact e
  refine⟨.ref s.heap.objs.size,_,I2,rfl,⟨x,_,hT,λxs' h'=>?_,rfl,rfl⟩,⟨⟨u0,r1⟩,q2.1.at λo e=>(r2 _ (JI 0 1 rfl)).trans e⟩,λc hc=>(hf' c hc).1⟩
  rw[I.tuple_inj h' ha];exact hx
 done:=by
  intro X hP hw hK hc i pins s σ H E I hf st hg
  subst hP hw hK
  obtain⟨xs,ha,hl⟩:=hg
  obtain⟨its,rv,p,hz⟩:=I.tuple ha
  obtain⟨⟨old,z1⟩,z2⟩:=st
  have hh:X.A.in1.handled=none:=I.ok.hd hc
  have l1:=rv.length
  refine wpAny_pyNext_enum_endD (JF hh i (xs:=its.toArray) (by simp;omega)) z1 ⟨rfl,z2,p⟩ λh' q=>⟨rfl,?_⟩
  refine I.turnedL (t':=s.toks) (ch:=rO n) (λc o hc e=>?_) hf
  simp only[rO,NI,Oi,O3,not_or] at hc
  exact q c o hc.2 e
 self:=λ_ _ _ _ _ st h=>by
  obtain⟨⟨old,z1⟩,_⟩:=st
  exact QB z1 h
def Nt (K:Frag)(ta:TA):TI:=λσ H R=>ta σ H λvs H2=>∃a xs,vs= [.ref a]/\dU K H2 a xs/\R (Mz K a) H2
def sJ:bootBuiltins "enumerate"=some (.type "enumerate"):=by decide +kernel
section
variable {X:Cx}
theorem HL {a:Expr}{ta:TA}{p pos pt:Pos}{elts:List Expr}{x1}(hg:Gl X "enumerate")(hm:X.mg "enumerate"=none)(ha:PA X [a] ta)(hs:starEach [a] X.env= [(false,eval a X.env)]:=by rfl) :
  PI X (.Tuple elts x1 pt) (.Call (.Name "enumerate" p) [a] [] pos) (Nt X.K ta):=by
 intro pins s σ H R I h
 refine Call_ (kH I hg hm sJ (OV (cx (ha pos pins s σ H _ I h) λus s1 ⟨vs,H1,I1,r1,q1⟩=>?_) hs rfl))
 obtain⟨a,xs,e,h1,q⟩:=q1
 subst e
 cases r1 with
 |cons r rr=>
  cases rr
  cases r
  obtain⟨its,rv,p1,hz⟩:=I1.tuple h1
  refine yJ (show s1.heap.IsTuple a its.toArray from p1) λh' z1 z2 z3=>?_
  refine QB z1 ⟨_,rO s1.heap.objs.size,_,_,H1,rfl,I1.kept (t':=s1.toks) z3,yy a s1.heap.objs.size,⟨⟨_,z1⟩,z2⟩,λc hc=>?_,q⟩
  have:s1.heap.objs.size<=c:=by
   simp only[rO,NI,Oi,O3] at hc
   rcases hc with rfl |rfl <;> first |exact NH _ |exact Nat.le_add_right _ _
  exact I1.fpOk this (I1.hok.fresh this)
end
section
variable {X:Cx}{Γ:Fx}{E:XK}{e a b c:Expr}{f fa fb:VF D}{L La Lb:List Nat}{md ma mb:Md}{pos:Pos}
def dB (ds:List D):List D:=ds.mapIdx λi d=>.tuple [.int i,d]
def BY (fa:VF D):VF (List D):=λvs β=>(fa vs β).bnd λx β1=>match x with
 | .tuple ds=>.ok (dB ds) β1
 |_=>.bad
def Ei {K:Frag}{B:Option Addr}{G H1:Hp}{p:Addr}{xs:List V}{ds:List D}(hp:dU K G p xs)(r:cc K G xs ds):Walk K B G H1 (dB ds) (Mz K p):=λGc H i s1 s2 m=>by
 have hp':=hp.grow (s1.trans s2).grow
 have l1:=r.len
 have lz:(dB ds).length=ds.length:=by unfold dB;rw[List.length_mapIdx]
 refine⟨λhi=>⟨?_,λx H' y=>?_⟩,λhi=>⟨xs,hp',by omega⟩⟩
 ·have h1:i < xs.length:=by omega
  exact⟨xs,xs[i],hp',by simp[h1]⟩
 ·obtain⟨x,t,ht,hx,rfl,rfl⟩:=y
  obtain⟨d,ed,rd⟩:=r.at' (hx xs hp')
  have xn:=Ext.new s2 (o:=.tup [.int i,x]) ht
  refine⟨upd Gc t (.tup [.int i,x]),.tuple [.int i,d],xn,?_,.tup (.inl (.inl au)) (.cons (.int i) (.cons (rd.mono (s1.trans xn.gg)) .nil))⟩
  unfold dB
  rw[Qi,ed];rfl
theorem Cf {p pt:Pos}{elts:List Expr}{x1}(hK:X.K=Γ.K)(hg:Gl X "enumerate")(hm:X.mg "enumerate"=none)(ha:SE X Γ E a fa La ma)(hs:starEach [a] X.env= [(false,eval a X.env)]:=by rfl)(hs':starEach [a] X.env=(false,eval a X.env) :: starEach [] X.env:=by rfl) :
  SI X Γ E (.Tuple elts x1 pt) (.Call (.Name "enumerate" p) [a] [] pos) (BY fa) La md:=by
 refine PI.post (HL hg hm (ak ha aN hs') hs) ?_
 rintro σ H Q ⟨env,G,B,β,I,o⟩
 refine⟨env,G,B,β,I,o.bnd.imp λd1 β1 h x G1 H1 I1 s1 m1 vx=>?_⟩
 have vx:=vx.brw I.boxThere
 rw[hK]
 cases d1 with
 |tuple ds=>
  rcases vx with vx | ⟨p,rfl,hb,q⟩
  ·cases vx with
   | @tup p xs _ hq r=>exact⟨p,xs,rfl,hq.grow I1.sub.grow,h _ G1 H1 I1 s1 m1 (Ei hq r)⟩
  ·exact q.elim
 |_=>exact h.elim
end
end L2
namespace L2
open PySem PySem.Spec PyProof.Rows PySem.MeetsSeq PySem.MeetsSeq2 PySem.MeetsSeq3
def G7 (K:Frag):R2:=λx y H Q=>∃a b xs ys,x=.ref a/\y=.ref b/\dU K H a xs/\dU K H b ys/\xs.length + ys.length<=sizeLine/\
 (xs= []->Q (.ref b) H)/\(xs≠ []->ys= []->Q (.ref a) H)/\(xs≠ []->ys≠ []->∀p,H p=none->Q (.ref p) (upd H p (.tup (xs ++ ys))))
section
variable {X:Cx}
def nr:kg X (binaryOp .Add) (G7 X.K):=by
 intro pins s σ H x y v u Q I rx ry h
 obtain⟨a,b,xs,ys,rfl,rfl,ha,hb,hz,q0,q1,q2⟩:=h
 by_cases hx:xs= []
 ·cases rx
  cases ry
  obtain⟨its,r1,p1,_⟩:=I.tuple ha
  obtain⟨its2,r2,p2,_⟩:=I.tuple hb
  obtain⟨⟨cls,dd,data,sl⟩,ho,hc,n,hd⟩:=id p1
  obtain⟨⟨cls2,dd2,data2,sl2⟩,ho2,hc2,n2,hd2⟩:=id p2
  simp only at hc hd hc2 hd2
  subst hc hd hc2 hd2
  have he:its= []:=r1.nil_iff.mpr hx
  exact concat_meets ⟨_,ho,rfl⟩ ⟨_,ho2,rfl⟩ noFill_tuple_add seq_tuple_add PySem.F.slot_tuple_add PySem.F.entry_tuple_add (Qs _ _)
   (tuple_addW0 a b its.toArray its2.toArray n n2 dd dd2 sl sl2 (by simp[he])) ⟨ho,ho2,.ref b,H,I,rfl,q0 hx⟩
 ·exact FI pins s σ H _ _ v u Q I rx ry ⟨a,b,xs,ys,rfl,rfl,ha,hb,hx,hz,q1 hx,q2 hx⟩
end
def lF:D->D->Option D
 | .tuple a,.tuple b=>if a.length + b.length<=sizeLine then some (.tuple (a ++ b)) else none
 |_,_=>none
def uO {K:Frag}:lZ K (G7 K) lF .v:=by
 intro B G H x y dx dy d Q s hB bx by' e k
 cases dx <;> cases dy <;> first | (cases e;done) |skip
 rename_i a b
 simp only[lF] at e
 split at e
 ·rename_i hz
  cases e
  rcases bx with bx | ⟨_,_,_,q⟩
  case inr=>exact q.elim
  rcases by' with by' | ⟨_,_,_,q⟩
  case inr=>exact q.elim
  cases bx with
  | @tup p xs _ hp r1=>
   cases by' with
   | @tup q ys _ hq r2=>
    refine⟨p,q,xs,ys,rfl,rfl,hp.grow s.grow,hq.grow s.grow,by rw[r1.len,r2.len];exact hz,λz=>?_,λz z'=>?_,λ_ _ l hl=>?_⟩
    ·subst z
     cases r1
     exact k _ G H (Ext.refl s) (.tup hq r2)
    ·subst z'
     cases r2
     rw[PH] at k
     exact k _ G H (Ext.refl s) (.tup hp r1)
    ·have xn:=Ext.new s (o:=.tup (xs ++ ys)) hl
     exact k _ _ _ xn (.tup (.inl (.inl au)) ((r1.append r2).mono xn.gg))
 ·cases e
end L2
namespace L2
open PySem PySem.Spec PyProof.Rows
def isStar:Expr->Bool
 | .Starred _ _=>true
 |_=>false
def A6 (h:isStar a=false):starEach (a :: es) env=(false,eval a env) :: starEach es env:=by
 cases a <;> first |rfl |cases h
def Hy (sc:Scope)(x:Str):Bool:=match sc.names.lookup x with
 |some .local=>true
 |some .cell=>true
 |some .free=>true
 |_=>false
def Gb (h:Hy sc x=true):xm sc x:=by
 unfold Hy at h
 unfold xm
 split at h
 ·exact .inl (by assumption)
 ·exact .inr (.inl (by assumption))
 ·exact .inr (.inr (by assumption))
 ·cases h
def yx (N:List Str)(sc:Scope):List (Str×Nat)->Bool
 | []=>true
 | (x,i) :: r=>decide (N[i]? =some x) && (Hy sc x && ((!(x == ("__debug__":Str))) && ((!(x == ("__classdict__":Str))) && yx N sc r)))
theorem zb :∀{l:List (Str×Nat)} {x:Str} {i:Nat},yx N sc l=true->l.lookup x=some i->N[i]? =some x/\xm sc x/\(x == ("__debug__":Str))=false/\(x == ("__classdict__":Str))=false
 | [],_,_,_,h=>by cases h
 | (y,j) :: r,x,i,h,e=>by
  simp only[yx,N3,N4,Pq] at h
  obtain⟨h1,h2,h3,h4,h5⟩:=h
  rw[P4] at e
  split at e
  ·rename_i q
   have q:x=y:=by simpa using q
   subst q
   cases e
   exact⟨h1,Gb h2,h3,h4⟩
  ·exact zb h5 e
def A0:Expr->Option Int
 | .Constant (.int i) _ _=>some i
 |_=>none
theorem pA (h:A0 e=some i):∃j p,e=.Constant (.int i) j p:=by
 cases e with
 |Constant c j p=>cases c <;> first | (cases h;exact⟨_,_,rfl⟩) |cases h
 |_=>cases h
def Mk (op:UnaryOp)(e:Expr):Option Int:=match op with
 | .USub=>A0 e
 |_=>none
def GZ:Operator->Bool
 | .Pow=>true
 |_=>false
def C8 (h:GZ o=true):o=.Pow:=by cases o <;> first |rfl |cases h
def IK (ks:List (Option Expr))(vs:List Expr):Option (Str×Int):=match ks,vs with
 | [some (.Constant (.str k) _ _)],[v]=>(A0 v).map λi=>(k,i)
 |_,_=>none
def Fv (h:IK ks vs=some r):∃j p j' p',ks= [some (.Constant (.str r.1) j p)]/\vs= [.Constant (.int r.2) j' p']:=by
 unfold IK at h
 split at h
 ·rename_i k j p v
  cases q:A0 v with
  |none=>rw[q] at h;cases h
  |some i=>
   rw[q] at h
   cases h
   obtain⟨j',p',rfl⟩:=pA q
   exact⟨_,_,_,_,rfl,rfl⟩
 ·cases h
def MN:Const->Option D
 | .int i=>some (.int i)
 | .bool b=>some (.bool b)
 | .none=>some .none
 | .str x=>some (.str x)
 |_=>none
mutual
def rD (nm:List (Str×Nat)):Expr->Option (VF D×List Nat)
 | .Name x _=>(nm.lookup x).map λi=>(gv i,[i])
 | .Constant c _ _=>(MN c).map λd=>(cst d,[])
 | .UnaryOp op a _=>(Mk op a).map λi=>(cst (.int (-i)),[])
 | .BinOp a o b _=>if GZ o=true then (A0 a).bind λi=>(A0 b).map λj=>(f2 (cst (.int i)) (cst (.int j)) AF,[]) else none
 | .Dict ks vs _=>(IK ks vs).map λr=>(cst (.dict [(.str r.1,.int r.2)]),[])
 | .Tuple es _ _=>(GP nm es).map λr=>(cv r.1,r.2)
 | .List es _=>(GP nm es).map λr=>(bC r.1,r.2)
 | .BoolOp ..=>none
 | .NamedExpr ..=>none
 | .Lambda ..=>none
 | .IfExp ..=>none
 | .Set ..=>none
 | .ListComp ..=>none
 | .SetComp ..=>none
 | .DictComp ..=>none
 | .GeneratorExp ..=>none
 | .Await ..=>none
 | .Yield ..=>none
 | .YieldFrom ..=>none
 | .Compare ..=>none
 | .Call ..=>none
 | .FormattedValue ..=>none
 | .JoinedStr ..=>none
 | .Attribute ..=>none
 | .Subscript ..=>none
 | .Starred ..=>none
 | .Slice ..=>none
def GP (nm:List (Str×Nat)):List Expr->Option (VF (List D)×List Nat)
 | []=>some (ag,[])
 |e :: es=>(rD nm e).bind λr=>(GP nm es).map λq=>(aa r.1 q.1,r.2 ++ q.2)
end
section
variable {X:Cx}{Γ:Fx}{E:XK}{nm:List (Str×Nat)}
theorem kM {α β:Type}{o:Option α}{f:α->β}{b:β}(h:o.map f=some b):∃a,o=some a/\f a=b:=by
 cases o with
 |none=>cases h
 |some a=>exact⟨a,rfl,Option.some.inj h⟩
theorem zi {α β:Type}{o:Option α}{f:α->Option β}{b:β}(h:o.bind f=some b):∃a,o=some a/\f a=some b:=by
 cases o with
 |none=>cases h
 |some a=>exact⟨a,rfl,h⟩
mutual
theorem Ks (hc:yx X.N X.env.scope nm=true)(hb:∀i,Γ.br i=false):∀{e:Expr} {f:VF D} {L:List Nat},rD nm e=some (f,L)->SE X Γ E e f L .v/\isStar e=false
 | .Name x p,f,L,h=>by
  rw[rD] at h
  obtain⟨i,q,e⟩:=kM h
  cases e
  obtain⟨h1,h2,h3,h4⟩:=zb hc q
  exact⟨aF i (hb i) h1 h2 h3 h4,rfl⟩
 | .Constant c j p,f,L,h=>by
  rw[rD] at h
  obtain⟨d,q,e⟩:=kM h
  cases e
  cases c <;> first | (cases q;first |exact⟨ax,rfl⟩ |exact⟨jl,rfl⟩ |exact⟨yi,rfl⟩ |exact⟨gu,rfl⟩) |cases q
 | .UnaryOp op a p,f,L,h=>by
  rw[rD] at h
  obtain⟨i,q,e⟩:=kM h
  cases e
  cases op <;> first | (cases q;done) |skip
  obtain⟨j,p,rfl⟩:=pA q
  exact⟨sv oi sP ax,rfl⟩
 | .BinOp a op b p,f,L,h=>by
  rw[rD] at h
  split at h
  ·rename_i ho
   obtain rfl:=C8 ho
   obtain⟨i,q,h⟩:=zi h
   obtain⟨j,q2,e⟩:=kM h
   cases e
   obtain⟨j1,p1,rfl⟩:=pA q
   obtain⟨j2,p2,rfl⟩:=pA q2
   exact⟨ba De GS ax ax,rfl⟩
  ·cases h
 | .Dict ks vs p,f,L,h=>by
  rw[rD] at h
  obtain⟨r,q,e⟩:=kM h
  cases e
  obtain⟨_,_,_,_,rfl,rfl⟩:=Fv q
  exact⟨FL,rfl⟩
 | .Tuple es c p,f,L,h=>by
  rw[rD] at h
  obtain⟨r,q,e⟩:=kM h
  cases e
  exact⟨ig (uf hc hb q),rfl⟩
 | .List es p,f,L,h=>by
  rw[rD] at h
  obtain⟨r,q,e⟩:=kM h
  cases e
  exact⟨SE.wv (bO (uf hc hb q)),rfl⟩
 | .BoolOp ..,_,_,h=>by rw[rD] at h;cases h
 | .NamedExpr ..,_,_,h=>by rw[rD] at h;cases h
 | .Lambda ..,_,_,h=>by rw[rD] at h;cases h
 | .IfExp ..,_,_,h=>by rw[rD] at h;cases h
 | .Set ..,_,_,h=>by rw[rD] at h;cases h
 | .ListComp ..,_,_,h=>by rw[rD] at h;cases h
 | .SetComp ..,_,_,h=>by rw[rD] at h;cases h
 | .DictComp ..,_,_,h=>by rw[rD] at h;cases h
 | .GeneratorExp ..,_,_,h=>by rw[rD] at h;cases h
 | .Await ..,_,_,h=>by rw[rD] at h;cases h
 | .Yield ..,_,_,h=>by rw[rD] at h;cases h
 | .YieldFrom ..,_,_,h=>by rw[rD] at h;cases h
 | .Compare ..,_,_,h=>by rw[rD] at h;cases h
 | .Call ..,_,_,h=>by rw[rD] at h;cases h
 | .FormattedValue ..,_,_,h=>by rw[rD] at h;cases h
 | .JoinedStr ..,_,_,h=>by rw[rD] at h;cases h
 | .Attribute ..,_,_,h=>by rw[rD] at h;cases h
 | .Subscript ..,_,_,h=>by rw[rD] at h;cases h
 | .Starred ..,_,_,h=>by rw[rD] at h;cases h
 | .Slice ..,_,_,h=>by rw[rD] at h;cases h
theorem uf (hc:yx X.N X.env.scope nm=true)(hb:∀i,Γ.br i=false):∀{es:List Expr} {f:VF (List D)} {L:List Nat},GP nm es=some (f,L)->SA X Γ E es f L
 | [],f,L,h=>by rw[GP] at h;cases h;exact ar
 |e :: es,f,L,h=>by
  rw[GP] at h
  obtain⟨r,q,h⟩:=zi h
  obtain⟨r2,q2,e⟩:=kM h
  cases e
  obtain⟨a,b⟩:=Ks hc hb q
  exact ae a (uf hc hb q2) (A6 b)
end
def Gk :swapsWith (.List es p) t l env=pure false:=rfl
def GX {es:List Expr}{f:VF (List D)}{L:List Nat}{pos:Pos}(nm:List (Str×Nat))(hc:yx X.N X.env.scope nm=true)(hb:∀i,Γ.br i=false)(h:GP nm es=some (f,L)):SE X Γ E (.List es pos) (bC f) L .w:=bO (uf hc hb h)
def Lf {i:Nat}{x:Str}{es:List Expr}{f:VF (List D)}{L:List Nat}{pos' p pos:Pos}(nm:List (Str×Nat))(hc:yx X.N X.env.scope nm=true)(hb:∀i,Γ.br i=false)(h:GP nm es=some (f,L))(hN:X.N.Nodup)(hi:X.N[i]? =some x)(hx:Loc X.env.scope x)(hf:X.fn x=true\/X.env.scope.names.lookup x=some .local) :
  SS X Γ E (.Assign [.Name x pos'] (.List es p) pos) (a7 i L (bC f)):=aO (SE.wv (GX nm hc hb h)) hN hi hx Gk hf
end
end L2
namespace L2.ST
open PySem PySem.SetTable
section
variable {prog:Program}{w:World}{A:Around}{E:Value->Shared->Prop}{s:Shared}
set_option maxHeartbeats 3200000 in
theorem rG {St:Addr->Nat->Heap->Prop}{Q:Value->Shared->Prop}(X:Src prog w s.heap l vs T itO St)(hh:A.handled=none)(hi:PyProof.Rows.IntsAre vs ns)(hb:vs.length + 1 < scanBound)
  (h:∀(h':Heap) (tk:Nat),h'.SetOf (intKind prog w) s.heap.objs.size (λk'=>(PyProof.Rows.firstMet (λi=>ns.getD i 0) vs.length).any (· == k')) (PyProof.Rows.firstMet (λi=>ns.getD i 0) vs.length).length->(∀b o,s.heap.get? b=some o->h'.get? b=some o)->Q (.ref s.heap.objs.size) {s with heap:=h',toks:=tk}) :
  wpAny (model prog w) A (call (.type "set") [.ref l]) Q E s:=by
 obtain⟨c0,tl0,hmro0⟩:=OE.mro
 have hmade0:=OE.made
 have hsub0:=OE.sub
 refine wpAny_call (codeAny_of_tree ?_)
 show wpAny _ _ (callAny (.type "set") ⟨[.ref l],[]⟩) _ _ _
 refine NF ⟨Code.quiet_builtin _ (by decide +kernel),O9 F.entry_type_call ?_⟩
 (rw[Around.under_plain (weight_type_call_type "set" [.ref l] []) rfl])
 have g1:=OE.notType
 have g2:=OE.canCreate
 have g3:=F.typeCall_set_1 (.ref l)
 repeat (any_goals (first |assumption |wp_step))
 refine Pz (om (.ref l) (E:=E) (Q1:=λobj s1=>obj=.ref s.heap.objs.size/\s1={s with heap:=s.heap.push {cls:=.type "set",dict:=none,data:=.set #[] 0 (.fresh 0 0 (gi w))}}) ⟨rfl,rfl⟩) λr s1 hr=>?_
 cases r with
 |error e=>exact hr
 |ok fl=>
  cases fl with
  |ret obj=>
   obtain⟨rfl,rfl⟩:=hr
   generalize hO:({cls:=.type "set",dict:=none,data:=.set #[] 0 (.fresh 0 0 (gi w))}:Obj)=O
   have hS0:(s.heap.push O).get? s.heap.objs.size=some O:=NQ _ (by rw[<-hO];rfl)
   have hT0:Shared.TypeIs {s with heap:=s.heap.push O} (.ref s.heap.objs.size) "set":=⟨_,hS0,by rw[<-hO]⟩
   have g4:=OE.init.lookup
   have g5:=OE.init.bind (.ref s.heap.objs.size)
   repeat (any_goals (first |assumption |wp_step))
   refine Pz (codeAny_call_builtin (R:=wants (λr s2=>r=.none/\∃h' tk,s2={s with heap:=h',toks:=tk}/\h'.SetOf (intKind prog w) s.heap.objs.size (λk'=>(PyProof.Rows.firstMet (λi=>ns.getD i 0) vs.length).any (· == k')) (PyProof.Rows.firstMet (λi=>ns.getD i 0) vs.length).length/\(∀b o,s.heap.get? b=some o->h'.get? b=some o)) E)
    OE.init.plain F.entry_set_init (check_set_init_1 hT0 ?_)) λr2 s2 hr2=>?_
   ·obtain⟨ol,hol,hcl⟩:=X.ty
    have hol':(s.heap.push O).get? l=some ol:=ND _ hol
    have e1:=X.ns
    have e2:=X.nf
    have e3:=X.nd
    have hTl:Shared.TypeIs {s with heap:=s.heap.push O} (.ref l) T:=⟨ol,hol',hcl⟩
    have hdat:O.data=.set #[] 0 (.fresh 0 0 (gi w)):=by rw[<-hO]
    (unfold Builtin.«set.__init__» noKeywords Builtin.Frozenset.updateFrom)
    subst hO
    obtain⟨oc,od,odt,osl⟩:=ol
    simp only at hcl
    subst hcl
    (generalize hPI0:pyIter=PI0)
    wp_walk
    subst hPI0
    have kp:∀b o,s.heap.get? b=some o->(s.heap.push {cls:=.type "set",dict:=none,data:=.set #[] 0 (.fresh 0 0 (gi w))}).get? b=some o:=λb o e=>ND _ e
    refine X.it _ _ _ _ kp ?_
    refine NA (wpAny_runValue ?_)
    have hlS:l < s.heap.objs.size:=NO hol
    have hh3:A.in1.in1.in1.handled=none:=by simp[hh]
    have hneI:l≠(s.heap.push {cls:=.type "set",dict:=none,data:=.set #[] 0 (.fresh 0 0 (gi w))}).objs.size:=by
     rw[O4];exact Of (Nat.lt_succ_of_lt hlS)
    have hSf:s.heap.objs.size∉ [(s.heap.push {cls:=.type "set",dict:=none,data:=.set #[] 0 (.fresh 0 0 (gi w))}).objs.size,l]:=by
     rw[O4]
     intro z
     rcases NI.mp z with e |z
     ·exact absurd e (Of (Nat.lt_succ_self _))
     ·exact absurd (N9.mp z) (Nat.ne_of_gt hlS)
    refine PyProof.Rows.codeAny_set_update_loopS ((X.wk _ _ hh3 hneI).toS) s.heap.objs.size hSf (λi=>ns.getD i 0) (λi v e=>PyProof.Rows.IntsAre.int_at hi i v e) hb (vs.length - 0) 0 _ (by omega) (Oh _) (X.st _ kp) ?_ ?_
    ·exact PyProof.Rows.SetOf_congr ((PyProof.Rows.setObjOf_fresh (knd:=intKind prog w) (gi w)).setOf (ND _ hS0) (by unfold scanBound;omega)) (λ_=>rfl) rfl
    ·intro s' hm F'
     obtain⟨h',g',d',tk,os'⟩:=s'
     have eg:g'=s.gens:=hm.gens
     have ed:d'=s.drawn:=hm.drawn
     have eo:os'=s.os:=hm.os
     subst eg;subst ed;subst eo
     show wpAny _ _ _ _ _ _
     refine NF ?_
     show wpAny _ _ (ret Value.none) _ _ _
     refine NF ⟨rfl,h',tk,rfl,F',λb o e=>hm.heap b o (λz=>?_) (ND _ (kp b o e))⟩
     have hlt:=NO e
     rw[O4] at z
     rcases NI.mp z with z |z
     ·exact absurd hlt (by rw[z];exact Om _)
     ·rw[N9.mp z] at hlt
      exact absurd hlt (Nat.not_lt.mpr (PV _))
   ·cases r2 with
    |error e=>exact hr2
    |ok fl2=>
     cases fl2 with
     |ret r=>
      obtain⟨rfl,h',tk,rfl,hF,hk⟩:=hr2
      repeat (any_goals (first |assumption |wp_step))
      exact h _ _ hF hk
     |_=>exact hr2.elim
  |_=>exact hr.elim
end
end L2.ST
namespace L2
open PySem PyProof.Rows
section
variable {X:Cx}{K:Frag}{pins:List V}{σ:St}{H:Hp}{s:Shared}{E:XK}
def Kh (ns:List Int)(k:Int):Bool:=(firstMet (λi=>ns.getD i 0) ns.length).any (· == k)
def qZ (ns:List Int):Nat:=(firstMet (λi=>ns.getD i 0) ns.length).length
def GK (K:Frag):List V->Hp->VK->Prop:=λxs H Q=>∃a ns,xs= [.ref a]/\(fj K H a (ns.map V.int)\/dU K H a (ns.map V.int))/\ns.length<=1000/\∀S,H S=none->Q (.ref S) (upd H S (.set (Kh ns) (qZ ns)))
def Bz (hc:X.calm=true):cB X (.type "set") (GK X.K):=by
 intro pins s σ H xs us Q I r h
 obtain⟨a,ns,rfl,hq,hz,q⟩:=h
 obtain⟨u,rfl,rx⟩:=vals1 r
 cases rx
 have hh:=I.ok.hd hc
 have core:∀{its:List Value} {T:String} {itO:Obj} {St:Addr->Nat->Heap->Prop},Vals (ns.map V.int) its->L2.ST.Src X.prog X.w s.heap a its T itO St->wpAny (model X.prog X.w) X.A (call (.type "set") [.ref a]) (EP X pins σ Q) X.xe s:=λ{its T itO St} rv src=>by
  have hl:its.length=ns.length:=by rw[<-rv.length,NM]
  refine L2.ST.rG src hh (intsAre_of rv) (by unfold scanBound;omega) λh' tk F k=>?_
  rw[hl] at F
  exact⟨.ref _,_,I.laid (t':=tk) (o:=.set (Kh ns) (qZ ns)) k (NH _) F,rfl,q _ (I.hok.fresh (NH _))⟩
 rcases hq with hq |hq
 ·obtain⟨its,rv,pl,hz⟩:=I.list hq
  exact core rv (L2.ST.Src.list pl.isList)
 ·obtain⟨its,rv,pl,hz⟩:=I.tuple hq
  exact core rv (L2.ST.Src.tuple pl)
def AE:cB X (.builtin "len") (λxs H Q=>∃S f n,xs= [.ref S]/\H S=some (.set f n)/\Q (.int n) H):=by
 intro pins s σ H xs us Q I r h
 obtain⟨S,f,n,rfl,hS,q⟩:=h
 obtain⟨u,rfl,rx⟩:=vals1 r
 cases rx
 obtain⟨o,es,ep,t,ho,hex,hd,_,_,hb,hf,e⟩:s.heap.SetOf (intKind X.prog X.w) S f n:=I.hok _ _ hS
 refine call_len_set ho hex hd hf (by unfold scanBound at hb;omega) ⟨.int n,H,I.tok _,⟨_,by rw[e]⟩,q⟩
def o9 (d:D):Option D:=match j9 d with
 |some ds=>(match gr ds with
  |some ns=>if ns.length<=1000 then some (.int (qZ ns)) else none
  |none=>none)
 |none=>none
theorem cc.intsB :∀{ns:List Int} {xs:List V},cc K G xs (ns.map int)->xs=ns.map V.int
 | [],_,.nil=>rfl
 |n :: ns,_,.cons r t=>by cases r;rw[cc.intsB t];rfl
variable {Γ:Fx}{e a b c:Expr}{f fa fb fc:VF D}{L La Lb:List Nat}{md ma mb mc:Md}{pos:Pos}
theorem AV {p1 p2 pos2:Pos}(hc:X.calm=true)(hK:X.K=Γ.K)(hg:Gl X "len")(hm:X.mg "len"=none)(hg2:Gl X "set")(hm2:X.mg "set"=none)(ha:SE X Γ E a fa La ma)
  (he:starEach [a] X.env=(false,eval a X.env) :: starEach [] X.env:=by rfl)
  (he2:starEach [.Call (.Name "set" p2) [a] [] pos2] X.env=(false,eval (.Call (.Name "set" p2) [a] [] pos2) X.env) :: starEach [] X.env:=by rfl) :
  SE X Γ E (.Call (.Name "len" p1) [.Call (.Name "set" p2) [a] [] pos2] [] pos) (f1 fa o9) La .v:=by
 refine PE.post' (bu AE hg hm (by decide +kernel) (ak (gZ (Bz hc) hg2 hm2 (by decide +kernel) (ak ha aN he) (by decide) (by decide) he) aN he2) (by decide) (by decide) he2) λσ H Q ⟨env,G,B,β,I,o⟩=>?_
 refine iD (r:=λx H1 Q=>GK X.K [x] H1 λy H2=>∃S f n,[y]= [V.ref S]/\H2 S=some (.set f n)/\Q (.int n) H2) ?_ I o
 intro B G H x dx d Q s hB bx e k
 rw[hK]
 unfold o9 at e
 cases q:j9 dx with
 |none=>rw[q] at e;cases e
 |some ds=>
  rw[q] at e
  dsimp only at e
  cases q2:gr ds with
  |none=>rw[q2] at e;cases e
  |some ns=>
   rw[q2] at e
   dsimp only at e
   split at e
   ·rename_i hz
    cases e
    obtain⟨p,xs,rfl,hq,r⟩:=bx.seq q s
    rw[kL q2] at r
    have r:=r.intsB
    subst r
    exact⟨p,ns,rfl,hq,hz,λS hS=>⟨S,_,_,rfl,au,k _ _ _ (Ext.own s hS) (.int _)⟩⟩
   ·cases e
def sortI (ns:List Int):List Int:=ns.mergeSort λa b=>decide (a<=b)
def sortI_perm (ns:List Int):(sortI ns).Perm ns:=List.mergeSort_perm ..
def Dl (ns:List Int):(sortI ns).Pairwise (· <= ·):=by
 have:=List.pairwise_mergeSort (le:=λa b:Int=>decide (a<=b)) (λa b c h1 h2=>by simp only[N4] at *;omega) (λa b=>by simp only[Qq,N4];omega) ns
 exact this.imp λh=>by simpa using h
def lG (h:ms.Perm ns)(h2:ms.Pairwise (· <= ·)):ms=sortI ns:=
 List.Perm.eq_of_pairwise (le:=(· <= ·)) (λa b _ _ h1 h2=>by omega) h2 (Dl ns) (h.trans (sortI_perm ns).symm)
def IA (K:Frag):List V->Hp->VK->Prop:=λxs H Q=>∃a ns,xs= [.ref a]/\fj K H a (ns.map V.int)/\ns.length < 64/\∀l,H l=none->Q (.ref l) (upd H l (.lst ((sortI ns).map V.int)))
theorem tT:∀{us:List Value} {ns:List Int},IntsAre us ns->Vals (ns.map V.int) us
 |_,_,.nil=>.nil
 |_,_,.cons n t hr=>.cons ⟨t,rfl⟩ (tT hr)
def yU:cB X (.builtin "sorted") (IA X.K):=by
 intro pins s σ H xs us Q I r h
 obtain⟨a,ns,rfl,hq,hl,q⟩:=h
 obtain⟨u,rfl,rx⟩:=vals1 r
 cases rx
 obtain⟨its,rv,pl,hz⟩:=I.list hq
 have hil:its.length=ns.length:=by rw[<-rv.length,NM]
 refine sorted_ints pl.isList (intsAre_of rv) (by omega) λout ns' a1 a2 a3=>?_
 obtain rfl:=lG a2 a3
 obtain⟨c,he⟩:=sortedAll_at s.heap its out
 have hf:H (s.heap.objs.size + 1)=none:=I.hok.fresh (PV _)
 have hz':((sortI ns).map V.int).length<=sizeLine:=by
  have:=a2.length_eq
  rw[NM,N8];omega
 have I2:Inv X pins σ (upd H (s.heap.objs.size + 1) (.lst ((sortI ns).map V.int))) {s with heap:=sortedAll s.heap its out,toks:=s.toks}:=I.laid (t':=s.toks) (λ_ _=>sortedAll_old) (PV _) (show bN X.prog X.w _ _ _ (.lst ((sortI ns).map V.int)) from⟨hz',out.toList,c,tT a1,he⟩)
 exact⟨.ref _,_,I2,rfl,q _ hf⟩
end
end L2
namespace L2
open PySem
section
variable {K:Frag}{h:Heap}{mg:Str->Option Value}
theorem xA {α:Type}{P:List α->Prop}(q:∀a,P [a]):∀us:List α,us.length=1->P us
 | [a],_=>q a
theorem ln2 {α:Type}{P:List α->Prop}(q:∀a b,P [a,b]):∀us:List α,us.length=2->P us
 | [a,b],_=>q a b
theorem Nw {α:Type}{P:List α->Prop}(q:∀a b c,P [a,b,c]):∀us:List α,us.length=3->P us
 | [a,b,c],_=>q a b c
theorem Nr {α:Type}{P:List α->Prop}(q:∀a b c d,P [a,b,c,d]):∀us:List α,us.length=4->P us
 | [a,b,c,d],_=>q a b c d
def bc (x:Str)(st:Stmt)(ps:List Str):Prop:=∀(kV doc pm:Value) (an:Option Addr) (cdv ct:Value) (us:List Value),us.length=ps.length->bindArgs (PySem.W.fnOf x x (iJ st) (bX st) (av st) .none kV doc pm an cdv ct) ⟨us,[]⟩=pure (ps.zip us)
structure Fo (K:Frag)(mg:Str->Option Value)(x:Str)(st:Stmt)(ps:List Str):Prop where
 ex:∃f fd,jJ K mg x st ps f fd
def bK {st:Stmt}{oc:Value}{od an:Option Addr}{sl:Array (Option Value)}{kV doc pm cdv ct:Value}(X:K.In h)(G:h.Ns mainGlobals mg)(b:bc x st ps)(a:PySem.W.nsIn K mainGlobals x=some (some (.ref f)))
  (l:K.lookup f=some ⟨oc,od,.func (PySem.W.fnOf x x (iJ st) (bX st) (av st) .none kV doc pm an cdv ct),sl⟩) (c:PySem.W.codeIn K cdv x=true) (k:PySem.W.keepIn K (.ref f)=true):Fo K mg x st ps:=
 ⟨⟨f,_,Ov X G a,yQ l c k,(yQ l c k).binds b⟩⟩
def L8:List Str:=["len","range","enumerate","zip","min","max","sum","abs","sorted","reversed","int","str","bool","list","tuple","dict","set","isinstance","repr","any","all","divmod"]
def L4 (K:Frag):Bool:=L8.all λx=>match PySem.W.nsIn K mainGlobals x with
 |some none=>true
 |_=>false
def Ij (q:L4 K=true)(hx:x∈L8):PySem.W.nsIn K mainGlobals x=some none:=by
 have:=OF.mp q x hx
 split at this
 ·assumption
 ·cases this
def J5 (X:K.In h)(G:h.Ns mainGlobals mg)(q:L4 K=true):j4 mg:=by
 have key:∀{x:Str},x∈L8->mg x=none:=λhx=>PySem.W.mg_none_of X G (Ij q hx)
 constructor <;> exact key (by decide)
end
end L2
namespace L2
open PySem PySem.Spec PyProof.Rows
def EM (hh:A.handled=none)(i:Nat)(hx:xs[i]? =none):Draws prog w A it [it,t] i (λ_ _=>False) (λj h=>j=i/\h.IsListIter it t i/\h.IsList t xs) where
 live:=λ_ _ st=>let ⟨o,ho,_⟩:=st.2.1;⟨o,ho⟩
 frame:=λ_ _ _ st hk=>⟨st.1,st.2.1.at λo e=>hk it (by simp) o e,st.2.2.at λo e=>hk t (by simp) o e⟩
 item:=λj s Q E hi st k=>absurd st.1 (by omega)
 done:=λs Q E st k=>wpAny_nextOf_list_end hh st.2.1 st.2.2 hx k
def HU (K:Frag)(a:Addr):It:=
 ⟨λi H=>∃xs x,fj K H a xs/\xs[i]? =some x,
  λi H v H'=>∃x t,H t=none/\(∀xs,fj K H a xs->xs[i]? =some x)/\v=.ref t/\H'=upd H t (.tup [.int i,x]),
  λi H=>∃xs,fj K H a xs/\xs.length<=i⟩
def AN {h:Heap}{a n:Addr}{i:Nat}{its:Array Value}{b:Addr}(p:h.IsList a its)(q:h.IsListIter n b i):a≠n:=λz=>by
 subst z
 obtain⟨o,e,c,_⟩:=p
 obtain⟨o',e',c',_⟩:=q
 rw[e] at e';cases e'
 rw[c] at c'
 simp at c'
def Bm {a n it:Addr}(p:h.IsList a its)(q:IsEnum h n it i old):n≠a:=λz=>by
 subst z
 obtain⟨o,e,c,_⟩:=p
 rw[q] at e;cases e
 simp at c
def x6 {P:Program}{w:World}{K:Frag}{elts:List Expr}{x1}{pos:Pos}(a:Addr)(n:Nat):Turn P w K (.Tuple elts x1 pos) (HU K a) (rO n) (n + 1)
  (λi h=>(∃old,IsEnum h (n + 1) n i old)/\h.IsListIter n a i) where
 mem:=by simp
 obj:=λi h st c hc=>by
  obtain⟨⟨old,z1⟩,⟨o2,z2,_,d2⟩⟩:=st
  simp only[rO,NI,Oi,O3] at hc
  rcases hc with rfl |rfl
  ·exact⟨_,z1,λv z=>by
    have z':Data.fields _=Data.cell v:=z
    cases z'⟩
  ·exact⟨o2,z2,λv z=>by rw[d2] at z;cases z⟩
 keep:=λi h h' st k=>by
  obtain⟨⟨old,z1⟩,z2⟩:=st
  exact⟨⟨old,k _ (by simp) _ z1⟩,z2.at λo e=>k _ (by simp) o e⟩
 item:=by
  intro X hP hw hK hc i pins s σ H E I hf st hg
  subst hP hw hK
  obtain⟨xs,x,ha,hx⟩:=hg
  obtain⟨its,rv,p,hz⟩:=I.list ha
  have p:s.heap.IsList a its.toArray:=p.isList
  obtain⟨u0,hu0,ru0⟩:=rv.get hx
  obtain⟨⟨old,z1⟩,z2⟩:=st
  have hh:X.A.in1.handled=none:=I.ok.hd hc
  have hlt:i < its.toArray.size:=by
   have:=NV.mp hu0
   simpa using this.1
  refine wpAny_pyNext_enum_itemD (Draws.list hh n a (AN p z2) its.toArray) z1 ⟨z2,p⟩ hlt (JI 1 0 rfl) (by
   simp only[NI,Oi,O3,not_or]
   exact⟨JI 1 0 rfl,Bm p z1⟩) λu h' tk hu q1 q2 q3 q4 q5=>?_
  have eu:u0=u:=by
   have hu:its.toArray[i]? =some u:=hu
   rw[PJ,hu0] at hu
   exact Option.some.inj hu
  subst eu
  refine⟨_,rfl,wpAny_letOwnedTupleGo_enum (s:={s with heap:=h',toks:=tk + 1}) q1 λh2 r1 r2=>?_⟩
  have r2:∀c,c≠n + 1->h2.get? c=h'.get? c:=r2.2
  have lz:n + 1 < s.heap.objs.size:=NO z1
  have hT:H s.heap.objs.size=none:=I.hok.fresh (NH _)
  have I1:Inv X pins σ (upd H s.heap.objs.size (.tup [.int i,x])) {s with heap:=s.heap.push {cls:=.type "tuple",data:=.seq #[.int i tk,u0]},toks:=s.toks}:=
   I.laid (λb o e=>ND _ e) (NH _) ⟨by show 2<=sizeLine;rw[N8];omega,[.int i tk,u0],.cons ⟨tk,rfl⟩ (.cons ru0 .nil),qp.new _ _⟩
  have hf':∀c∈rO n,nI X pins (upd H s.heap.objs.size (.tup [.int i,x])) c:=λc hc=>⟨by
   rw[aB (λz=>?_)]
   ·exact (hf c hc).1
   ·subst z
    simp only[rO,NI,Oi,O3] at hc
    omega,(hf c hc).2⟩
  have I2:Inv X pins σ (upd H s.heap.objs.size (.tup [.int i,x])) {s with heap:=h2,toks:=tk + 1}:=by
   refine I1.turnedL (ch:=rO n) (λc o hc e=>?_) hf'
   have e:(s.heap.push {cls:=.type "tuple",data:=.seq #[.int i tk,u0]}).get? c=some o:=e
   simp only[rO,NI,Oi,O3,not_or] at hc
   rw[r2 c hc.1]
   by_cases z:c=s.heap.objs.size
   ·subst z
    rw[NQ _ rfl] at e
    rw[<-e];exact q3
   ·refine q5 c o hc.1 hc.2 ?_
    rw[Heap.get?_push_ne _ _ _ z] at e
    exact e
  refine⟨.ref s.heap.objs.size,_,I2,rfl,⟨x,_,hT,λxs' h'=>?_,rfl,rfl⟩,⟨⟨u0,r1⟩,q2.1.at λo e=>(r2 _ (JI 0 1 rfl)).trans e⟩,λc hc=>(hf' c hc).1⟩
  rw[I.list_inj h' ha];exact hx
 done:=by
  intro X hP hw hK hc i pins s σ H E I hf st hg
  subst hP hw hK
  obtain⟨xs,ha,hl⟩:=hg
  obtain⟨its,rv,p,hz⟩:=I.list ha
  obtain⟨⟨old,z1⟩,z2⟩:=st
  have hh:X.A.in1.handled=none:=I.ok.hd hc
  have l1:=rv.length
  refine wpAny_pyNext_enum_endD (EM hh i (xs:=its.toArray) (by simp;omega)) z1 ⟨rfl,z2,p.isList⟩ λh' q=>⟨rfl,?_⟩
  refine I.turnedL (t':=s.toks) (ch:=rO n) (λc o hc e=>?_) hf
  simp only[rO,NI,Oi,O3,not_or] at hc
  exact q c o hc.2 e
 self:=λ_ _ _ _ _ st h=>by
  obtain⟨⟨old,z1⟩,_⟩:=st
  exact QB z1 h
def MC (K:Frag)(ta:TA):TI:=λσ H R=>ta σ H λvs H2=>∃a xs,vs= [.ref a]/\fj K H2 a xs/\R (HU K a) H2
section
variable {X:Cx}
theorem HP {a:Expr}{ta:TA}{p pos pt:Pos}{elts:List Expr}{x1}(hg:Gl X "enumerate")(hm:X.mg "enumerate"=none)(ha:PA X [a] ta)(hs:starEach [a] X.env= [(false,eval a X.env)]:=by rfl) :
  PI X (.Tuple elts x1 pt) (.Call (.Name "enumerate" p) [a] [] pos) (MC X.K ta):=by
 intro pins s σ H R I h
 refine Call_ (kH I hg hm sJ (OV (cx (ha pos pins s σ H _ I h) λus s1 ⟨vs,H1,I1,r1,q1⟩=>?_) hs rfl))
 obtain⟨a,xs,e,h1,q⟩:=q1
 subst e
 cases r1 with
 |cons r rr=>
  cases rr
  cases r
  obtain⟨its,rv,p1,hz⟩:=I1.list h1
  refine call_enumerate_list p1.isList λh' z1 z2 _ z3=>?_
  refine QB z1 ⟨_,rO s1.heap.objs.size,_,_,H1,rfl,I1.kept (t':=s1.toks) z3,x6 a s1.heap.objs.size,⟨⟨_,z1⟩,z2⟩,λc hc=>?_,q⟩
  have:s1.heap.objs.size<=c:=by
   simp only[rO,NI,Oi,O3] at hc
   rcases hc with rfl |rfl <;> first |exact NH _ |exact Nat.le_add_right _ _
  exact I1.fpOk this (I1.hok.fresh this)
end
section
variable {X:Cx}{Γ:Fx}{E:XK}{e a b c:Expr}{f fa fb:VF D}{L La Lb:List Nat}{md ma mb:Md}{pos:Pos}
def Kk (fa:VF D):VF (List D):=λvs β=>(fa vs β).bnd λx β1=>match x with
 | .list ds=>.ok (dB ds) β1
 |_=>.bad
def Cj {K:Frag}{B:Option Addr}{G H1:Hp}{p:Addr}{xs:List V}{ds:List D}(hp:∀Gc H,aw G Gc->aw Gc H->iy B H1 H->fj K H p xs)(r:cc K G xs ds):Walk K B G H1 (dB ds) (HU K p):=λGc H i s1 s2 m=>by
 have hp':=hp Gc H s1 s2 m
 have l1:=r.len
 have lz:(dB ds).length=ds.length:=by unfold dB;rw[List.length_mapIdx]
 refine⟨λhi=>⟨?_,λx H' y=>?_⟩,λhi=>⟨xs,hp',by omega⟩⟩
 ·have h1:i < xs.length:=by omega
  exact⟨xs,xs[i],hp',by simp[h1]⟩
 ·obtain⟨x,t,ht,hx,rfl,rfl⟩:=y
  obtain⟨d,ed,rd⟩:=r.at' (hx xs hp')
  have xn:=Ext.new s2 (o:=.tup [.int i,x]) ht
  refine⟨upd Gc t (.tup [.int i,x]),.tuple [.int i,d],xn,?_,.tup (.inl (.inl au)) (.cons (.int i) (.cons (rd.mono (s1.trans xn.gg)) .nil))⟩
  unfold dB
  rw[Qi,ed];rfl
theorem DT {p pt:Pos}{elts:List Expr}{x1}(hK:X.K=Γ.K)(hg:Gl X "enumerate")(hm:X.mg "enumerate"=none)(ha:SE X Γ E a fa La .v)(hs:starEach [a] X.env= [(false,eval a X.env)]:=by rfl)(hs':starEach [a] X.env=(false,eval a X.env) :: starEach [] X.env:=by rfl) :
  SI X Γ E (.Tuple elts x1 pt) (.Call (.Name "enumerate" p) [a] [] pos) (Kk fa) La .v:=by
 refine PI.post (HP hg hm (ak ha aN hs') hs) ?_
 rintro σ H Q ⟨env,G,B,β,I,o⟩
 refine⟨env,G,B,β,I,o.bnd.imp λd1 β1 h x G1 H1 I1 s1 m1 vx=>?_⟩
 have vx:Rp Γ.K G1 x d1:=vx
 rw[hK]
 cases d1 with
 |list ds=>
  cases vx with
  | @lst p xs _ hq r=>exact⟨p,xs,rfl,.inl (Rd.mono (.inl hq) I1.sub),h _ G1 H1 I1 s1 m1 (Cj (λGc H t1 t2 _=>.inl (Rd.mono (.inl hq) (t1.trans t2))) r)⟩
 |_=>exact h.elim
end
end L2
namespace L2
open PySem PyProof.Rows
section
variable {X:Cx}{K:Frag}{pins:List V}{σ:St}{H:Hp}{s:Shared}{E:XK}
theorem qM:∀{us:List Value} {ns:List Int},IntsAre us ns->∃xs:List (Int×Tok),us=xs.map (λp=>Value.int p.1 p.2)/\xs.map (·.1)=ns
 |_,_,.nil=>⟨[],rfl,rfl⟩
 |_,_,.cons n t hr=>by
  obtain⟨xs,e1,e2⟩:=qM hr
  exact⟨(n,t) :: xs,by rw[e1];rfl,by rw[<-e2];rfl⟩
def CA (h:IntsAre us ns):∃xs:Array (Int×Tok),us.toArray=intItems xs/\(∀i,numAt xs i=ns.getD i 0)/\xs.size=ns.length:=by
 obtain⟨xs,e1,e2⟩:=qM h
 refine⟨xs.toArray,?_,λi=>?_,?_⟩
 ·rw[e1,intItems,List.map_toArray]
 ·rw[numAt_eq];show ((xs.map (·.1)).getD i 0)=_;rw[e2]
 ·rw[<-e2];simp
end
end L2
section
namespace HT
open PySem PySem.Spec PyProof.Rows
section
variable {prog:Program}{w:World}{A:Around}{E:Value->Shared->Prop}{s:Shared}
def lu {t sl:Addr}{items:Array Value}{vl vu:Value}{lo hi:Option Int}{Q:Value->Shared->Prop}(ht:IsTup s.heap t items)(hs:s.heap.IsSliceOf sl vl vu .none)(pl:IsPart vl lo)(pu:IsPart vu hi)
  (hw:dw items.size 0 lo=0/\dw items.size items.size hi=items.size) (h:Q (.ref t) s):wpAny (model prog w) A (getItem (.ref t) (.ref sl)) Q E s:=by
 obtain⟨os,hos,hcs,hds⟩:=id hs
 have hTs:s.TypeIs (.ref sl) "slice":=⟨os,hos,hcs⟩
 unfold getItem
 try with_reducible refine OS ?_
 first |refine NA (NF ?_) |skip
 refine NA (wpAny_sequenceKey ht.typeIs (by decide) ?_)
 refine NA (Pu (name:=Str.ofString "__getitem__") ht.typeIs OJ
  (O1 OJ ht.typeIs entry_tuple_getitem ?_ (args_tuple_getitem _ _)))
 show wpAny _ _ (Builtin.Tuple.tupleItemsOf (.ref t) >>= _) _ _ s
 refine NA (tupleItemsOf_ ht ?_)
 refine NA (PZ hTs ?_)
 rw[NG (by decide)]
 refine NA (jm hs pl pu ?_)
 rw[hw.1,hw.2]
 show wpAny _ _ (if (((0:Nat):Int) == 0 && (1:Int) == 1 && (items.size - 0) == items.size)=true then _ else _) _ _ s
 rw[NG (by simp)]
 refine NA ?_
 unfold Builtin.Tuple.tupleIsExact
 first
  |refine NA (PZ ht.typeIs (NF ?_))
  |refine NA (PZ ht.typeIs ?_)
 first |rw[NG (by decide)] |skip
 first
  |exact NA (wpAny_rule (NF ⟨_,rfl,NF h⟩))
  |exact NA (NA (wpAny_rule (NF ⟨_,rfl,NF h⟩)))
end
end HT
namespace L2
open PySem PySem.Spec PyProof.Rows
section
variable {X:Cx}{Γ:Fx}{E:XK}{e a b c:Expr}{f fa fb fc:VF D}{L La Lb:List Nat}{md ma mb mc:Md}{pos:Pos}
def MD (K:Frag):V->Option Int->Option Int->Hp->VK->Prop:=λx lo hi H Q=>∃a xs,x=.ref a/\dU K H a xs/\
 ((HT.dw xs.length 0 lo=0/\HT.dw xs.length xs.length hi=xs.length)->Q (.ref a) H)/\
 (¬(HT.dw xs.length 0 lo=0/\HT.dw xs.length xs.length hi=xs.length)->∀p,H p=none->Q (.ref p) (upd H p (.tup (rL xs lo hi))))
def EY:Lr X (MD X.K):=by
 intro pins s σ H x v vl vu lo hi sl Q I rx hs pl pu h
 obtain⟨a,xs,rfl,hx,hw,q⟩:=h
 by_cases z:HT.dw xs.length 0 lo=0/\HT.dw xs.length xs.length hi=xs.length
 ·have hw:=hw z
  cases rx
  obtain⟨its,r,ht,hz⟩:=I.tuple hx
  have hlen:its.toArray.size=xs.length:=by rw[NS];exact r.length.symm
  refine⟨"tuple",_,OJ.lookup,ht.typeIs,?_⟩
  exact HT.lu ht hs pl pu (by rw[hlen];exact z) ⟨.ref a,H,I,rfl,hw⟩
 ·exact Hw pins s σ H (.ref a) v vl vu lo hi sl Q I rx hs pl pu ⟨a,xs,rfl,hx,z,q z⟩
def tm (fa:VF D)(fl fh:VF (Option Int)):VF D:=λvs β=>(fa vs β).bnd λx β1=>(fl vs β1).bnd λl β2=>(fh vs β2).bnd λh β3=>match x with
 | .tuple ds=>.ok (.tuple (cutD ds l h)) β3
 |_=>.bad
def xH {ds:List D}{lo hi:Option Int}(h:HT.dw ds.length 0 lo=0/\HT.dw ds.length ds.length hi=ds.length):cutD ds lo hi=ds:=by
 unfold cutD;rw[h.1,h.2];simp
theorem nF {lo hi:Option Expr}{fl fh:VF (Option Int)}{Ll Lh:List Nat}{p2:Pos}(hK:X.K=Γ.K)(ha:SE X Γ E a fa La ma)(hl:LF X Γ E lo fl Ll)(hh:LF X Γ E hi fh Lh):SE X Γ E (.Subscript a (.Slice lo hi none p2) pos) (tm fa fl fh) (La ++ Ll ++ Lh) .v:=by
 refine PE.post' (CH EY ha hl hh) ?_
 rintro σ H Q ⟨env,G,B,β,I,o⟩
 refine⟨env,G,B,β,I,o.bnd.imp λd1 β1 h x G1 H1 I1 s1 m1 vx=>⟨bt La env,G1,B,β1,I1,?_⟩⟩
 rw[fg]
 refine h.bnd.imp λl β2 h G2 H2 I2 s2 m2=>⟨bt Ll (bt La env),G2,B,β2,I2,?_⟩
 rw[fg,fg]
 refine h.bnd.imp λu β3 h G3 H3 I3 s3 m3=>?_
 rw[<-cw,<-cw,<-Pp] at I3
 have bx:=((vx.brw I.boxThere).mono s2 m2).mono s3 m3
 cases d1 with
 |tuple ds=>
  obtain⟨p,xs,rfl,hq,r⟩:=bx.tuple I3.sub
  rw[hK]
  dsimp only at h
  refine⟨p,xs,rfl,hq,λz=>?_,λhw q hn=>?_⟩
  ·rw[r.len] at z
   rw[xH z] at h
   refine h _ _ _ I3 ((s1.trans s2).trans s3) ((m1.trans m2).trans m3) ?_
   rcases bx with bx | ⟨_,_,_,bx⟩
   ·exact bx
   ·exact bx.elim
  ·have x:=Ext.new I3.sub (o:=.tup (rL xs l u)) hn
   exact h _ _ _ (I3.ext x) (((s1.trans s2).trans s3).trans x.gg) (((m1.trans m2).trans m3).trans (x.mov B)) (.tup (.inl (.inl au)) ((FU r l u).mono x.gg))
 |_=>exact h.elim
end
end L2
end
namespace L2
open PySem PyProof.Rows
section
variable {X:Cx}{Γ:Fx}{E:XK}{pos:Pos}
def EX:SE X Γ E (.Dict [] [] pos) (cst (.dict [])) [] .v:=by
 refine PE.post' CT ?_
 rintro σ H Q ⟨env,G,B,β,I,o⟩ p hp
 have o:∀v G' H',SR Γ B G' H' σ (bt [] env) β->aw G G'->iy B H H'->Rp Γ.K G' v (.dict [])->Q v H':=o
 have xn:=Ext.new I.sub (o:=.dK []) hp
 exact o _ _ _ (I.ext xn) xn.gg (xn.hh.mov B) (.dK (kvs:=[]) au .nil)
end
end L2
section
namespace PyProof.Rows
open PySem PySem.Spec PySem.Calls
section
variable {prog:Program}{w:World}{A:Around}{E:Value->Shared->Prop}{s:Shared}
def pM {Q:List Value->Shared->Prop}(hl:s.heap.IsTuple l vs.toArray)
  (h:Q vs {s with heap:=(s.heap.push (seqObj "list" #[] 0)).update s.heap.objs.size (Obj.mapSeq (· ++ vs.toArray))}) (hsz:vs.length<=sizeLine) :
  wpAny (model prog w) A (collect (.ref l)) Q E s:=by
 obtain⟨o,ho,hc,n,hd⟩:=id hl
 unfold collect
 refine NA (wpAny_runValue (O9 entry_proto_collect' ?_))
 show wpAny _ _ (do again (.builtin "list.__iadd__" ⟨[<-newList [],.ref l],[]⟩)) _ _ s
 refine NA (wpAny_newList (NF ⟨Code.quiet_builtin _ (by decide +kernel),O9 entry_list_iadd' ?_⟩))
 show wpAny _ _ (Builtin.List.listExtendWith (.ref s.heap.objs.size) (.ref l) (.ref s.heap.objs.size)) _ _ {s with heap:=s.heap.push (seqObj "list" #[] 0)}
 unfold Builtin.List.listExtendWith
 have ho':(s.heap.push (seqObj "list" #[] 0)).get? l=some o:=ND _ ho
 refine NA (PZ (T:="tuple") ⟨o,ho',hc⟩ ?_)
 have ht:(Value.type "tuple" == Value.type "tuple")=true:=by rfl
 rw[NG (by rw[ht,Bool.or_true])]
 refine NA (listItems_at ho' hd ?_)
 refine NA (listItems_at (xs:=#[]) (n:=0) (NQ _ rfl) rfl ?_)
 rw[NL (by simp)]
 refine NA (listUpdate_at (xs:=#[]) (n:=0) (NQ _ rfl) rfl ?_ (Oh _) (by show (#[] ++ vs.toArray).size<=sizeLine + 1;simp only[Array.size_append,NS,Qn];omega))
 refine NF ?_
 show wpAny (model prog w) A (do
   let o <-load s.heap.objs.size
   match o.data with
   | .seq xs _=>pure xs.toList
   |_=>unsupported "internal:collect") Q E {s with heap:=(s.heap.push (seqObj "list" #[] 0)).update s.heap.objs.size (Obj.mapSeq (· ++ vs.toArray))}
 refine NA (wpAny_load (get?_update_seq (NQ _ rfl) _) ?_)
 show wpAny _ _ (pure ((#[]:Array Value) ++ vs.toArray).toList) Q E _
 rw[show ((#[]:Array Value) ++ vs.toArray).toList=vs by simp]
 exact NF h
def uJ {Q:Value->Shared->Prop}(hl:s.heap.IsTuple l vs.toArray)(hI:IntsAre vs ns)(h64:vs.length < 64)
  (h:∀(out:Array Value) (ns':List Int),IntsAre out.toList ns'->ns'.Perm ns->ns'.Pairwise (· <= ·)->Q (.ref (s.heap.objs.size + 1)) {s with heap:=sortedAll s.heap vs out}) :
  wpAny (model prog w) A (call (.builtin "sorted") [.ref l]) Q E s:=by
 refine Calls.call_function_entry kind_sorted plain_sorted entry_sorted (args_sorted1 _) ?_
 unfold Builtin.«sorted»
 refine NA (m:=checkCount "sorted" 1 1 _) (NF ?_)
 refine NA (pM hl ?_ (by rw[N8];omega))
 refine NA (wpAny_newList ?_)
 have hsz:((s.heap.push (seqObj "list" #[] 0)).update s.heap.objs.size (Obj.mapSeq (· ++ vs.toArray))).objs.size=s.heap.objs.size + 1:=by
  rw[Heap.size_update,size_push']
 have hoL:(((s.heap.push (seqObj "list" #[] 0)).update s.heap.objs.size (Obj.mapSeq (· ++ vs.toArray))).push (seqObj "list" vs.toArray 0)).get? (s.heap.objs.size + 1)=some (seqObj "list" vs.toArray 0):=by
  rw[<-hsz];exact NQ _ rfl
 show wpAny _ _ _ _ _ {s with heap:=((s.heap.push (seqObj "list" #[] 0)).update s.heap.objs.size (Obj.mapSeq (· ++ vs.toArray))).push (seqObj "list" vs.toArray 0)}
 rw[hsz]
 refine NA (OS (O1 slot_list_sort ⟨_,hoL,rfl⟩ entry_list_sort (list_sort_tree hoL hI h64 λout ns' a1 a2 a3=>⟨_,rfl,?_⟩) (args_list_sort _)))
 exact NF ⟨_,rfl,h out ns' a1 a2 a3⟩
end
end PyProof.Rows
namespace L2
open PySem PyProof.Rows
section
variable {X:Cx}{K:Frag}{pins:List V}{σ:St}{H:Hp}{s:Shared}{E:XK}
def BZ (K:Frag):List V->Hp->VK->Prop:=λxs H Q=>∃a ns,xs= [.ref a]/\(fj K H a (ns.map V.int)\/dU K H a (ns.map V.int))/\ns.length < 64/\∀l,H l=none->Q (.ref l) (upd H l (.lst ((sortI ns).map V.int)))
def yM:cB X (.builtin "sorted") (BZ X.K):=by
 intro pins s σ H xs us Q I r h
 obtain⟨a,ns,rfl,hq,hl,q⟩:=h
 rcases hq with hq |hq
 ·exact yU pins s σ H [.ref a] us Q I r ⟨a,ns,rfl,hq,hl,q⟩
 obtain⟨u,rfl,rx⟩:=vals1 r
 cases rx
 obtain⟨its,rv,pl,hz⟩:=I.tuple hq
 have hil:its.length=ns.length:=by rw[<-rv.length,NM]
 refine uJ pl (intsAre_of rv) (by omega) λout ns' a1 a2 a3=>?_
 obtain rfl:=lG a2 a3
 obtain⟨c,he⟩:=sortedAll_at s.heap its out
 have hf:H (s.heap.objs.size + 1)=none:=I.hok.fresh (PV _)
 have hz':((sortI ns).map V.int).length<=sizeLine:=by
  have:=a2.length_eq
  rw[NM,N8];omega
 have I2:Inv X pins σ (upd H (s.heap.objs.size + 1) (.lst ((sortI ns).map V.int))) {s with heap:=sortedAll s.heap its out,toks:=s.toks}:=I.laid (t':=s.toks) (λ_ _=>sortedAll_old) (PV _) (show bN X.prog X.w _ _ _ (.lst ((sortI ns).map V.int)) from⟨hz',out.toList,c,tT a1,he⟩)
 exact⟨.ref _,_,I2,rfl,q _ hf⟩
def qN (d:D):Option D:=match j9 d with
 |some ds=>(match gr ds with
  |some ns=>if ns.length < 64 then some (.list ((sortI ns).map int)) else none
  |none=>none)
 |_=>none
theorem E7:BH K (λx=>BZ K [x]) qN .w:=by
 intro B G H x dx d Q s hB bx e k
 unfold qN at e
 cases q:j9 dx with
 |none=>rw[q] at e;cases e
 |some ds=>
  rw[q] at e
  dsimp only at e
  cases q2:gr ds with
  |none=>rw[q2] at e;cases e
  |some ns=>
   rw[q2] at e
   dsimp only at e
   split at e
   ·rename_i hz
    cases e
    obtain⟨p,xs,rfl,hq,r⟩:=bx.seq q s
    rw[kL q2] at r
    have r:=r.intsB
    subst r
    refine⟨p,ns,rfl,hq,hz,λl hl=>?_⟩
    have hh:aw H (upd H l (.lst ((sortI ns).map V.int))):=aw.new hl
    refine k _ _ _ (Ext.tups s hh) ⟨l,rfl,hl,?_,_,au,cc.ints _⟩
    unfold ml
    rw[s.free hl,au]
    exact NL λy=>y
   ·cases e
end
end L2
end
namespace RM
open PySem L2
def l7:SF:=(cf (iz (f1 (gv 0) (jd "int")) (f1 (f1 (gv 0) (jd "bool")) Ar)))
def jQ (aG:List D->Int->FB):SF:=(aJ (a7 1 ([] ++ ([] ++ ([] ++ ([] ++ ([] ++ ([] ++ ([] ++ ([] ++ ([] ++ ([] ++ (([] ++ []) ++ (([] ++ ([] ++ [])) ++ (([] ++ []) ++ []))))))))))))) (bC (aa (cst .none) (aa (cst (.bool true)) (aa (cst (.bool false)) (aa (cst (.int (-1))) (aa (cst (.int 0)) (aa (cst (.int 1)) (aa (cst (.str "")) (aa (cst (.str "1")) (aa (cv ag) (aa (bC ag) (aa (cv (aa (cst (.int 0)) ag)) (aa (cv (aa (cst (.int 1)) (aa (cv ag) ag))) (aa (bC (aa (cst (.int 0)) ag)) ag)))))))))))))))
 (aJ (a7 1 ([] ++ ([] ++ (([] ++ ([] ++ [])) ++ ([] ++ ((([] ++ ([] ++ [])) ++ []) ++ ([] ++ [])))))) (f2 (gv 1) (bC (aa (cst (.dict [(.str "a",.int 1)])) (aa (cv (aa (cst (.int 0)) (aa (cst (.int 1)) ag))) (aa (f2 (cst (.int 10)) (cst (.int 39)) AF) (aa (cv (aa (cv (aa (cst (.int 0)) (aa (cst (.int 1)) ag))) ag)) (aa (cst (.str "a")) ag)))))) jb))
 (cf (f2 (gv 1) (lq 0 aG (aa (cst (.int 18)) ag)) bV))))
def kU (bg:List D->FR):SF:=(aJ (lx ([] ++ ([] ++ [])) (oS (uX (oQ (f1 (gv 0) (jd "tuple")))) (dh (f2 (f1 (gv 0) cR) (gv 1) (dX true))))
 (cf (cst (.bool false)))
 nt)
 (cf (iz (f1 (bh 1 [1] (.nm 0) (bR (gv 0)) oH (az bg (aa (gv 0) (aa (gv 1) ag)))) (dH λbs=>bs.all id)) (f2 (f1 (gv 0) o9) (gv 1) (dX false)))))
def nh:SF:=(aJ (j6 1 (([] ++ []) ++ []) (f2 (bC (aa (cst (.int 0)) ag)) (f1 (gv 0) cR) oN))
 (aJ (di (.two 2 3) [] (BY (gv 0))
 (mD 1 [2] [] (gv 2) (gv 3)))
 (l5 1)))
def fL (gP i8:List D->FR):SF:=(aJ (lx ([0] ++ (([] ++ []) ++ [])) (uX (oQ (az gP (aa (gv 0) (aa (f2 (gv 1) (cst (.int 0)) bV) ag)))))
 (cf (cst (.bool false)))
 nt)
 (aJ (a7 2 ([0] ++ []) (az i8 (aa (gv 0) ag)))
 (cf (f1 (bh 2 [2] (.two 0 1) (bR (f2 (gv 1) (cst (.int 1)) bV)) oH (f2 (f2 (gv 2) (gv 0) bV) (f2 (gv 2) (gv 1) bV) xc)) (dH λbs=>bs.all id)))))
def iO:SF:=(cf (f2 (bh 2 [1] (.two 0 1) (bR (f2 (gv 0) (cst (.int 1)) bV)) (dh (f2 (yO (gv 2) (gv 0)) (yO (gv 2) (gv 1)) MV)) (cst (.int 1))) (bC ag) (dX false)))
noncomputable def fK (cY:List D->FR):SF:=(aJ (lx ([] ++ (([] ++ []) ++ ([] ++ []))) (oS (uX (oQ (f1 (gv 0) (jd "tuple")))) (oS (dh (f2 (f1 (gv 0) cR) (gv 1) (dX true))) (uX (oQ (f1 (bh 1 [] (.nm 0) (bR (gv 0)) oH (az cY (aa (gv 0) ag))) (dH λbs=>bs.all id))))))
 (cf (cst (.bool false)))
 nt)
 (cf (f2 (f1 (gv 0) qN) (f1 (gv 1) eN) (dX false))))
def jC (aG:List D->Int->FB):SF:=(aJ (a7 2 [] (cv ag))
 (aJ (hX ([] ++ ([] ++ [])) (dh (f2 (f1 (gv 2) cR) (f2 (gv 1) (cst (.int 0)) bV) xc))
 (aJ (j6 3 [] (bC ag))
 (aJ (di (.nm 4) ([] ++ []) (kC (f2 (gv 1) (cst (.int 0)) bV))
 (aJ (a7 5 (([] ++ []) ++ []) (bh 2 [4,2] (.two 0 1) (bR (f2 (gv 1) (cst (.int 1)) bV)) (zX (dh (f2 (gv 1) (gv 2) (dX false))) (dh (f2 (gv 0) (gv 3) (Ey true)))) (gv 0)))
 (lx (([] ++ []) ++ ([] ++ [])) (zX (dh (f2 (gv 4) (gv 2) (Ey true))) (dh (f2 (gv 5) (bC ag) (dX false))))
 (l0 3 [4] (gv 4))
 nt)))
 (a7 2 ([] ++ (([] ++ ([] ++ [])) ++ [])) (f2 (gv 2) (cv (aa (f2 (gv 3) (lq 0 aG (aa (f1 (gv 3) cR) ag)) bV) ag)) lF)))) 1000)
 (l5 2)))
def gM:SF:=(cf (f2 (gv 0) (f2 (cst (.int 1)) (gv 1) xE) Nd))
def fQ (ay:List D->FR):SF:=(aJ (j6 1 (([] ++ []) ++ ([] ++ [])) (f2 (bC (aa (cst (.int 0)) ag)) (f2 (gv 0) (cst (.int 0)) bV) oN))
 (aJ (di (.two 2 3) ([] ++ []) (bR (f2 (gv 0) (cst (.int 1)) bV))
 (mD 1 (([] ++ []) ++ ([2] ++ [])) [] (az ay (aa (f2 (gv 1) (gv 3) bV) (aa (gv 2) ag))) (gv 3)))
 (l5 1)))
def fN (ay:List D->FR):SF:=(aJ (j6 2 [] (bC ag))
 (aJ (di (.two 3 4) [0] (Kk (gv 0))
 (lx ((([1] ++ ([3] ++ [])) ++ []) ++ (([] ++ []) ++ [])) (zX (dh (f2 (az ay (aa (gv 1) (aa (gv 3) ag))) (gv 1) (dX true))) (dh (f2 (f2 (gv 1) (gv 4) Cr) (gv 4) (dX false))))
 (l0 2 [3] (gv 3))
 nt))
 (l5 2)))
end RM
namespace L2
open PySem PySem.Spec PyProof.Rows
section
variable {X:Cx}{tg:Expr}
def KW (lo:Int)(n:Nat):It:=⟨λi _=>i < n,λi H x H'=>H'=H/\x=.int (lo - i),λi _=>n<=i⟩
def wY {P:Program}{w:World}{K:Frag}{tg:Expr}(it:Addr)(lo:Int)(n:Nat):Turn P w K tg (KW lo n) [it] it (λi h=>IsRangeIter h it (lo + (i:Nat) * (-1)) ((n:Int) - (i:Nat)) (-1)) where
 mem:=by simp
 obj:=λi h st b hb=>by
  have e:b=it:=by simpa using hb
  subst e
  exact⟨_,st,λv z=>by
   have z':Data.fields _=Data.cell v:=z
   cases z'⟩
 keep:=λi h h' st k=>k it (by simp) _ st
 item:=by
  intro X hP hw hK hc i pins s σ H E I hf st hg
  subst hP hw hK
  obtain⟨f0,f1,f2,f3,f4,f5⟩:=hf it (by simp)
  have W:=Walks.range (prog:=X.prog) (w:=X.w) (I.ok.hd hc) it lo (-1) n
  refine W.item i s _ _ hg st λv h' tk hv st' kk=>?_
  obtain⟨t,rfl⟩:=hv
  have I1:Inv X pins σ H {s with heap:=h',toks:=tk}:=I.turned (λb o hb e=>kk b o (by simpa using hb) e) f0 f1 f3 f4 f5
  refine⟨_,rfl,Aa (s:={s with heap:=h',toks:=tk}) (n:="range_iterator") st' rfl rfl (by decide) ⟨.int (lo - i),H,I1,⟨t,?_⟩,⟨rfl,rfl⟩,st',λb hb=>(hf b hb).1⟩⟩
  rw[show lo + (i:Int) * (-1)=lo - i by omega]
 done:=by
  intro X hP hw hK hc i pins s σ H E I hf st hg
  subst hP hw hK
  obtain⟨f0,f1,f2,f3,f4,f5⟩:=hf it (by simp)
  exact wpAny_pyNext_range_end (I.ok.hd hc) st (by have:n<=i:=hg;omega) λh' eb=>⟨rfl,I.turned (t':=s.toks) (λb o hb e=>eb b o hb e) f0 f1 f3 f4 f5⟩
 self:=λ_ _ _ _ _ st h=>wpAny_pyIter_rangeiter st h
def BE {pins:List (Addr×Obj)}{σ:St}{H:Hp}{s:Shared}{R:It->Hp->Prop}{E:Value->Shared->Prop}{lo hi:Int}{t u v:Tok}{tk:Nat}(I:Inv X pins σ H s)(h1: -(2 ^ 62)<=lo)(h2:lo < 2 ^ 62)(h3: -(2 ^ 62)<=hi)(h4:hi < 2 ^ 62)
  (q:R (KW lo (lo - hi).toNat) H):wpAny (model X.prog X.w) X.A (pyIter (.ref s.heap.objs.size)) (LN X pins σ tg R) E {s with heap:=s.heap.push {cls:=.type "range",data:=.fields #[.int lo t,.int hi u,.int (-1) v]},toks:=tk}:=by
 refine wpAny_pyIter_range (IsRange.new ..) (PySem.W.small_down h1 h2 h3 h4) ?_
 have I1:Inv X pins σ H {s with heap:=s.heap.push {cls:=.type "range",data:=.fields #[.int lo t,.int hi u,.int (-1) v]},toks:=tk}:=I.kept λb o e=>ND _ e
 refine⟨(s.heap.push {cls:=.type "range",data:=.fields #[.int lo t,.int hi u,.int (-1) v]}).objs.size,[(s.heap.push {cls:=.type "range",data:=.fields #[.int lo t,.int hi u,.int (-1) v]}).objs.size],_,_,H,rfl,
  I1.kept (t':=tk) λb o e=>ND _ e,wY _ lo (lo - hi).toNat,?_,λb hb=>?_,q⟩
 ·have e1:lo + ((0:Nat):Int) * (-1)=lo:=by simp
  have e2:(((lo - hi).toNat:Nat):Int) - ((0:Nat):Int)=Builtin.Range.rangeSize lo hi (-1):=by rw[PySem.W.rangeSize_downNat];omega
  show IsRangeIter _ _ (lo + ((0:Nat):Int) * (-1)) ((((lo - hi).toNat:Nat):Int) - ((0:Nat):Int)) (-1)
  rw[e1,e2]
  exact NQ _ rfl
 ·have e:b=(s.heap.push {cls:=.type "range",data:=.fields #[.int lo t,.int hi u,.int (-1) v]}).objs.size:=by simpa using hb
  subst e
  exact I1.fpOk (NH _) (I1.hok.fresh (NH _))
def JT (ta:TA):TI:=λσ H R=>ta σ H λvs H1=>∃i j:Int,vs= [.int i,.int j,.int (-1)]/\(-(2 ^ 62)<=i/\i < 2 ^ 62/\ -(2 ^ 62)<=j/\j < 2 ^ 62)/\R (KW i (i - j).toNat) H1
theorem Ay {a b c:Expr}{p pos:Pos}(hg:Gl X "range")(hm:X.mg "range"=none)(ha:PA X [a,b,c] ta)(hs:starEach [a,b,c] X.env= [(false,eval a X.env),(false,eval b X.env),(false,eval c X.env)]:=by rfl)(hs2:starEach [b,c] X.env= [(false,eval b X.env),(false,eval c X.env)]:=by rfl) :
  PI X tg (.Call (.Name "range" p) [a,b,c] [] pos) (JT ta):=by
 intro pins s σ H R I h
 refine Call_ (kH I hg hm boot_range (OV (cx (ha pos pins s σ H _ I h) λus s1 ⟨vs,H1,I1,r1,q1⟩=>?_) (by rw[hs,hs2]) (by rw[hs2];rfl)))
 obtain⟨i,j,e,⟨q1,q2,q3,q4⟩,q⟩:=q1
 subst e
 cases r1 with
 |cons r rr=>
  cases rr with
  |cons r' rr=>
   cases rr with
   |cons r'' rr=>
    cases rr
    obtain⟨t,rfl⟩:=r
    obtain⟨t',rfl⟩:=r'
    obtain⟨t'',rfl⟩:=r''
    exact call_range_3 (by decide) (BE I1 q1 q2 q3 q4 q) (.inl (PyProof.noPylong_small (by omega)))
end
def nq (lo:Int)(n:Nat):List D:=(List.range n).map λ(k:Nat)=>int (lo - k)
def nN (lo:Int)(n:Nat):(nq lo n).length=n:=by unfold nq;simp
def AZ {K:Frag}{B:Option Addr}{G H1:Hp}(lo:Int)(n:Nat):Walk K B G H1 (nq lo n) (KW lo n):=λGc H i s1 s2 m=>by
 rw[nN]
 refine⟨λhi=>⟨hi,λx H' y=>?_⟩,λhi=>hi⟩
 obtain⟨rfl,rfl⟩:=y
 refine⟨Gc,.int (lo - i),Ext.refl s2,?_,.int _⟩
 unfold nq
 rw[NP,OZ hi];rfl
def GD (fa fb fc:VF D):VF (List D):=λvs β=>(fa vs β).bnd λx β1=>(fb vs β1).bnd λy β2=>(fc vs β2).bnd λz β3=>match x,y,z with
 | .int i,.int j,.int k=>if (u9 i && u9 j && k == -1)=true then .ok (nq i (i - j).toNat) β3 else .bad
 |_,_,_=>.bad
section
variable {X:Cx}{Γ:Fx}{tg:Expr}{a b c:Expr}{fa fb fc:VF D}{La Lb Lc:List Nat}{md ma mb mc:Md}{pos:Pos}{E:XK}
def Lk {p:Pos}(hg:Gl X "range")(hm:X.mg "range"=none)(ha:SE X Γ E a fa La ma)(hb:SE X Γ E b fb Lb mb)(hc:SE X Γ E c fc Lc mc)(hs:starEach [a,b,c] X.env= [(false,eval a X.env),(false,eval b X.env),(false,eval c X.env)]:=by rfl)(hs2:starEach [b,c] X.env= [(false,eval b X.env),(false,eval c X.env)]:=by rfl)(hs':starEach [a,b,c] X.env=(false,eval a X.env) :: starEach [b,c] X.env:=by rfl)(hs3:starEach [b,c] X.env=(false,eval b X.env) :: starEach [c] X.env:=by rfl)(hs4:starEach [c] X.env=(false,eval c X.env) :: starEach [] X.env:=by rfl):SI X Γ E tg (.Call (.Name "range" p) [a,b,c] [] pos) (GD fa fb fc) (La ++ Lb ++ Lc) md:=by
 refine PI.post (Ay hg hm (ak ha (ak hb (ak hc aN hs4) hs3) hs') hs hs2) λσ H Q ⟨env,G,B,β,I,o⟩=>?_
 refine two (W:=λx y H2=>pT Γ E fc Lc mc σ H2 λz H3=>∃i j:Int,[x,y,z]= [.int i,.int j,.int (-1)]/\(-(2 ^ 62)<=i/\i < 2 ^ 62/\ -(2 ^ 62)<=j/\j < 2 ^ 62)/\Q (KW i (i - j).toNat) H3) I (o.bnd.imp λd1 β1 h=>h.bnd.imp λd2 β2 h x y G2 H2 I2 s2 m2 bx by'=>?_)
 refine⟨_,G2,B,β2,I2,?_⟩
 rw[fg]
 refine h.bnd.imp λd3 β3 h z G3 H3 I3 s3 m3 bz=>?_
 have bz:=bz.brw I2.boxThere
 obtain⟨i,j,k,rfl,rfl,rfl⟩:∃i j k,d1=.int i/\d2=.int j/\d3=.int k:=by
  cases d1 <;> cases d2 <;> cases d3 <;> first |exact h.elim |exact⟨_,_,_,rfl,rfl,rfl⟩
 obtain rfl:=bx.int
 obtain rfl:=by'.int
 obtain rfl:=bz.int
 dsimp only at h
 by_cases hj:(u9 i && u9 j && k == -1)=true
 ·rw[NG hj] at h
  rw[N3,N3,beq_iff_eq] at hj
  obtain⟨⟨hi,hj⟩,rfl⟩:=hj
  exact⟨i,j,rfl,⟨(iQ hi).1,(iQ hi).2,(iQ hj).1,(iQ hj).2⟩,h _ G3 H3 (by rw[cw];exact I3) (s2.trans s3) (m2.trans m3) (AZ i _)⟩
 ·rw[NL hj] at h;exact h.elim
end
end L2
namespace L2
open PySem PyProof.Rows
section
variable {X:Cx}{K:Frag}{pins:List V}{σ:St}{H:Hp}{s:Shared}{E:XK}
def Kx (K:Frag):List V->Hp->VK->Prop:=λxs H Q=>∃(a:Addr) (ns:List Int),xs= [.ref a]/\fj K H a (ns.map V.int)/\Q (.int ns.sum) H
def wM (hc:X.calm=true):cB X (.builtin "sum") (Kx X.K):=by
 intro pins s σ H xs us Q I r h
 obtain⟨a,ns,rfl,hq,q⟩:=h
 obtain⟨u,rfl,rx⟩:=vals1 r
 cases rx
 have hh:=I.ok.hd hc
 obtain⟨its,rv,pl,_⟩:=I.list hq
 obtain⟨xs,e,hx,hs⟩:=CA (intsAre_of rv)
 refine sum_intListG (xs:=xs) hh (e▸pl.isList) λh' tk t' k=>⟨.int ns.sum,H,I.kept k,⟨t',?_⟩,q⟩
 have:preSum (numAt xs) xs.size=ns.sum:=by
  rw[show numAt xs=λi=>ns.getD i 0 from funext hx,preSum_getD,hs,Pb (NH _)]
 rw[this]
def rz (d:D):Option D:=match d with
 | .list ds=>(gr ds).map λns=>.int ns.sum
 |_=>none
def G6:BH K (λx=>Kx K [x]) rz .v:=by
 intro B G H x dx d Q s hB bx e k
 unfold rz at e
 split at e
 ·rename_i ds
  cases q2:gr ds with
  |none=>rw[q2] at e;cases e
  |some ns=>
   rw[q2] at e
   cases e
   obtain⟨p,xs,rfl,hq,r⟩:=bx.list s
   rw[kL q2] at r
   have r:=r.intsB
   subst r
   exact⟨p,ns,rfl,.inl hq,k _ G H (Ext.refl s) (.int _)⟩
 ·cases e
end
end L2
namespace L2
open PySem PySem.Spec PyProof.Rows
def ou (marks:Str->Option Str)(m:SF):SF:=λenv β=>if iZ env=true then (match m env 0 with
 | .rt d fr _=>.rt d fr β
 | .exc c=>(match marks c with
  |some x=>.rt (.str x) false β
  |none=>.bad)
 | .nx e _=>if iZ e=true then .nx e β else .bad
 |_=>.bad) else .bad
section
variable {X:Cx}{Γ:Fx}{E:XK}{m:SF}
def SR.undropN (I:SR Γ B G H σ env β)(J:SR (Fx.fn Γ.K H G Γ.ca) B' G' H' σ' env' β')(hf:iZ env'=true):SR Γ B G' H' σ' env' β:=by
 have kp:∀b o,H b=some o->H' b=some o:=λb o e=>J.keep b o e (by simp)
 refine⟨J.sub,I.old.trans J.old,λb h1 h2=>J.new b (I.thereM h1) (I.new b h1 h2),λb o h1 h2=>kp b o (I.keep b o h1 h2),λb hb=>(I.pin b hb).same (kp b),I.fix,λb e=>?_,J.len,λi s e=>?_,λi j a d e h=>?_⟩
 ·obtain⟨h1,h2,h3⟩:=I.box b e
  exact⟨kp b _ h1,J.new b (Mx.lst h1) h2,h3⟩
 ·rcases gV hf e with rfl | ⟨d,rfl⟩
  ·trivial
  ·exact J.slot i _ e
 ·rcases gV hf h with z | ⟨_,z⟩ <;> cases z
def Ec {n x y:Str}{i k:Nat}{Dc gm:Addr}{dm:FuncData}{W:Addr->Str->Prop}{marks:Str->Option Str}{np hpos pos cp fp ap rp:Pos}(hb:∀Eb Ex pn H G,Passes (me X.prog X.w) (X.inTry Ex pn) Eb->BN (X.inTry Ex pn) (Fx.fn Γ.K H G Γ.ca) Eb body m)
  (hM:r6 X.prog X.w X.K X.mg X.base ye k gm dm ["e"] (J3 W)) (hr:∀e,mq k (X.inEx e).A) (hmg:X.mg y=some (.ref gm)) (hkp:PySem.W.keepIn X.K (.ref gm)=true) (hbi:Binds X.K dm ["e"] [])
  (hw:∀c z,marks c=some z->Mt X.K (.ref (Γ.ca c)) Dc/\W (Γ.ca c) z)
  (hm:X.mg x=some (.ref Dc)) (hN:X.N.Nodup) (hgy:∀e,Gl (X.inEx e) y:=by intro _;rfl) (hst:X.stack=X.env :: X.outer:=by rfl) (hfr:X.env.frame=some X.env.locals:=by rfl) (hex:X.ex= []:=by rfl) (hg:Gl X x:=by rfl) (hi:X.N[i]? =some n:=by rfl) (hk:X.env.scope.names.lookup n=some .local:=by rfl)
  (hd:(n == ("__debug__":Str))=false:=by decide) (hcd:(n == ("__classdict__":Str))=false:=by decide)
  (hdb:(x == ("__debug__":Str))=false:=by decide) (hdy:(y == ("__debug__":Str))=false:=by decide)
  (he:∀e,starEach [.Name n ap] (X.inEx e).env=(false,eval (.Name n ap) (X.inEx e).env) :: starEach [] (X.inEx e).env:=by intro _;rfl) :
  SS X Γ E (.Try body [.ExceptHandler (some (.Name x np)) (some n) [.Return (some (.Call (.Name y fp) [.Name n ap] [] cp)) rp] hpos] [] [] pos) (ou marks m):=by
 have hbU:∀Eb Ex pn,Passes (me X.prog X.w) (X.inTry Ex pn) Eb->oP (X.inTry Ex pn) body (λD σ H=>∃H0 G0,sT (Fx.fn Γ.K H0 G0 Γ.ca) Eb m D σ H):=λEb Ex pn hp pins s σ H D I ⟨H0,G0,q⟩=>hb Eb Ex pn H0 G0 hp pins s σ H D I q
 have hsU:∀e,oP (X.inEx e) [.Return (some (.Call (.Name y fp) [.Name n ap] [] cp)) rp] _:=λe=>dE (i0 (C6 hM (hr e) (hgy e) hmg hkp hbi .nil GG (ak (iX (i:=i) hi (Or.inl hk) hd hcd) aN (he e)) hdy (he e) rfl))
 refine PS.post (Jh (i:=i) hst hfr hex hbU hsU hg hm hN hi hk hdb) λN σ H ⟨env,G,B,β,I,o⟩=>?_
 unfold ou at o
 by_cases hf:iZ env=true
 case neg=>rw[NL hf] at o;exact o.elim
 rw[NG hf] at o
 refine⟨λcls _ H'=>∃c z,cls=.ref (Γ.ca c)/\marks c=some z/\aw H H'/\m env 0=.exc c,⟨H,G,env,G,none,0,I.drop hf,?_⟩,?_⟩
 ·cases q:m env 0 with
  |nx e b=>
   rw[q] at o
   dsimp only at o
   by_cases hf2:iZ e=true
   case neg=>rw[NL hf2] at o;exact o.elim
   rw[NG hf2] at o
   intro B' G' H' σ' J s
   exact o B G' H' σ' (I.undropN J hf2) s
  |bk e b=>rw[q] at o;exact o.elim
  |ct e b=>rw[q] at o;exact o.elim
  |bad=>rw[q] at o;exact o.elim
  |rt d fr b=>
   rw[q] at o
   intro B' G' H' σ' env' v J s rv
   refine o B G' H' σ _ v (I.undrop J) s ?_
   unfold RV at rv ⊢
   cases fr with
   |false=>exact rv
   |true=>
    rw[NG rfl] at rv ⊢
    obtain⟨a,rfl,h1,h2,h3⟩:=rv
    exact⟨a,rfl,(I.fresh h1).1,h2,h3⟩
  |exc c=>
   rw[q] at o
   intro H' kp
   cases q2:marks c with
   |none=>dsimp only at o;rw[q2] at o;exact o.elim
   |some z=>exact⟨c,z,rfl,q2,λb u e=>kp b u e (by simp),rfl⟩
 ·rintro cls d H' ⟨c,z,rfl,q2,s',q⟩
  rw[q] at o
  dsimp only at o
  rw[q2] at o
  obtain⟨w1,w2⟩:=hw c z q2
  refine⟨w1,λea σ' hea hlen=>?_⟩
  have hil:i < σ'.length:=by rw[hlen];exact (NV.mp hi).1
  refine⟨.ref ea,NW hil,ea,_,z,rfl,au,w2,λH2 s2=>?_⟩
  exact o B G H2 σ _ (.str z) (I.forget ((s'.trans (aw.new hea)).trans s2)) (aw.refl _) (Rp.str z)
def EK {n x y:Str}{i k:Nat}{marks:Str->Option Str}{np hpos pos cp fp ap rp:Pos}(M:Fc X.prog X.w X.K X.mg X.base Γ.ca x y marks)(hr:dZ (k + 1) X.A)(hb:∀Eb Ex pn H G,Passes (me X.prog X.w) (X.inTry Ex pn) Eb->BN (X.inTry Ex pn) (Fx.fn Γ.K H G Γ.ca) Eb body m)
  (hN:X.N.Nodup) (hgy:∀e,Gl (X.inEx e) y:=by intro _;rfl) (hst:X.stack=X.env :: X.outer:=by rfl) (hfr:X.env.frame=some X.env.locals:=by rfl) (hex:X.ex= []:=by rfl) (hg:Gl X x:=by rfl) (hi:X.N[i]? =some n:=by rfl) (hk:X.env.scope.names.lookup n=some .local:=by rfl)
  (hd:(n == ("__debug__":Str))=false:=by decide) (hcd:(n == ("__classdict__":Str))=false:=by decide)
  (hdb:(x == ("__debug__":Str))=false:=by decide) (hdy:(y == ("__debug__":Str))=false:=by decide)
  (he:∀e,starEach [.Name n ap] (X.inEx e).env=(false,eval (.Name n ap) (X.inEx e).env) :: starEach [] (X.inEx e).env:=by intro _;rfl) :
  SS X Γ E (.Try body [.ExceptHandler (some (.Name x np)) (some n) [.Return (some (.Call (.Name y fp) [.Name n ap] [] cp)) rp] hpos] [] [] pos) (ou marks m):=by
 obtain⟨gm,Dc,dm,W,h1,h2,h3,h4,h5,h6⟩:=M.ex
 exact Ec (i:=i) hb h1 (λe=>((hr.mono (by omega)).mark _)) h2 h3 h4 h6 h5 hN hgy hst hfr hex hg hi hk hd hcd hdb hdy he
end
end L2
namespace RM
open PySem L2
def lg (aQ ay:List D->FR):SF:=(aJ (a7 1 (([] ++ []) ++ []) (f2 (f2 (cst (.int 1)) (f1 (gv 0) cR) xE) (cst (.int 1)) oF))
 (aJ (j6 2 ((([] ++ []) ++ []) ++ ([] ++ [])) (f2 (f2 (bC (aa (cst (.int 0)) ag)) (gv 1) oN) (bC (aa (cst (.int 1)) ag)) jb))
 (aJ (di (.nm 3) ((([] ++ []) ++ []) ++ []) (GD (f2 (gv 1) (cst (.int 1)) oF) (f1 (cst (.int 1)) AA) (f1 (cst (.int 1)) AA))
 (mD 2 (([0] ++ ([3] ++ [])) ++ [3]) [] (f1 (bh 1 [2,3] (.nm 0) (bR (az aQ (aa (gv 0) (aa (gv 3) ag)))) oH (f2 (gv 1) (az ay (aa (gv 2) (aa (gv 0) ag))) bV)) rz) (gv 3)))
 (l5 2))))
def iN (aU bB aR:List D->FR):SF:=(aJ (qi ([0] ++ []) (az aU (aa (gv 0) ag)))
 (cf (f2 (az bB (aa (az aR (aa (gv 0) ag)) ag)) (cst (.int 0)) bV)))
def mz (aQ ay:List D->FR):SF:=(aJ (a7 4 ([0] ++ ([2] ++ [])) (az aQ (aa (gv 0) (aa (gv 2) ag))))
 (aJ (a7 5 [] (cst (.int 0)))
 (aJ (hX ([] ++ ([] ++ ([2] ++ (([] ++ []) ++ [])))) (dh (f2 (gv 3) (f2 (gv 1) (az ay (aa (gv 2) (aa (f2 (gv 4) (gv 5) bV) ag))) bV) Mv))
 (aJ (a7 3 ([] ++ ([] ++ ([2] ++ (([] ++ []) ++ [])))) (f2 (gv 3) (f2 (gv 1) (az ay (aa (gv 2) (aa (f2 (gv 4) (gv 5) bV) ag))) bV) oF))
 (a7 5 ([] ++ []) (f2 (gv 5) (cst (.int 1)) cH))) 1000)
 (cf (cv (aa (f2 (gv 4) (gv 5) bV) (aa (gv 3) ag)))))))
def gX (aU aR bB bg i9 ay:List D->FR):SF:=(aJ (qi ([0] ++ []) (az aU (aa (gv 0) ag)))
 (aJ (a7 2 ([0] ++ []) (az aR (aa (gv 0) ag)))
 (aJ (a7 3 ([2] ++ []) (az bB (aa (gv 2) ag)))
 (aJ (lx ([1] ++ (([] ++ []) ++ [])) (uX (oQ (az bg (aa (gv 1) (aa (f2 (gv 3) (cst (.int 0)) bV) ag)))))
 (λenv β=>toS ((aa (cst (.str "this is no number of a row of the order")) ag) (vl env) β) λds _=>if ds.length<=sizeLine then .exc "NoNumber" else .bad)
 nt)
 (aJ (j6 4 [] (bC ag))
 (aJ (a7 5 [] (cst (.int 0)))
 (aJ (a7 6 [1] (gv 1))
 (aJ (di (.nm 7) ([] ++ []) (kC (f2 (gv 0) (cst (.int 0)) bV))
 (aJ (a7 8 ([2] ++ ([3] ++ ([5] ++ ([6] ++ [])))) (az i9 (aa (gv 2) (aa (gv 3) (aa (gv 5) (aa (gv 6) ag))))))
 (aJ (l0 4 ([] ++ []) (f2 (gv 8) (cst (.int 0)) bV))
 (aJ (a7 5 ([5] ++ (([] ++ []) ++ [])) (az ay (aa (gv 5) (aa (f2 (gv 8) (cst (.int 0)) bV) ag))))
 (a7 6 ([] ++ []) (f2 (gv 8) (cst (.int 1)) bV))))))
 (cf (f1 (gv 4) ua))))))))))
def gY (aU cL aR bB aQ ay:List D->FR):SF:=(aJ (qi ([0] ++ []) (az aU (aa (gv 0) ag)))
 (aJ (lx ([1] ++ ([0] ++ [])) (uX (oQ (az cL (aa (gv 1) (aa (gv 0) ag)))))
 (λenv β=>toS ((aa (cst (.str "this is no row of the order")) ag) (vl env) β) λds _=>if ds.length<=sizeLine then .exc "NoRow" else .bad)
 nt)
 (aJ (a7 2 ([0] ++ []) (az aR (aa (gv 0) ag)))
 (aJ (a7 3 ([2] ++ []) (az bB (aa (gv 2) ag)))
 (aJ (a7 4 [] (cst (.int 0)))
 (aJ (a7 5 [] (cst (.int 0)))
 (aJ (di (.nm 6) [1] (bR (gv 1))
 (aJ (a7 7 (([2] ++ ([5] ++ [])) ++ []) (bh 1 [6] (.nm 0) (bR (az aQ (aa (gv 2) (aa (gv 5) ag)))) (dh (f2 (gv 0) (gv 1) xc)) (gv 0)))
 (aJ (a7 4 ([] ++ ([] ++ [5])) (f2 (gv 4) (f1 (bh 1 [3,5] (.nm 0) (bR (gv 7)) oH (f2 (gv 1) (az ay (aa (gv 2) (aa (gv 0) ag))) bV)) rz) cH))
 (a7 5 ([5] ++ ([6] ++ [])) (az ay (aa (gv 5) (aa (gv 6) ag)))))))
 (l5 4))))))))
def bS (marks:Str->Option Str)(g9 gQ:List D->FR):SF:=(aJ (ou marks (lx ([] ++ []) (dh (f2 (gv 0) (cst (.int 0)) (dX false)))
 (qi ([1] ++ ([2] ++ [])) (az g9 (aa (gv 1) (aa (gv 2) ag))))
 (qi ([1] ++ ([2] ++ [])) (az gQ (aa (gv 1) (aa (gv 2) ag))))))
 (cf (cst (.str "told"))))
def zy (eZ dR b7 cJ dS:List D->FR)(df aG fB aZ fE:List D->Int->FB):SF:=(aJ (di (.nm 1) ([] ++ ([] ++ [])) (kC (f2 (cst (.int 1)) (f2 (f1 (gv 0) cR) (cst (.int 4)) (uV λi j=>.int (if j < i then j else i))) (uV λi j=>.int (if j > i then j else i))))
 (aJ (zk 2 ([0] ++ ([1] ++ [])) (vH eZ (aa (gv 0) (aa (gv 1) ag))))
 (aJ (a7 3 ([] ++ []) (lq 2 df (aa (cst (.int 6)) ag)))
 (aJ (a7 4 ([3] ++ []) (az dR (aa (gv 3) ag)))
 (aJ (a7 5 ([4] ++ (([] ++ ([] ++ [])) ++ ([] ++ ([] ++ ([] ++ ([] ++ (([] ++ []) ++ (([] ++ []) ++ (([] ++ []) ++ []))))))))) (bC (aa (gv 4) (aa (f2 (gv 4) (lq 2 aG (aa (cst (.int 99)) ag)) cH) (aa (f1 (cst (.int 1)) AA) (aa (cst (.bool true)) (aa (cst .none) (aa (cst (.str "0")) (aa (cv (aa (cst (.int 0)) ag)) (aa (bC (aa (cst (.int 0)) ag)) (aa (f2 (cst (.int 10)) (cst (.int 39)) AF) ag)))))))))))
 (aJ (di (.nm 6) ([] ++ (([] ++ ([] ++ [])) ++ [])) (bR (f2 (gv 5) (bC (aa (f2 (f1 (cst (.int 1)) AA) (lq 2 aG (aa (cst (.int 9)) ag)) oF) ag)) jb))
 (lx (([] ++ ([3] ++ ([6] ++ []))) ++ []) (dh (f2 (az b7 (aa (cst (.int 0)) (aa (gv 3) (aa (gv 6) ag)))) (cst (.str "number")) (dX true)))
 (cf (cst (.bool false)))
 nt))
 (aJ (a7 7 ([3] ++ []) (lq 2 fB (aa (gv 3) ag)))
 (aJ (a7 8 (([] ++ []) ++ []) (f1 (lq 2 aZ (aa (f1 (f2 (gv 3) (cst (.int 0)) bV) eN) ag)) ua))
 (aJ (a7 5 ([] ++ ((([] ++ []) ++ []) ++ (([] ++ ([] ++ [])) ++ ((((([] ++ []) ++ []) ++ (([] ++ []) ++ [])) ++ ([] ++ [])) ++ ([] ++ ([] ++ ([] ++ []))))))) (bC (aa (f1 (gv 7) CC) (aa (tm (gv 7) (BX (cst (.int 1))) (λ_ β=>.ok none β)) (aa (f2 (gv 7) (cv (aa (cst (.int 0)) ag)) lF) (aa (f2 (f2 (tm (gv 7) (BX (cst (.int 1))) (λ_ β=>.ok none β)) (tm (gv 7) (BX (cst (.int 1))) (BX (cst (.int 2)))) lF) (cv (aa (cst (.int 9)) ag)) lF) (aa (cst .none) (aa (cst (.str "0")) (aa (cst (.dict [])) ag)))))))))
 (aJ (di (.nm 6) ([] ++ ([8] ++ ([] ++ []))) (bR (f2 (gv 5) (bC (aa (gv 8) (aa (lq 2 fE ag) ag))) jb))
 (aJ (a7 9 [] (cst (.str "row")))
 (aJ (lx (([6] ++ (([] ++ []) ++ [])) ++ ([3] ++ ([6] ++ []))) (zX (oQ (az cJ (aa (gv 6) (aa (f2 (gv 3) (cst (.int 0)) bV) ag)))) (oQ (az dS (aa (gv 3) (aa (gv 6) ag)))))
 (a7 9 [] (cst (.str "told")))
 nt)
 (lx (([] ++ ([3] ++ ([6] ++ []))) ++ []) (dh (f2 (az b7 (aa (cst (.int 1)) (aa (gv 3) (aa (gv 6) ag)))) (gv 9) (dX true)))
 (cf (cst (.bool false)))
 nt))))
 (lx ((([] ++ ([3] ++ (([] ++ []) ++ []))) ++ []) ++ (([] ++ ([3] ++ ([7] ++ []))) ++ [])) (oS (dh (f2 (az b7 (aa (cst (.int 0)) (aa (gv 3) (aa (f2 (gv 4) (cst (.int 1)) oF) ag)))) (cst (.str "told")) (dX true))) (dh (f2 (az b7 (aa (cst (.int 1)) (aa (gv 3) (aa (gv 7) ag)))) (cst (.str "told")) (dX true))))
 (cf (cst (.bool false)))
 nt)))))))))))
 (cf (cst (.bool true))))
end RM
namespace RQ
open PySem L2 RM
def top (i:Nat):Stmt:=PySem.Challenge.pw_rowsorder_k10_no_numbers_no_rows.main.body.getD i (.Pass ⟨0,0,0,0⟩)
section
variable {P:Program}{w:World}{K:Frag}{mg:Str->Option Value}{base:Heap}{ca:Str->Addr}
abbrev jP:Stmt:=top 2
def wJ:aK ["thing"] ["thing"] (av jP):=⟨rfl,rfl,rfl,by decide +kernel,rfl,by decide +kernel,by decide +kernel⟩
def uG (F:jJ K mg "is_whole" jP ["thing"] f fd)(B:j4 mg):cK P w K mg base ca "is_whole" ["thing"] 1 (bA 1 1 (qd)):=
 ⟨⟨f,fd,F.mg,F.F.kp,F.b,bb (N:=["thing"]) (k:=0) F.F wJ λcdv A outer s H G E hr=>
  (@aC _ _ _ _ _ (bp (lR (jV "int" (by decide) rfl rfl B.isinstance rfl B.int (by decide +kernel) (af 0)) (lH (xO (jV "bool" (by decide) rfl rfl B.isinstance rfl B.bool (by decide +kernel) (af 0)))) (λ_ _=>rfl))))⟩,λds h=>aX ds h⟩
abbrev jK:Stmt:=top 3
def wU:aK ["thing","bound"] ["thing","bound"] (av jK):=⟨rfl,rfl,rfl,by decide +kernel,rfl,by decide +kernel,by decide +kernel⟩
def ui {bW:List D->FR}(F:jJ K mg "is_below" jK ["thing","bound"] f fd)(B:j4 mg)(fy:cK P w K mg base ca "is_whole" ["thing"] 1 bW):cK P w K mg base ca "is_below" ["thing","bound"] 2 (bA 2 2 (pI bW)):=
 ⟨⟨f,fd,F.mg,F.F.kp,F.b,bb (N:=["thing","bound"]) (k:=1) F.F wU λcdv A outer s H G E hr=>
  (@aC _ _ _ _ _ (bp (lR (aI fy (hr.mono (by decide)) aV rfl rfl (ae (aF 0 rfl) ar)) (lH (we Ct wc HG Eh ax (af 0) (af 1))) (λ_ _=>rfl))))⟩,λds h=>aX ds h⟩
abbrev kS:Stmt:=top 4
def yC:aK ["thing"] ["thing"] (av kS):=⟨rfl,rfl,rfl,by decide +kernel,rfl,by decide +kernel,by decide +kernel⟩
def v8 {bW:List D->FR}(F:jJ K mg "is_many" kS ["thing"] f fd)(B:j4 mg)(fy:cK P w K mg base ca "is_whole" ["thing"] 1 bW)(iP:mg "MOST_THINGS"=some (.int 8 Eu)):cK P w K mg base ca "is_many" ["thing"] 2 (bA 1 1 (sX bW)):=
 ⟨⟨f,fd,F.mg,F.F.kp,F.b,bb (N:=["thing"]) (k:=1) F.F yC λcdv A outer s H G E hr=>
  (@aC _ _ _ _ _ (bp (lR (aI fy (hr.mono (by decide)) aV rfl rfl (ae (aF 0 rfl) ar)) (lH (we Ct Ct HG HG ax (af 0) (Gs (by rfl) iP))) (λ_ _=>rfl))))⟩,λds h=>aX ds h⟩
abbrev kN:Stmt:=top 5
def xI:aK ["thing","many"] ["thing","many"] (av kN):=⟨rfl,rfl,rfl,by decide +kernel,rfl,by decide +kernel,by decide +kernel⟩
def vR {bg:List D->FR}(F:jJ K mg "is_pair" kN ["thing","many"] f fd)(B:j4 mg)(cn:cK P w K mg base ca "is_below" ["thing","bound"] 2 bg):cK P w K mg base ca "is_pair" ["thing","many"] 3 (bA 2 2 (sH bg)):=
 ⟨⟨f,fd,F.mg,F.F.kp,F.b,bb (N:=["thing","many"]) (k:=2) F.F xI λcdv A outer s H G E hr=>
  (@ah _ _ _ _ _ _ _ (dQ (uZ.t (pF (gz (eJ rfl (jV "tuple" (by decide) rfl rfl B.isinstance rfl B.tuple (by decide +kernel) (af 0)))) (nW (bM (iw hr.units) ie (bo cA ji rfl B.len OK (af 0)) ax (bw _))) (λ_ _=>rfl)))
  (@aC _ _ _ _ _ (bp jl))
  cF)
  (@aC _ _ _ _ _ (bp (lR (aI cn (hr.mono (by decide)) aV rfl rfl (ae (bE a9 cN (af 0) ax (λ_ _=>rfl)) (ae (aF 1 rfl) ar))) (lH (aI cn (hr.mono (by decide)) aV rfl rfl (ae (bE a9 cN (af 0) ax (λ_ _=>rfl)) (ae (aF 1 rfl) ar)))) (λ_ _=>rfl)))))⟩,λds h=>aX ds h⟩
abbrev kX:Stmt:=top 6
def yF:aK ["thing","many"] ["thing","many"] (av kX):=⟨rfl,rfl,rfl,by decide +kernel,rfl,by decide +kernel,by decide +kernel⟩
def vn {bg:List D->FR}(F:jJ K mg "is_line" kX ["thing","many"] f fd)(B:j4 mg)(cn:cK P w K mg base ca "is_below" ["thing","bound"] 2 bg):cK P w K mg base ca "is_line" ["thing","many"] 3 (bA 2 2 (kU bg)):=
 ⟨⟨f,fd,F.mg,F.F.kp,F.b,bb (N:=["thing","many"]) (k:=2) F.F yF λcdv A outer s H G E hr=>
  (@ah _ _ _ _ _ _ _ (dQ (uZ.t (pF (gz (eJ rfl (jV "tuple" (by decide) rfl rfl B.isinstance rfl B.tuple (by decide +kernel) (af 0)))) (nW (bM (iw hr.units) ie (bo cA ji rfl B.len OK (af 0)) (af 1) (bw _))) (λ_ _=>rfl)))
  (@aC _ _ _ _ _ (bp jl))
  cF)
  (@aC _ _ _ _ _ (bp (lR (bo (mG rfl) mf rfl B.all (by decide +kernel) (fT (NB:=["one","many"]) (own:=1) (ixs:=[1]) [1] rfl (gy (by kernel_rfl)) (λ_ _=>rfl) (qS rfl (af 0)) (λH0 G0 par br bx C ex s3 H3 pn=>(gk (i:=0) (show (["one","many"]:List Str).Nodup by decide +kernel))) (λH0 G0 par br bx C ex s3 H3 pn hB1=>iK) (λH0 G0 par br bx C ex s3 H3 pn hB1=>(aI cn (hr.mono (by decide)) vU rfl rfl (ae (aF 0 (hB1 0 (by decide))) (ae (aF 1 (hB1 1 (by decide))) ar)))))) (lH (nz (gA hr.units) ie (AV rfl rfl rfl B.len rfl B.set (af 0)) (af 1) (bw _))) (λ_ _=>rfl)))))⟩,λds h=>aX ds h⟩
abbrev eH:Stmt:=top 7
def rB:aK ["many"] ["many"] (av eH):=⟨rfl,rfl,rfl,by decide +kernel,rfl,by decide +kernel,by decide +kernel⟩
def qk (F:jJ K mg "every_pair" eH ["many"] f fd)(B:j4 mg):cK P w K mg base ca "every_pair" ["many"] 1 (bA 1 1 (ud)):=
 ⟨⟨f,fd,F.mg,F.F.kp,F.b,bb (N:=["many"]) (k:=0) F.F rB λcdv A outer s H G E hr=>
  (@aC _ _ _ _ _ (uy (fT (NB:=["number","many"]) (own:=1) (ixs:=[0]) [] rfl (gy (by kernel_rfl)) (λ_ _=>rfl) (sD rfl B.range (ba kB lQ (af 0) (af 0))) (λH0 G0 par br bx C ex s3 H3 pn=>(gk (i:=0) (show (["number","many"]:List Str).Nodup by decide +kernel))) (λH0 G0 par br bx C ex s3 H3 pn hB1=>iK) (λH0 G0 par br bx C ex s3 H3 pn hB1=>(ig (ae (ba mX FW (af 0) (af 1)) (ae (ba lL sf (af 0) (af 1)) ar)))))))⟩,λds h=>aX ds h⟩
abbrev jA:Stmt:=top 25
def wI:aK ["pairs"] ["pairs"] (av jA):=⟨rfl,rfl,rfl,by decide +kernel,rfl,by decide +kernel,by decide +kernel⟩
def uD (F:jJ K mg "has_ring" jA ["pairs"] f fd)(B:j4 mg):cK P w K mg base ca "has_ring" ["pairs"] 1 (bA 1 1 (pQ)):=
 ⟨⟨f,fd,F.mg,F.F.kp,F.b,bb (N:=["pairs"]) (k:=0) F.F wI λcdv A outer s H G E hr=>
  (@aC _ _ _ _ _ (bp (bo (Cq rfl) mf rfl B.any (by decide +kernel) (fT (NB:=["a","b"]) (own:=2) (ixs:=[]) [] rfl (gy (by kernel_rfl)) (λ_ _=>rfl) (qS rfl (af 0)) (λH0 G0 par br bx C ex s3 H3 pn=>(jM (i:=0) (j:=1) (show (["a","b"]:List Str).Nodup by decide +kernel))) (λH0 G0 par br bx C ex s3 H3 pn hB1=>iK) (λH0 G0 par br bx C ex s3 H3 pn hB1=>(nz (gA hr.units) ie (af 0) (af 1) (bw _)))))))⟩,λds h=>aX ds h⟩
abbrev jX:Stmt:=top 23
def kK:aK ["thing","many","pairs"] ["thing"] (av jX):=⟨rfl,rfl,rfl,by decide +kernel,rfl,by decide +kernel,by decide +kernel⟩
def tX {g7 gW jc fk:List D->FR}(F:jJ K mg "is_order" jX ["thing"] f fd)(B:j4 mg)(nO:cK P w K mg base ca "is_many" ["thing"] 2 g7)(nZ:cK P w K mg base ca "is_pair" ["thing","many"] 3 gW)(p9:cK P w K mg base ca "closed" ["many","pairs"] 3 jc)(lK:cK P w K mg base ca "has_ring" ["pairs"] 1 fk):cK P w K mg base ca "is_order" ["thing"] 4 (bA 3 1 (hW g7 gW jc fk)):=
 ⟨⟨f,fd,F.mg,F.F.kp,F.b,bb (N:=["thing","many","pairs"]) (k:=3) F.F kK λcdv A outer s H G E hr=>
  (@ah _ _ _ _ _ _ _ (dQ (uZ.t (pF (gz (eJ rfl (jV "tuple" (by decide) rfl rfl B.isinstance rfl B.tuple (by decide +kernel) (af 0)))) (nW (bM (iw hr.units) ie (bo cA ji rfl B.len OK (af 0)) ax (bw _))) (λ_ _=>rfl)))
  (@aC _ _ _ _ _ (bp jl))
  cF)
  (@ah _ _ _ _ _ _ _ (aO (i:=1) (bE a9 cN (af 0) ax (λ_ _=>rfl)) kK.nd)
  (@ah _ _ _ _ _ _ _ (aO (i:=2) (bE a9 cN (af 0) ax (λ_ _=>rfl)) kK.nd)
  (@ah _ _ _ _ _ _ _ (dQ (uZ.t (pF (gz (eJ rfl (aI nO (hr.mono (by decide)) aV rfl rfl (ae (aF 1 rfl) ar)))) (nW (gz (eJ rfl (jV "tuple" (by decide) rfl rfl B.isinstance rfl B.tuple (by decide +kernel) (af 2))))) (λ_ _=>rfl)))
  (@aC _ _ _ _ _ (bp jl))
  cF)
  (@ah _ _ _ _ _ _ _ (dQ (gz (eJ rfl (bo (mG rfl) mf rfl B.all (by decide +kernel) (fT (NB:=["pair","many"]) (own:=1) (ixs:=[1]) [1] rfl (gy (by kernel_rfl)) (λ_ _=>rfl) (qS rfl (af 2)) (λH0 G0 par br bx C ex s3 H3 pn=>(gk (i:=0) (show (["pair","many"]:List Str).Nodup by decide +kernel))) (λH0 G0 par br bx C ex s3 H3 pn hB1=>iK) (λH0 G0 par br bx C ex s3 H3 pn hB1=>(aI nZ (hr.mono (by decide)) vU rfl rfl (ae (aF 0 (hB1 0 (by decide))) (ae (aF 1 (hB1 1 (by decide))) ar))))))))
  (@aC _ _ _ _ _ (bp jl))
  cF)
  (@aC _ _ _ _ _ (bp (lR (nz (gA hr.units) ie (af 2) (aI p9 (hr.mono (by decide)) aV rfl rfl (ae (aF 1 rfl) (ae (aF 2 rfl) ar))) (bw _)) (lH (xO (aI lK (hr.mono (by decide)) aV rfl rfl (ae (aF 2 rfl) ar)))) (λ_ _=>rfl)))))))))⟩,λds h=>aX ds h⟩
abbrev gL:Stmt:=top 26
def rq:aK ["thing"] ["thing"] (av gL):=⟨rfl,rfl,rfl,by decide +kernel,rfl,by decide +kernel,by decide +kernel⟩
def qR {fA:List D->FR}(F:jJ K mg "need_order" gL ["thing"] f fd)(B:j4 mg)(lN:cK P w K mg base ca "is_order" ["thing"] 4 fA)(jq:Exc K mg ca "NoOrder"):cK P w K mg base ca "need_order" ["thing"] 5 (bA 1 1 (gO fA)):=
 ⟨⟨f,fd,F.mg,F.F.kp,F.b,bb (N:=["thing"]) (k:=4) F.F rq λcdv A outer s H G E hr=>
  (@aC _ _ _ _ _ (dQ (gz (eJ rfl (aI lN (hr.mono (by decide)) aV rfl rfl (ae (aF 0 rfl) ar))))
  (@aC _ _ _ _ _ (pO jq.ex jq.ca rfl jq.mg (ae gu ar)))
  cF))⟩,λds h=>aX ds h⟩
abbrev my:Stmt:=top 29
def oj:aK ["row","found","place","thing"] ["row"] (av my):=⟨rfl,rfl,rfl,by decide +kernel,rfl,by decide +kernel,by decide +kernel⟩
def xM (F:jJ K mg "places" my ["row"] f fd)(B:j4 mg):cK P w K mg base ca "places" ["row"] 1 (bA 4 1 (nh)):=
 ⟨⟨f,fd,F.mg,F.F.kp,F.b,bb (N:=["row","found","place","thing"]) (k:=0) F.F oj λcdv A outer s H G E hr=>
  (@ah _ _ _ _ _ _ _ (gF (i:=1) (xu (bO (ae ax ar)) (bo cA ji rfl B.len OK (af 0))) oj.nd)
  (@ah _ _ _ _ _ _ _ (eQ PassesOwn.leaving rfl (Cf rfl rfl B.enumerate (af 0)) (jM (i:=2) (j:=3) oj.nd)
  (@aC _ _ _ _ _ (ug 1 (λ_=>rfl) (aF 2 rfl) (af 3))))
  (@aC _ _ _ _ _ (ju 1))))⟩,λds h=>aX ds h⟩
abbrev fR:Stmt:=top 28
def kf:aK ["thing","order","place"] ["thing","order"] (av fR):=⟨rfl,rfl,rfl,by decide +kernel,rfl,by decide +kernel,by decide +kernel⟩
def oU {gP i8:List D->FR}(F:jJ K mg "keeps_order" fR ["thing","order"] f fd)(B:j4 mg)(oh:cK P w K mg base ca "is_line" ["thing","many"] 3 gP)(qz:cK P w K mg base ca "places" ["row"] 1 i8):cK P w K mg base ca "keeps_order" ["thing","order"] 4 (bA 3 2 (fL gP i8)):=
 ⟨⟨f,fd,F.mg,F.F.kp,F.b,bb (N:=["thing","order","place"]) (k:=3) F.F kf λcdv A outer s H G E hr=>
  (@ah _ _ _ _ _ _ _ (dQ (gz (eJ rfl (aI oh (hr.mono (by decide)) aV rfl rfl (ae (aF 0 rfl) (ae (bE a9 cN (af 1) ax (λ_ _=>rfl)) ar)))))
  (@aC _ _ _ _ _ (bp jl))
  cF)
  (@ah _ _ _ _ _ _ _ (aO (i:=2) (aI qz (hr.mono (by decide)) aV rfl rfl (ae (aF 0 rfl) ar)) kf.nd)
  (@aC _ _ _ _ _ (bp (bo (mG rfl) mf rfl B.all (by decide +kernel) (fT (NB:=["a","b","place"]) (own:=2) (ixs:=[2]) [] rfl (gy (by kernel_rfl)) (λ_ _=>rfl) (qS rfl (bE a9 cN (af 1) ax (λ_ _=>rfl))) (λH0 G0 par br bx C ex s3 H3 pn=>(jM (i:=0) (j:=1) (show (["a","b","place"]:List Str).Nodup by decide +kernel))) (λH0 G0 par br bx C ex s3 H3 pn hB1=>iK) (λH0 G0 par br bx C ex s3 H3 pn hB1=>(nz wc Eh (bE a9 cN (af 2) (af 0) (λ_ _=>rfl)) (bE a9 cN (af 2) (af 1) (λ_ _=>rfl)) (bw _)))))))))⟩,λds h=>aX ds h⟩
abbrev gH:Stmt:=top 33
def rg:aK ["placed","thing"] ["placed","thing"] (av gH):=⟨rfl,rfl,rfl,by decide +kernel,rfl,by decide +kernel,by decide +kernel⟩
def qF (F:jJ K mg "with_thing" gH ["placed","thing"] f fd)(B:j4 mg):cK P w K mg base ca "with_thing" ["placed","thing"] 1 (bA 2 2 (gM)):=
 ⟨⟨f,fd,F.mg,F.F.kp,F.b,bb (N:=["placed","thing"]) (k:=0) F.F rg λcdv A outer s H G E hr=>
  (@aC _ _ _ _ _ (bp (ba JU Mh (af 0) (ba Em Hj ax (af 1)))))⟩,λds h=>aX ds h⟩
abbrev fJ:Stmt:=top 36
def ij:aK ["masks","placed","free","thing","mask"] ["masks","placed"] (av fJ):=⟨rfl,rfl,rfl,by decide +kernel,rfl,by decide +kernel,by decide +kernel⟩
def o4 {ay:List D->FR}(F:jJ K mg "free_things" fJ ["masks","placed"] f fd)(B:j4 mg)(aM:cK P w K mg base ca "with_thing" ["placed","thing"] 1 ay):cK P w K mg base ca "free_things" ["masks","placed"] 2 (bA 5 2 (fN ay)):=
 ⟨⟨f,fd,F.mg,F.F.kp,F.b,bb (N:=["masks","placed","free","thing","mask"]) (k:=1) F.F ij λcdv A outer s H G E hr=>
  (@ah _ _ _ _ _ _ _ (gF (i:=2) (bO ar) ij.nd)
  (@ah _ _ _ _ _ _ _ (eQ PassesOwn.leaving rfl (DT rfl rfl B.enumerate (aF 0 rfl)) (jM (i:=3) (j:=4) ij.nd)
  (@aC _ _ _ _ _ (dQ (uZ.t (uL (bM (iw hr.units) ie (aI aM (hr.mono (by decide)) aV rfl rfl (ae (aF 1 rfl) (ae (aF 3 rfl) ar))) (af 1) (bw _)) (o8 (bM (gA hr.units) ie (ba IZ JN (af 1) (af 4)) (af 4) (bw _))) (λ_ _=>rfl)))
  (@aC _ _ _ _ _ (ll 2 (λ_=>rfl) (aF 3 rfl)))
  cF)))
  (@aC _ _ _ _ _ (ju 2))))⟩,λds h=>aX ds h⟩
abbrev kT:Stmt:=top 37
def jH:aK ["masks","full","ways","placed"] ["masks"] (av kT):=⟨rfl,rfl,rfl,by decide +kernel,rfl,by decide +kernel,by decide +kernel⟩
def v7 {aQ ay:List D->FR}(F:jJ K mg "ways_on" kT ["masks"] f fd)(B:j4 mg)(bH:cK P w K mg base ca "free_things" ["masks","placed"] 2 aQ)(aM:cK P w K mg base ca "with_thing" ["placed","thing"] 1 ay):cK P w K mg base ca "ways_on" ["masks"] 3 (bA 4 1 (lg aQ ay)):=
 ⟨⟨f,fd,F.mg,F.F.kp,F.b,bb (N:=["masks","full","ways","placed"]) (k:=2) F.F jH λcdv A outer s H G E hr=>
  (@ah _ _ _ _ _ _ _ (aO (i:=1) (ba pV vc (ba Em Hj ax (bo cA ji rfl B.len OK (af 0))) ax) jH.nd)
  (@ah _ _ _ _ _ _ _ (gF (i:=2) (ba kP sh (xu (bO (ae ax ar)) (af 1)) (bO (ae ax ar))) jH.nd)
  (@ah _ _ _ _ _ _ _ (eQ PassesOwn.leaving rfl (Lk rfl B.range (ba pV vc (af 1) ax) (sv oi sP ax) (sv oi sP ax)) (gk (i:=3) jH.nd)
  (@aC _ _ _ _ _ (ug 2 (λ_=>rfl) (bo (wM rfl) G6 rfl B.sum (by decide +kernel) (fT (NB:=["thing","ways","placed"]) (own:=1) (ixs:=[2,3]) [3] rfl (gy (by kernel_rfl)) (λ_ _=>rfl) (qS rfl (aI bH (hr.mono (by decide)) aV rfl rfl (ae (aF 0 rfl) (ae (aF 3 rfl) ar)))) (λH0 G0 par br bx C ex s3 H3 pn=>(gk (i:=0) (show (["thing","ways","placed"]:List Str).Nodup by decide +kernel))) (λH0 G0 par br bx C ex s3 H3 pn hB1=>iK) (λH0 G0 par br bx C ex s3 H3 pn hB1=>(bE a9 cN (af 1) (aI aM (hr.mono (by decide)) vU rfl rfl (ae (aF 2 (hB1 2 (by decide))) (ae (aF 0 (hB1 0 (by decide))) ar))) (λ_ _=>rfl))))) (af 3))))
  (@aC _ _ _ _ _ (ju 2)))))⟩,λds h=>aX ds h⟩
abbrev fP:Stmt:=top 35
def hU:aK ["order","masks","a","b"] ["order"] (av fP):=⟨rfl,rfl,rfl,by decide +kernel,rfl,by decide +kernel,by decide +kernel⟩
def oX {ay:List D->FR}(F:jJ K mg "masks_ahead" fP ["order"] f fd)(B:j4 mg)(aM:cK P w K mg base ca "with_thing" ["placed","thing"] 1 ay):cK P w K mg base ca "masks_ahead" ["order"] 2 (bA 4 1 (fQ ay)):=
 ⟨⟨f,fd,F.mg,F.F.kp,F.b,bb (N:=["order","masks","a","b"]) (k:=1) F.F hU λcdv A outer s H G E hr=>
  (@ah _ _ _ _ _ _ _ (gF (i:=1) (xu (bO (ae ax ar)) (bE a9 cN (af 0) ax (λ_ _=>rfl))) hU.nd)
  (@ah _ _ _ _ _ _ _ (eQ PassesOwn.leaving rfl (Cb rfl (bE a9 cN (af 0) ax (λ_ _=>rfl))) (jM (i:=2) (j:=3) hU.nd)
  (@aC _ _ _ _ _ (ug 1 (λ_=>rfl) (aI aM (hr.mono (by decide)) aV rfl rfl (ae (bE a9 cN (af 1) (af 3) (λ_ _=>rfl)) (ae (aF 2 rfl) ar))) (af 3))))
  (@aC _ _ _ _ _ (ju 1))))⟩,λds h=>aX ds h⟩
abbrev iF:Stmt:=top 30
def uA:aK ["order"] ["order"] (av iF):=⟨rfl,rfl,rfl,by decide +kernel,rfl,by decide +kernel,by decide +kernel⟩
def rb {aU bB aR:List D->FR}(F:jJ K mg "rows_many" iF ["order"] f fd)(B:j4 mg)(bQ:cK P w K mg base ca "need_order" ["thing"] 5 aU)(de:cK P w K mg base ca "ways_on" ["masks"] 3 bB)(bG:cK P w K mg base ca "masks_ahead" ["order"] 2 aR):cK P w K mg base ca "rows_many" ["order"] 6 (bA 1 1 (iN aU bB aR)):=
 ⟨⟨f,fd,F.mg,F.F.kp,F.b,bb (N:=["order"]) (k:=5) F.F uA λcdv A outer s H G E hr=>
  (@ah _ _ _ _ _ _ _ (mi (aI bQ (hr.mono (by decide)) aV rfl rfl (ae (aF 0 rfl) ar)))
  (@aC _ _ _ _ _ (bp (bE a9 cN (aI de (hr.mono (by decide)) aV rfl rfl (ae (aI bG (hr.mono (by decide)) aV rfl rfl (ae (aF 0 rfl) ar)) ar)) ax (λ_ _=>rfl)))))⟩,λds h=>aX ds h⟩
abbrev ni:Stmt:=top 32
def jg:aK ["masks","ways","placed","left","free","at"] ["masks","ways","placed","left"] (av ni):=⟨rfl,rfl,rfl,by decide +kernel,rfl,by decide +kernel,by decide +kernel⟩
def xJ {aQ ay:List D->FR}(F:jJ K mg "choose" ni ["masks","ways","placed","left"] f fd)(B:j4 mg)(bH:cK P w K mg base ca "free_things" ["masks","placed"] 2 aQ)(aM:cK P w K mg base ca "with_thing" ["placed","thing"] 1 ay):cK P w K mg base ca "choose" ["masks","ways","placed","left"] 3 (bA 6 4 (mz aQ ay)):=
 ⟨⟨f,fd,F.mg,F.F.kp,F.b,bb (N:=["masks","ways","placed","left","free","at"]) (k:=2) F.F jg λcdv A outer s H G E hr=>
  (@ah _ _ _ _ _ _ _ (aO (i:=4) (aI bH (hr.mono (by decide)) aV rfl rfl (ae (aF 0 rfl) (ae (aF 2 rfl) ar))) jg.nd)
  (@ah _ _ _ _ _ _ _ (aO (i:=5) ax jg.nd)
  (@ah _ _ _ _ _ _ _ (ny 1000 PassesOwn.leaving (bM Kl MG (af 3) (bE a9 cN (af 1) (aI aM (hr.mono (by decide)) aV rfl rfl (ae (aF 2 rfl) (ae (bE a9 cN (af 4) (af 5) (λ_ _=>rfl)) ar))) (λ_ _=>rfl)) (bw _))
  (@ah _ _ _ _ _ _ _ (aO (i:=3) (ba pV vc (af 3) (bE a9 cN (af 1) (aI aM (hr.mono (by decide)) aV rfl rfl (ae (aF 2 rfl) (ae (bE a9 cN (af 4) (af 5) (λ_ _=>rfl)) ar))) (λ_ _=>rfl))) jg.nd)
  (@aC _ _ _ _ _ (aO (i:=5) (ba iW iV (af 5) ax) jg.nd))))
  (@aC _ _ _ _ _ (bp (ig (ae (bE a9 cN (af 4) (af 5) (λ_ _=>rfl)) (ae (aF 3 rfl) ar))))))))⟩,λds h=>aX ds h⟩
abbrev lb:Stmt:=top 31
def cj:aK ["order","number","masks","ways","row","placed","left","step","choice"] ["order","number"] (av lb):=⟨rfl,rfl,rfl,by decide +kernel,rfl,by decide +kernel,by decide +kernel⟩
def wO {aU aR bB bg i9 ay:List D->FR}(F:jJ K mg "nth_row" lb ["order","number"] f fd)(B:j4 mg)(bQ:cK P w K mg base ca "need_order" ["thing"] 5 aU)(bG:cK P w K mg base ca "masks_ahead" ["order"] 2 aR)(de:cK P w K mg base ca "ways_on" ["masks"] 3 bB)(cn:cK P w K mg base ca "is_below" ["thing","bound"] 2 bg)(pZ:cK P w K mg base ca "choose" ["masks","ways","placed","left"] 3 i9)(aM:cK P w K mg base ca "with_thing" ["placed","thing"] 1 ay)(ip:Exc K mg ca "NoNumber"):cK P w K mg base ca "nth_row" ["order","number"] 6 (bA 9 2 (gX aU aR bB bg i9 ay)):=
 ⟨⟨f,fd,F.mg,F.F.kp,F.b,bb (N:=["order","number","masks","ways","row","placed","left","step","choice"]) (k:=5) F.F cj λcdv A outer s H G E hr=>
  (@ah _ _ _ _ _ _ _ (mi (aI bQ (hr.mono (by decide)) aV rfl rfl (ae (aF 0 rfl) ar)))
  (@ah _ _ _ _ _ _ _ (aO (i:=2) (aI bG (hr.mono (by decide)) aV rfl rfl (ae (aF 0 rfl) ar)) cj.nd)
  (@ah _ _ _ _ _ _ _ (aO (i:=3) (aI de (hr.mono (by decide)) aV rfl rfl (ae (aF 2 rfl) ar)) cj.nd)
  (@ah _ _ _ _ _ _ _ (dQ (gz (eJ rfl (aI cn (hr.mono (by decide)) aV rfl rfl (ae (aF 1 rfl) (ae (bE a9 cN (af 3) ax (λ_ _=>rfl)) ar)))))
  (@aC _ _ _ _ _ (pO ip.ex ip.ca rfl ip.mg (ae gu ar)))
  cF)
  (@ah _ _ _ _ _ _ _ (gF (i:=4) (bO ar) cj.nd)
  (@ah _ _ _ _ _ _ _ (aO (i:=5) ax cj.nd)
  (@ah _ _ _ _ _ _ _ (aO (i:=6) (aF 1 rfl) cj.nd)
  (@ah _ _ _ _ _ _ _ (eQ PassesOwn.leaving rfl (sD rfl B.range (bE a9 cN (af 0) ax (λ_ _=>rfl))) (gk (i:=7) cj.nd)
  (@ah _ _ _ _ _ _ _ (aO (i:=8) (aI pZ (hr.mono (by decide)) aV rfl rfl (ae (aF 2 rfl) (ae (aF 3 rfl) (ae (aF 5 rfl) (ae (aF 6 rfl) ar))))) cj.nd)
  (@ah _ _ _ _ _ _ _ (ll 4 (λ_=>rfl) (bE a9 cN (af 8) ax (λ_ _=>rfl)))
  (@ah _ _ _ _ _ _ _ (aO (i:=5) (aI aM (hr.mono (by decide)) aV rfl rfl (ae (aF 5 rfl) (ae (bE a9 cN (af 8) ax (λ_ _=>rfl)) ar))) cj.nd)
  (@aC _ _ _ _ _ (aO (i:=6) (bE a9 cN (af 8) ax (λ_ _=>rfl)) cj.nd))))))
  (@aC _ _ _ _ _ (bp (kA fS tZ rfl B.tuple (by decide +kernel) (af 4))))))))))))⟩,λds h=>aX ds h⟩
abbrev lj:Stmt:=top 34
def cD:aK ["order","row","masks","ways","rank","placed","thing","lesser"] ["order","row"] (av lj):=⟨rfl,rfl,rfl,by decide +kernel,rfl,by decide +kernel,by decide +kernel⟩
def wo {aU cL aR bB aQ ay:List D->FR}(F:jJ K mg "rank_of" lj ["order","row"] f fd)(B:j4 mg)(bQ:cK P w K mg base ca "need_order" ["thing"] 5 aU)(iY:cK P w K mg base ca "keeps_order" ["thing","order"] 4 cL)(bG:cK P w K mg base ca "masks_ahead" ["order"] 2 aR)(de:cK P w K mg base ca "ways_on" ["masks"] 3 bB)(bH:cK P w K mg base ca "free_things" ["masks","placed"] 2 aQ)(aM:cK P w K mg base ca "with_thing" ["placed","thing"] 1 ay)(mH:Exc K mg ca "NoRow"):cK P w K mg base ca "rank_of" ["order","row"] 6 (bA 8 2 (gY aU cL aR bB aQ ay)):=
 ⟨⟨f,fd,F.mg,F.F.kp,F.b,bb (N:=["order","row","masks","ways","rank","placed","thing","lesser"]) (k:=5) F.F cD λcdv A outer s H G E hr=>
  (@ah _ _ _ _ _ _ _ (mi (aI bQ (hr.mono (by decide)) aV rfl rfl (ae (aF 0 rfl) ar)))
  (@ah _ _ _ _ _ _ _ (dQ (gz (eJ rfl (aI iY (hr.mono (by decide)) aV rfl rfl (ae (aF 1 rfl) (ae (aF 0 rfl) ar)))))
  (@aC _ _ _ _ _ (pO mH.ex mH.ca rfl mH.mg (ae gu ar)))
  cF)
  (@ah _ _ _ _ _ _ _ (aO (i:=2) (aI bG (hr.mono (by decide)) aV rfl rfl (ae (aF 0 rfl) ar)) cD.nd)
  (@ah _ _ _ _ _ _ _ (aO (i:=3) (aI de (hr.mono (by decide)) aV rfl rfl (ae (aF 2 rfl) ar)) cD.nd)
  (@ah _ _ _ _ _ _ _ (aO (i:=4) ax cD.nd)
  (@ah _ _ _ _ _ _ _ (aO (i:=5) ax cD.nd)
  (@ah _ _ _ _ _ _ _ (eQ PassesOwn.leaving rfl (Cb rfl (aF 1 rfl)) (gk (i:=6) cD.nd)
  (@ah _ _ _ _ _ _ _ (z6 (i:=7) (NB:=["other","thing"]) (own:=1) (ixs:=[6]) [] rfl (gy (by kernel_rfl)) (λ_ _=>rfl) (qS rfl (aI bH (hr.mono (by decide)) aV rfl rfl (ae (aF 2 rfl) (ae (aF 5 rfl) ar)))) (λH0 G0 par br bx C ex s3 H3 pn=>(gk (i:=0) (show (["other","thing"]:List Str).Nodup by decide +kernel))) (λH0 G0 par br bx C ex s3 H3 pn hB1=>(o6 (bM wc Eh (af 0) (af 1) (bw _)))) (λH0 G0 par br bx C ex s3 H3 pn hB1=>(aF 0 (hB1 0 (by decide)))) cD.nd)
  (@ah _ _ _ _ _ _ _ (aO (i:=4) (ba iW iV (af 4) (bo (wM rfl) G6 rfl B.sum (by decide +kernel) (fT (NB:=["other","ways","placed"]) (own:=1) (ixs:=[3,5]) [5] rfl (gy (by kernel_rfl)) (λ_ _=>rfl) (qS rfl (af 7)) (λH0 G0 par br bx C ex s3 H3 pn=>(gk (i:=0) (show (["other","ways","placed"]:List Str).Nodup by decide +kernel))) (λH0 G0 par br bx C ex s3 H3 pn hB2=>iK) (λH0 G0 par br bx C ex s3 H3 pn hB2=>(bE a9 cN (af 1) (aI aM (hr.mono (by decide)) vU rfl rfl (ae (aF 2 (hB2 2 (by decide))) (ae (aF 0 (hB2 0 (by decide))) ar))) (λ_ _=>rfl)))))) cD.nd)
  (@aC _ _ _ _ _ (aO (i:=5) (aI aM (hr.mono (by decide)) aV rfl rfl (ae (aF 5 rfl) (ae (aF 6 rfl) ar))) cD.nd)))))
  (@aC _ _ _ _ _ (ju 4)))))))))⟩,λds h=>aX ds h⟩
abbrev iL:Stmt:=top 39
def uP:aK ["script","k"] ["script","k"] (av iL):=⟨rfl,rfl,rfl,by decide +kernel,rfl,by decide +kernel,by decide +kernel⟩
def rM (F:jJ K mg "_law_cell" iL ["script","k"] f fd)(B:j4 mg):cK P w K mg base ca "_law_cell" ["script","k"] 1 (bA 2 2 (fX)):=
 ⟨⟨f,fd,F.mg,F.F.kp,F.b,bb (N:=["script","k"]) (k:=0) F.F uP λcdv A outer s H G E hr=>
  (@ah _ _ _ _ _ _ _ (dQ (bM wc Eh (af 1) (bo cA ji rfl B.len OK (af 0)) (bw _))
  (@aC _ _ _ _ _ (bp (bE a9 cN (af 0) (af 1) (λ_ _=>rfl))))
  cF)
  (@aC _ _ _ _ _ (bp ax)))⟩,λds h=>aX ds h⟩
abbrev fC:Stmt:=top 40
def iB:aK ["cell","k","some","stir"] ["cell","k"] (av fC):=⟨rfl,rfl,rfl,by decide +kernel,rfl,by decide +kernel,by decide +kernel⟩
def sY:∃(es:List Expr) (p1 p2 p3:Pos),bX fC=.Assign [.Name "some" p1] (.List es p2) p3 :: (bX fC).drop 1/\constsOf es=some [48271,69621,16807,39373,30269,40014,40692,50021,61687,71993,83869,95561,30307]:=⟨_,_,_,_,rfl,by kernel_rfl⟩
def um (F:jJ K mg "_law_mix" fC ["cell","k"] f fd)(B:j4 mg):cK P w K mg base ca "_law_mix" ["cell","k"] 1 (bA 4 2 (jL)):=by
 obtain⟨es,p1,p2,p3,hb,hes⟩:=sY
 refine⟨⟨f,fd,F.mg,F.F.kp,F.b,bb (N:=["cell","k","some","stir"]) (k:=0) F.F iB λcdv A outer s H G E hr=>?_⟩,λds h=>aX ds h⟩
 rw[hb]
 exact (ah (aO (i:=2) (SE.wv (bO (su hes))) iB.nd) (@ah _ _ _ _ _ _ _ (aO (i:=3) (ba iW iV (ba iW iV (ba kB lQ (ba iW iV (ba lL sf (af 0) ax) ax) (bE a9 cN (af 2) (ba lL sf (af 1) ax) (λ_ _=>rfl))) (ba kB lQ ax (af 1))) (ba kB lQ ax (ba mX FW (af 1) ax))) iB.nd)
  (@ah _ _ _ _ _ _ _ (aO (i:=3) (ba lL sf (af 3) ax) iB.nd)
  (@aC _ _ _ _ _ (bp (ba mX FW (ba lL sf (ba iW iV (ba kB lQ (af 3) (af 3)) (ba kB lQ ax (af 1))) ax) ax))))))
abbrev jv:Stmt:=top 41
def fU:aK ["script","k","cell","number","j"] ["script","k"] (av jv):=⟨rfl,rfl,rfl,by decide +kernel,rfl,by decide +kernel,by decide +kernel⟩
def uN {dO fm:List D->FR}(F:jJ K mg "_law_box" jv ["script","k"] f fd)(B:j4 mg)(kz:cK P w K mg base ca "_law_cell" ["script","k"] 1 dO)(lM:cK P w K mg base ca "_law_mix" ["cell","k"] 1 fm):cK P w K mg base ca "_law_box" ["script","k"] 2 (bA 5 2 (jx dO fm)):=
 ⟨⟨f,fd,F.mg,F.F.kp,F.b,bb (N:=["script","k","cell","number","j"]) (k:=1) F.F fU λcdv A outer s H G E hr=>
  (@ah _ _ _ _ _ _ _ (aO (i:=2) (aI kz (hr.mono (by decide)) aV rfl rfl (ae (aF 0 rfl) (ae (aF 1 rfl) ar))) fU.nd)
  (@ah _ _ _ _ _ _ _ (dQ (bM (gA hr.units) ie (ba lL sf (af 2) ax) ax (bw _))
  (@aC _ _ _ _ _ (uy (bO (ae (ba mX FW (bo DC JY rfl B.abs (by decide +kernel) (af 2)) ax) ar))))
  cF)
  (@ah _ _ _ _ _ _ _ (aO (i:=3) ax fU.nd)
  (@ah _ _ _ _ _ _ _ (eQ PassesOwn.leaving rfl (sD rfl B.range ax) (gk (i:=4) fU.nd)
  (@aC _ _ _ _ _ (aO (i:=3) (ba iW iV (ba kB lQ (af 3) ax) (aI lM (hr.mono (by decide)) aV rfl rfl (ae (aF 2 rfl) (ae (aF 4 rfl) ar)))) fU.nd)))
  (@aC _ _ _ _ _ (uy (bO (ae (aF 3 rfl) ar))))))))⟩,λds h=>aX ds h⟩
abbrev iH:Stmt:=top 42
def nv:aK ["box","many","left","digit"] ["box","many"] (av iH):=⟨rfl,rfl,rfl,by decide +kernel,rfl,by decide +kernel,by decide +kernel⟩
def qY (F:jJ K mg "_law_take" iH ["box","many"] f fd)(B:j4 mg):lr P w K mg base "_law_take" ["box","many"] 1 cq:=by
 refine⟨⟨f,fd,F.mg,F.F.kp,F.b,?_⟩,λds β h=>?_⟩
 ·refine F.F.u9 nv (λvs H Q E h=>?_) (λcdv A outer s H vs Q E hr h=>?_)
  ·obtain⟨b,rest,G,ds,β,rfl,hb,gb,sG,hl,r,_⟩:=h
   rw[N0,r.len,hl];rfl
  ·obtain⟨b,rest,G,ds,β,rfl,hb,gb,sG,hl,r,h⟩:=h
   obtain⟨m,rfl,h0,h1⟩:=y9 (λz=>by rw[z] at h;exact h)
   rw[tW h0 h1] at h
   have kk:∀v G' H',iy (some b) H H'->H' b=some (.lst [.int (β / m)])->aw G G'->aw G' H'->(∀c,Mx H c->G c=none->G' c=none)->FV K H G' H' false (.int (β % m)) v->Q v H':=h
   cases r with
   |cons r1 r2=>
    cases r1
    cases r2
    refine⟨_,cz (qc (bu vB rfl B.divmod (by decide +kernel) (ak (ku fG (pv 0) pY (λ_ _=>rfl)) (ak (pv 1) aN))) (ER (i:=2) (j:=3) nv.nd rfl rfl rfl rfl rfl))
     (cz (qc (pv 2) (tw (pv 0) pY set_list)) (dE (i0 (pv 3)))),?_⟩
    refine⟨_,rfl,b,_,0,.int β,rfl,rfl,.inl (.inl hb),rfl,_,rfl,β,m,rfl,⟨h0,h1⟩,λp hp=>⟨p,_,rfl,.inl (.inl au),rfl,_,_,rfl,_,_,rfl,rfl,?_⟩⟩
    have hbp:b≠p:=aL hb hp
    exact⟨_,rfl,_,rfl,b,[.int β],0,0,rfl,rfl,by rw[aB hbp];exact hb,rfl,_,rfl,D9 hb sG hp kk gb⟩
 ·obtain⟨m,rfl,_⟩:=y9 h
  rfl
abbrev gJ:Stmt:=top 43
def rm:aK ["thing"] ["thing"] (av gJ):=⟨rfl,rfl,rfl,by decide +kernel,rfl,by decide +kernel,by decide +kernel⟩
def qq (F:jJ K mg "_law_whole" gJ ["thing"] f fd)(B:j4 mg):cK P w K mg base ca "_law_whole" ["thing"] 1 (bA 1 1 (l7)):=
 ⟨⟨f,fd,F.mg,F.F.kp,F.b,bb (N:=["thing"]) (k:=0) F.F rm λcdv A outer s H G E hr=>
  (@aC _ _ _ _ _ (bp (lR (jV "int" (by decide) rfl rfl B.isinstance rfl B.int (by decide +kernel) (af 0)) (lH (xO (jV "bool" (by decide) rfl rfl B.isinstance rfl B.bool (by decide +kernel) (af 0)))) (λ_ _=>rfl))))⟩,λds h=>aX ds h⟩
abbrev jY:Stmt:=top 44
def kF:aK ["box","some"] ["box"] (av jY):=⟨rfl,rfl,rfl,by decide +kernel,rfl,by decide +kernel,by decide +kernel⟩
def ub {aG:List D->Int->FB}(F:jJ K mg "_law_odd" jY ["box"] f fd)(B:j4 mg)(aS:lr P w K mg base "_law_take" ["box","many"] 1 aG):lr P w K mg base "_law_odd" ["box"] 2 (o5 2 0 (jQ aG)):=
 ⟨⟨f,fd,F.mg,F.F.kp,F.b,mF (ca:=λ_=>0) (N:=["box","some"]) (k:=1) F.F kF (by decide) λcdv A outer s H G b E hr=>
  (@ah _ _ _ _ _ _ _ (@Lf _ _ _ 1 _ _ (aa (cst .none) (aa (cst (.bool true)) (aa (cst (.bool false)) (aa (cst (.int (-1))) (aa (cst (.int 0)) (aa (cst (.int 1)) (aa (cst (.str "")) (aa (cst (.str "1")) (aa (cv ag) (aa (bC ag) (aa (cv (aa (cst (.int 0)) ag)) (aa (cv (aa (cst (.int 1)) (aa (cv ag) ag))) (aa (bC (aa (cst (.int 0)) ag)) ag))))))))))))) ([] ++ ([] ++ ([] ++ ([] ++ ([] ++ ([] ++ ([] ++ ([] ++ ([] ++ ([] ++ (([] ++ []) ++ (([] ++ ([] ++ [])) ++ (([] ++ []) ++ []))))))))))))) _ _ _ [] (by kernel_rfl) (λ_=>rfl) (by kernel_rfl) kF.nd rfl (by first |exact Or.inl rfl |exact Or.inr rfl) (by first |exact .inl rfl |exact .inr rfl))
  (@ah _ _ _ _ _ _ _ (aO (i:=1) (@SE.wv _ _ _ _ _ _ (ba kP sh (af 1) (@GX _ _ _ _ (aa (cst (.dict [(.str "a",.int 1)])) (aa (cv (aa (cst (.int 0)) (aa (cst (.int 1)) ag))) (aa (f2 (cst (.int 10)) (cst (.int 39)) AF) (aa (cv (aa (cv (aa (cst (.int 0)) (aa (cst (.int 1)) ag))) ag)) (aa (cst (.str "a")) ag))))) ([] ++ (([] ++ ([] ++ [])) ++ ([] ++ ((([] ++ ([] ++ [])) ++ []) ++ ([] ++ []))))) _ [] (by kernel_rfl) (λ_=>rfl) (by kernel_rfl)))) kF.nd)
  (@aC _ _ _ _ _ (bp (bE a9 cN (af 1) (jk 0 aS (hr.mono (by decide)) aV rfl rfl (ae ax ar)) (λ_ _=>rfl))))))⟩,λds β h=>mP ds β h⟩
abbrev dF:Stmt:=top 45
def fq:aK ["box","some","left","found"] ["box","some"] (av dF):=⟨rfl,rfl,rfl,by decide +kernel,rfl,by decide +kernel,by decide +kernel⟩
def mL {aG:List D->Int->FB}(F:jJ K mg "_law_mixed_up" dF ["box","some"] f fd)(B:j4 mg)(aS:lr P w K mg base "_law_take" ["box","many"] 1 aG):lr P w K mg base "_law_mixed_up" ["box","some"] 2 (o5 4 1 (dD aG)):=
 ⟨⟨f,fd,F.mg,F.F.kp,F.b,mF (ca:=λ_=>0) (N:=["box","some","left","found"]) (k:=1) F.F fq (by decide) λcdv A outer s H G b E hr=>
  (@ah _ _ _ _ _ _ _ (gF (i:=2) (kA mM DR rfl B.list (by decide +kernel) (af 1)) fq.nd)
  (@ah _ _ _ _ _ _ _ (gF (i:=3) (bO ar) fq.nd)
  (@ah _ _ _ _ _ _ _ (ny 1000 PassesOwn.leaving (bM (iw hr.units) ie (af 2) (bO ar) (bw _))
  (@aC _ _ _ _ _ (AH 3 2 (λ_=>rfl) (jk 0 aS (hr.mono (by decide)) aV rfl rfl (ae (bo cA ji rfl B.len OK (af 2)) ar)))))
  (@aC _ _ _ _ _ (ju 3)))))⟩,λds β h=>mP ds β h⟩
abbrev fM:Stmt:=top 46
def bI:aK ["pairs","found","size","more","a","b"] ["pairs"] (av fM):=⟨rfl,rfl,rfl,by decide +kernel,rfl,by decide +kernel,by decide +kernel⟩
def oR (F:jJ K mg "_law_closed" fM ["pairs"] f fd)(B:j4 mg):cK P w K mg base ca "_law_closed" ["pairs"] 1 (bA 6 1 (fI)):=
 ⟨⟨f,fd,F.mg,F.F.kp,F.b,bb (N:=["pairs","found","size","more","a","b"]) (k:=0) F.F bI λcdv A outer s H G E hr=>
  (@ah _ _ _ _ _ _ _ (aO (i:=1) (@SE.wv _ _ _ _ _ _ (pS rfl hr.units rfl rfl B.sorted rfl B.set (af 0))) bI.nd)
  (@ah _ _ _ _ _ _ _ (aO (i:=2) (sv oi sP ax) bI.nd)
  (@ah _ _ _ _ _ _ _ (ny 1000 PassesOwn.leaving (bM (iw hr.units) ie (af 2) (bo cA ji rfl B.len OK (af 1)) (bw _))
  (@ah _ _ _ _ _ _ _ (aO (i:=2) (bo cA ji rfl B.len OK (af 1)) bI.nd)
  (@ah _ _ _ _ _ _ _ (aO (i:=3) (@SE.wv _ _ _ _ _ _ (bO ar)) bI.nd)
  (@ah _ _ _ _ _ _ _ (eQ PassesOwn.leaving rfl (Cb rfl (aF 1 rfl)) (jM (i:=4) (j:=5) bI.nd)
  (@aC _ _ _ _ _ (aO (i:=3) (@SE.wv _ _ _ _ _ _ (ba kP sh (af 3) (fT (NB:=["c","d","b","a"]) (own:=2) (ixs:=[5,4]) [4] rfl (gy (by kernel_rfl)) (λ_ _=>rfl) (qS rfl (af 1)) (λH0 G0 par br bx C ex s3 H3 pn=>(jM (i:=0) (j:=1) (show (["c","d","b","a"]:List Str).Nodup by decide +kernel))) (λH0 G0 par br bx C ex s3 H3 pn hB1=>(o6 (bM (gA hr.units) ie (af 0) (af 2) (bw _)))) (λH0 G0 par br bx C ex s3 H3 pn hB1=>(ig (ae (aF 3 (hB1 3 (by decide))) (ae (aF 1 (hB1 1 (by decide))) ar))))))) bI.nd)))
  (@aC _ _ _ _ _ (aO (i:=1) (@SE.wv _ _ _ _ _ _ (pS rfl hr.units rfl rfl B.sorted rfl B.set (ba kP sh (af 1) (af 3)))) bI.nd))))))
  (@aC _ _ _ _ _ (bp (kA fS tZ rfl B.tuple (by decide +kernel) (af 1)))))))⟩,λds h=>aX ds h⟩
abbrev gN:Stmt:=top 47
def cm:aK ["box","most","many","names","thin","pairs","i","j"] ["box","most"] (av gN):=⟨rfl,rfl,rfl,by decide +kernel,rfl,by decide +kernel,by decide +kernel⟩
def qy {cM:List D->FR}{aG aZ:List D->Int->FB}(F:jJ K mg "_law_order" gN ["box","most"] f fd)(B:j4 mg)(iR:cK P w K mg base ca "_law_closed" ["pairs"] 1 cM)(aS:lr P w K mg base "_law_take" ["box","many"] 1 aG)(b4:lr P w K mg base "_law_mixed_up" ["box","some"] 2 aZ):lr P w K mg base "_law_order" ["box","most"] 3 (o5 8 1 (gK cM aG aZ)):=
 ⟨⟨f,fd,F.mg,F.F.kp,F.b,mF (ca:=ca) (N:=["box","most","many","names","thin","pairs","i","j"]) (k:=2) F.F cm (by decide) λcdv A outer s H G b E hr=>
  (@ah _ _ _ _ _ _ _ (aO (i:=2) (ba iW iV ax (jk 0 aS (hr.mono (by decide)) aV rfl rfl (ae (aF 1 rfl) ar))) cm.nd)
  (@ah _ _ _ _ _ _ _ (aO (i:=3) (jk 0 b4 (hr.mono (by decide)) aV rfl rfl (ae (@SE.wv _ _ _ _ _ _ (lT rfl rfl B.list rfl B.range (af 2))) ar)) cm.nd)
  (@ah _ _ _ _ _ _ _ (aO (i:=4) (bE a9 cN (bO (ae ax (ae ax (ae ax (ae ax ar))))) (jk 0 aS (hr.mono (by decide)) aV rfl rfl (ae ax ar)) (λ_ _=>rfl)) cm.nd)
  (@ah _ _ _ _ _ _ _ (gF (i:=5) (bO ar) cm.nd)
  (@ah _ _ _ _ _ _ _ (eQ PassesOwn.leaving rfl (sD rfl B.range (af 2)) (gk (i:=6) cm.nd)
  (@aC _ _ _ _ _ (eQ PassesOwn.leaving rfl (KH rfl B.range (ba iW iV (af 6) ax) (af 2)) (gk (i:=7) cm.nd)
  (@aC _ _ _ _ _ (dQ (bM (gA hr.units) ie (jk 0 aS (hr.mono (by decide)) aV rfl rfl (ae (aF 4 rfl) ar)) ax (bw _))
  (@aC _ _ _ _ _ (ll 5 (λ_=>rfl) (ig (ae (bE a9 cN (af 3) (af 6) (λ_ _=>rfl)) (ae (bE a9 cN (af 3) (af 7) (λ_ _=>rfl)) ar)))))
  cF)))))
  (@aC _ _ _ _ _ (bp (ig (ae (aF 2 rfl) (ae (aI iR (hr.mono (by decide)) aV rfl rfl (ae (aF 5 rfl) ar)) ar))))))))))⟩,λds β h=>mP ds β h⟩
abbrev iI:Stmt:=top 48
def uw:aK ["order","row"] ["order","row"] (av iI):=⟨rfl,rfl,rfl,by decide +kernel,rfl,by decide +kernel,by decide +kernel⟩
def rf (F:jJ K mg "_law_fits" iI ["order","row"] f fd)(B:j4 mg):cK P w K mg base ca "_law_fits" ["order","row"] 1 (bA 2 2 (iO)):=
 ⟨⟨f,fd,F.mg,F.F.kp,F.b,bb (N:=["order","row"]) (k:=0) F.F uw λcdv A outer s H G E hr=>
  (@aC _ _ _ _ _ (bp (nz (gA hr.units) ie (fT (NB:=["a","b","row"]) (own:=2) (ixs:=[1]) [] rfl (gy (by kernel_rfl)) (λ_ _=>rfl) (qS rfl (bE a9 cN (af 0) ax (λ_ _=>rfl))) (λH0 G0 par br bx C ex s3 H3 pn=>(jM (i:=0) (j:=1) (show (["a","b","row"]:List Str).Nodup by decide +kernel))) (λH0 G0 par br bx C ex s3 H3 pn hB1=>(o6 (bM KR LX (wz rfl (af 2) (af 0)) (wz rfl (af 2) (af 1)) (bw _)))) (λH0 G0 par br bx C ex s3 H3 pn hB1=>ax)) (bO ar) (bw _))))⟩,λds h=>aX ds h⟩
abbrev jU:Stmt:=top 49
def dN:aK ["box","order","row","free","thing","left"] ["box","order"] (av jU):=⟨rfl,rfl,rfl,by decide +kernel,rfl,by decide +kernel,by decide +kernel⟩
def uK {aG:List D->Int->FB}(F:jJ K mg "_law_row" jU ["box","order"] f fd)(B:j4 mg)(aS:lr P w K mg base "_law_take" ["box","many"] 1 aG):lr P w K mg base "_law_row" ["box","order"] 2 (o5 6 1 (jC aG)):=
 ⟨⟨f,fd,F.mg,F.F.kp,F.b,mF (ca:=λ_=>0) (N:=["box","order","row","free","thing","left"]) (k:=1) F.F dN (by decide) λcdv A outer s H G b E hr=>
  (@ah _ _ _ _ _ _ _ (aO (i:=2) (ig ar) dN.nd)
  (@ah _ _ _ _ _ _ _ (ny 1000 PassesOwn.leaving (bM wc Eh (bo cA ji rfl B.len OK (af 2)) (bE a9 cN (af 1) ax (λ_ _=>rfl)) (bw _))
  (@ah _ _ _ _ _ _ _ (gF (i:=3) (bO ar) dN.nd)
  (@ah _ _ _ _ _ _ _ (eQ PassesOwn.leaving rfl (sD rfl B.range (bE a9 cN (af 1) ax (λ_ _=>rfl))) (gk (i:=4) dN.nd)
  (@ah _ _ _ _ _ _ _ (z6 (i:=5) (NB:=["a","b","thing","row"]) (own:=2) (ixs:=[4,2]) [] rfl (gy (by kernel_rfl)) (λ_ _=>rfl) (qS rfl (bE a9 cN (af 1) ax (λ_ _=>rfl))) (λH0 G0 par br bx C ex s3 H3 pn=>(jM (i:=0) (j:=1) (show (["a","b","thing","row"]:List Str).Nodup by decide +kernel))) (λH0 G0 par br bx C ex s3 H3 pn hB1=>(o6 (uZ.t (uL (bM (gA hr.units) ie (af 1) (af 2) (bw _)) (o8 (bM (sy hr.u1) Ke (af 0) (af 3) (by with_unfolding_all rfl))) (λi hi=>hB1 i (by revert i hi;decide)))))) (λH0 G0 par br bx C ex s3 H3 pn hB1=>(aF 0 (hB1 0 (by decide)))) dN.nd)
  (@aC _ _ _ _ _ (dQ (uZ.t (uL (bM (sy hr.u1) Ke (af 4) (af 2) (by with_unfolding_all rfl)) (o8 (bM (gA hr.units) ie (af 5) (bO ar) (bw _))) (λ_ _=>rfl)))
  (@aC _ _ _ _ _ (ll 3 (λ_=>rfl) (aF 4 rfl)))
  cF))))
  (@aC _ _ _ _ _ (aO (i:=2) (ba nr uO (af 2) (ig (ae (bE a9 cN (af 3) (jk 0 aS (hr.mono (by decide)) aV rfl rfl (ae (bo cA ji rfl B.len OK (af 3)) ar)) (λ_ _=>rfl)) ar))) dN.nd)))))
  (@aC _ _ _ _ _ (ju 2))))⟩,λds β h=>mP ds β h⟩
abbrev fH:Stmt:=top 50
def pW:aK ["thing","many"] ["thing","many"] (av fH):=⟨rfl,rfl,rfl,by decide +kernel,rfl,by decide +kernel,by decide +kernel⟩
def oZ {cY:List D->FR}(F:jJ K mg "_law_is_row" fH ["thing","many"] f fd)(B:j4 mg)(jD:cK P w K mg base ca "_law_whole" ["thing"] 1 cY):cK P w K mg base ca "_law_is_row" ["thing","many"] 2 (bA 2 2 (fK cY)):=
 ⟨⟨f,fd,F.mg,F.F.kp,F.b,bb (N:=["thing","many"]) (k:=1) F.F pW λcdv A outer s H G E hr=>
  (@ah _ _ _ _ _ _ _ (dQ (uZ.t (pF (gz (eJ rfl (jV "tuple" (by decide) rfl rfl B.isinstance rfl B.tuple (by decide +kernel) (af 0)))) (pF (bM (iw hr.units) ie (bo cA ji rfl B.len OK (af 0)) (af 1) (bw _)) (nW (gz (eJ rfl (bo (mG rfl) mf rfl B.all (by decide +kernel) (fT (NB:=["one"]) (own:=1) (ixs:=[]) [] rfl (gy (by kernel_rfl)) (λ_ _=>rfl) (qS rfl (af 0)) (λH0 G0 par br bx C ex s3 H3 pn=>(gk (i:=0) (show (["one"]:List Str).Nodup by decide +kernel))) (λH0 G0 par br bx C ex s3 H3 pn hB1=>iK) (λH0 G0 par br bx C ex s3 H3 pn hB1=>(aI jD (hr.mono (by decide)) vU rfl rfl (ae (aF 0 (hB1 0 (by decide))) ar)))))))) (λ_ _=>rfl)) (λ_ _=>rfl)))
  (@aC _ _ _ _ _ (bp jl))
  cF)
  (@aC _ _ _ _ _ (bp (nz (gA hr.units) ie (bo yM E7 rfl B.sorted (by decide +kernel) (af 0)) (lT rfl rfl B.list rfl B.range (af 1)) (bw _)))))⟩,λds h=>aX ds h⟩
abbrev iC:Stmt:=top 52
def l9:aK ["kind","order","thing","e"] ["kind","order","thing"] (av iC):=⟨rfl,rfl,rfl,by decide +kernel,rfl,by decide +kernel,by decide +kernel⟩
def rJ {marks:Str->Option Str}{g9 gQ:List D->FR}(F:jJ K mg "_law_said" iC ["kind","order","thing"] f fd)(B:j4 mg)(nG:cK P w K mg base ca "nth_row" ["order","number"] 6 g9)(nP:cK P w K mg base ca "rank_of" ["order","row"] 6 gQ)(MK:Fc P w K mg base ca "RankError" "_law_marks" marks):cK P w K mg base ca "_law_said" ["kind","order","thing"] 7 (bA 4 3 (bS marks g9 gQ)):=
 ⟨⟨f,fd,F.mg,F.F.kp,F.b,bb (N:=["kind","order","thing","e"]) (k:=6) F.F l9 λcdv A outer s H G E hr=>
  (@ah _ _ _ _ _ _ _ (EK (i:=3) MK hr (λEb Ex pn H G hpT=>
  (@aC _ _ _ _ _ (dQ (bM (gA hr.units) ie (af 0) ax (bw _))
  (@aC _ _ _ _ _ (mi (aI nG (hr.mono (by decide)) hpT rfl rfl (ae (aF 1 rfl) (ae (aF 2 rfl) ar)))))
  (@aC _ _ _ _ _ (mi (aI nP (hr.mono (by decide)) hpT rfl rfl (ae (aF 1 rfl) (ae (aF 2 rfl) ar))))))))
  l9.nd)
  (@aC _ _ _ _ _ (bp gu)))⟩,λds h=>aX ds h⟩
abbrev lD:Stmt:=top 53
def e8:aK ["script","k","box","order","many","none","thing","row","any_row","due"] ["script"] (av lD):=⟨rfl,rfl,rfl,by decide +kernel,rfl,by decide +kernel,by decide +kernel⟩
def FX {eZ dR b7 cJ dS:List D->FR}{df aG fB aZ fE:List D->Int->FB}(F:jJ K mg "law" lD ["script"] f fd)(B:j4 mg)(lU:cK P w K mg base ca "_law_box" ["script","k"] 2 eZ)(kr:cK P w K mg base ca "rows_many" ["order"] 6 dR)(dM:cK P w K mg base ca "_law_said" ["kind","order","thing"] 7 b7)(i3:cK P w K mg base ca "_law_is_row" ["thing","many"] 2 cJ)(ki:cK P w K mg base ca "_law_fits" ["order","row"] 1 dS)(jw:lr P w K mg base "_law_order" ["box","most"] 3 df)(aS:lr P w K mg base "_law_take" ["box","many"] 1 aG)(lX:lr P w K mg base "_law_row" ["box","order"] 2 fB)(b4:lr P w K mg base "_law_mixed_up" ["box","some"] 2 aZ)(lP:lr P w K mg base "_law_odd" ["box"] 2 fE):gj P w K mg base (me P w) 8 f fd ["script"] (Ez K ca 1 (bA 10 1 (zy eZ dR b7 cJ dS df aG fB aZ fE))):=
 bb (N:=["script","k","box","order","many","none","thing","row","any_row","due"]) (k:=7) F.F e8 λcdv A outer s H G E hr=>
  (@ah _ _ _ _ _ _ _ (eQ PassesOwn.leaving rfl (sD rfl B.range (vb (Bq rfl) HX rfl B.max (by decide +kernel) ax (vb (Bu rfl) Hr rfl B.min (by decide +kernel) (bo cA ji rfl B.len OK (af 0)) ax))) (gk (i:=1) e8.nd)
  (@ah _ _ _ _ _ _ _ (FC (i:=2) rfl (Dy lU (hr.mono (by decide)) aV rfl rfl (ae (aF 0 rfl) (ae (aF 1 rfl) ar))) e8.nd)
  (@ah _ _ _ _ _ _ _ (aO (i:=3) (jk 2 jw (hr.mono (by decide)) aV rfl rfl (ae ax ar)) e8.nd)
  (@ah _ _ _ _ _ _ _ (aO (i:=4) (aI kr (hr.mono (by decide)) aV rfl rfl (ae (aF 3 rfl) ar)) e8.nd)
  (@ah _ _ _ _ _ _ _ (aO (i:=5) (@SE.wv _ _ _ _ _ _ (bO (ae (aF 4 rfl) (ae (ba iW iV (af 4) (jk 2 aS (hr.mono (by decide)) aV rfl rfl (ae ax ar))) (ae (sv oi sP ax) (ae jl (ae yi (ae gu (ae (ig (ae ax ar)) (ae (@SE.wv _ _ _ _ _ _ (bO (ae ax ar))) (ae (ba De GS ax ax) ar))))))))))) e8.nd)
  (@ah _ _ _ _ _ _ _ (eQ PassesOwn.leaving rfl (Cb rfl (@SE.wv _ _ _ _ _ _ (ba kP sh (af 5) (bO (ae (ba pV vc (sv oi sP ax) (jk 2 aS (hr.mono (by decide)) aV rfl rfl (ae ax ar))) ar))))) (gk (i:=6) e8.nd)
  (@aC _ _ _ _ _ (dQ (bM (iw hr.units) ie (aI dM (hr.mono (by decide)) aV rfl rfl (ae ax (ae (aF 3 rfl) (ae (aF 6 rfl) ar)))) gu (bw _))
  (@aC _ _ _ _ _ (bp jl))
  cF)))
  (@ah _ _ _ _ _ _ _ (aO (i:=7) (jk 2 lX (hr.mono (by decide)) aV rfl rfl (ae (aF 3 rfl) ar)) e8.nd)
  (@ah _ _ _ _ _ _ _ (aO (i:=8) (kA fS tZ rfl B.tuple (by decide +kernel) (jk 2 b4 (hr.mono (by decide)) aV rfl rfl (ae (@SE.wv _ _ _ _ _ _ (lT rfl rfl B.list rfl B.range (bE a9 cN (af 3) ax (λ_ _=>rfl)))) ar))) e8.nd)
  (@ah _ _ _ _ _ _ _ (aO (i:=5) (@SE.wv _ _ _ _ _ _ (bO (ae (@SE.wv _ _ _ _ _ _ (kA mM DR rfl B.list (by decide +kernel) (af 7))) (ae (nF rfl (af 7) (ph ax) z8) (ae (ba nr uO (af 7) (ig (ae ax ar))) (ae (ba nr uO (ba nr uO (nF rfl (af 7) (ph ax) z8) (nF rfl (af 7) (ph ax) (ph ax))) (ig (ae ax ar))) (ae yi (ae gu (ae EX ar))))))))) e8.nd)
  (@ah _ _ _ _ _ _ _ (eQ PassesOwn.leaving rfl (Cb rfl (@SE.wv _ _ _ _ _ _ (ba kP sh (af 5) (bO (ae (aF 8 rfl) (ae (jk 2 lP (hr.mono (by decide)) aV rfl rfl ar) ar)))))) (gk (i:=6) e8.nd)
  (@ah _ _ _ _ _ _ _ (aO (i:=9) gu e8.nd)
  (@ah _ _ _ _ _ _ _ (dQ (uZ.t (uL (eJ rfl (aI i3 (hr.mono (by decide)) aV rfl rfl (ae (aF 6 rfl) (ae (bE a9 cN (af 3) ax (λ_ _=>rfl)) ar)))) (o8 (eJ rfl (aI ki (hr.mono (by decide)) aV rfl rfl (ae (aF 3 rfl) (ae (aF 6 rfl) ar))))) (λ_ _=>rfl)))
  (@aC _ _ _ _ _ (aO (i:=9) gu e8.nd))
  cF)
  (@aC _ _ _ _ _ (dQ (bM (iw hr.units) ie (aI dM (hr.mono (by decide)) aV rfl rfl (ae ax (ae (aF 3 rfl) (ae (aF 6 rfl) ar)))) (af 9) (bw _))
  (@aC _ _ _ _ _ (bp jl))
  cF)))))
  (@aC _ _ _ _ _ (dQ (uZ.t (pF (bM (iw hr.units) ie (aI dM (hr.mono (by decide)) aV rfl rfl (ae ax (ae (aF 3 rfl) (ae (ba pV vc (af 4) ax) ar)))) gu (bw _)) (nW (bM (iw hr.units) ie (aI dM (hr.mono (by decide)) aV rfl rfl (ae ax (ae (aF 3 rfl) (ae (aF 7 rfl) ar)))) gu (bw _))) (λ_ _=>rfl)))
  (@aC _ _ _ _ _ (bp jl))
  cF))))))))))))
  (@aC _ _ _ _ _ (bp jl)))
end
end RQ
namespace RM
open PySem L2
theorem yj (h:t vs β=.ok a β)(h':u vs β=.ok b β):zX t u vs β=.ok (a && b) β:=by
 rw[yH,h];dsimp only[R.bnd]
 cases a with
 |true=>rw[NG rfl,h'];rfl
 |false=>rfl
def dJ (h:t vs β=.ok a β):uX t vs β=.ok (!a) β:=by rw[uj,h];rfl
def JA (n:Nat):(eB n).Pairwise (· < ·):=by
 unfold eB
 rw[OI]
 exact List.pairwise_lt_range.imp λ{a b} h=>by omega
def Jd {fa:VF D}{vs:List Nv}{β:Int}{l:List Pr}{f:Pr->Bool}(h:fa vs β=.ok (.list (l.map λq=>PyData.bool (f q))) β):f1 fa (dH λbs=>bs.all id) vs β=.ok (.bool (l.all f)) β:=by
 refine dg h ?_
 simp only[dH]
 rw[i7]
 simp[all_map]
def tupI (r:List Int):D:=.tuple (r.map int)
def zS (h:fa vs β=.ok (tupI r) β)(h':fb vs β=.ok (.int k) β)(hk:k∈r):yO fa fb vs β=.ok (.int (r.idxOf k:Nat)) β:=by
 unfold yO
 rw[h]
 dsimp only[R.bnd]
 rw[NG (by rfl),h']
 dsimp only[R.bnd,Ft,tupI]
 rw[dP]
 dsimp only
 rw[NG hk];rfl
def Dw:D->Bool
 | .tuple _=>true
 |_=>false
theorem zU {d:D}(h:Dw d=true):∃ds,d=.tuple ds:=by
 cases d with
 |tuple ds=>exact⟨ds,rfl⟩
 |_=>cases h
def D3 {d:D}(h:b9 d=false):jd "tuple" d=some (.bool (Dw d)):=by
 unfold jd;rw[h];cases d <;> rfl
section
variable {fa fb:VF D}{vs:List Nv}{β:Int}
def Hd {d:D}(ha:fa vs β=.ok d β)(h:b9 d=false):oQ (f1 fa (jd "tuple")) vs β=.ok (Dw d) β:=mn (dg ha (D3 h))
def zg {l:List D}{f:D->Bool}(h:fa vs β=.ok (.list (l.map λq=>PyData.bool (f q))) β):f1 fa (dH λbs=>bs.all id) vs β=.ok (.bool (l.all f)) β:=by
 refine dg h ?_
 simp only[dH]
 rw[i7]
 simp[all_map]
def DK {ds:List D}(ha:fa vs β=.ok (.tuple ds) β):f1 fa cR vs β=.ok (.int ds.length) β:=dg ha rfl
def CD (h:t vs β=.ok true β):oS t u vs β=.ok true β:=by rw[tK,h];rfl
def oK (h:t vs β=.ok false β)(h':u vs β=.ok c β):oS t u vs β=.ok c β:=by rw[tK,h];exact h'
def Lp (h:fa vs β=.ok (.bool false) β):iz fa fb vs β=.ok (.bool false) β:=by unfold iz;rw[h];rfl
def Kv {d:D}(h:fa vs β=.ok (.bool true) β)(h':fb vs β=.ok d β):iz fa fb vs β=.ok d β:=by unfold iz;rw[h];exact h'
end
def Sq (c k:Nat)(d:D):Prop:=d.showable=true/\d.depth<=k/\d.shown.length<=c
def Sq.mono {d:D}(h:Sq c k d)(h1:c<=c')(h2:k<=k'):Sq c' k' d:=⟨h.1,OT h.2.1 h2,OT h.2.2 h1⟩
theorem xp :∀{ds:List D},(∀d,d∈ds->Sq c k d)->PyData.showableAll ds=true/\PyData.depthAll ds<=k/\(∀t,t∈PyData.shownAll ds->t.length<=c)/\(PyData.shownAll ds).length=ds.length
 | [],_=>⟨by simp[PyData.showableAll],by simp[PyData.depthAll],λt h=>by simp[PyData.shownAll] at h,by simp[PyData.shownAll]⟩
 |d :: ds,h=>by
  obtain⟨h1,h2,h3,h4⟩:=xp λx hx=>h x (NJ _ hx)
  obtain⟨q1,q2,q3⟩:=h d (NN ..)
  refine⟨?_,?_,λt ht=>?_,?_⟩
  ·rw[PyData.showableAll,q1,h1];rfl
  ·rw[PyData.depthAll];omega
  ·rw[PyData.shownAll] at ht
   rcases NI.mp ht with rfl |ht
   ·exact q3
   ·exact h3 t ht
  ·rw[PyData.shownAll,N0,N0,h4]
theorem vJ :∀{ts:List Str},(∀t,t∈ts->t.length<=c)->(Str.join ", " ts).length<=(c + 2) * ts.length
 | [],_=>by show (Str.join ", " []).length<=_;exact Oh _
 | [x],h=>by
  have:=h x (NN ..)
  show x.length<=(c + 2) * 1
  omega
 |x :: y :: r,h=>by
  have ih:=vJ (ts:=y :: r) λt ht=>h t (NJ _ ht)
  have:=h x (NN ..)
  show (x ++ ", " ++ Str.join ", " (y :: r)).length<=_
  rw[P9,P9]
  have e2:((", ":String):Str).length=2:=rfl
  rw[e2]
  have e:(c + 2) * (x :: y :: r).length=(c + 2) * (y :: r).length + (c + 2):=by rw[N0,Nat.mul_succ]
  omega
def D6 {ds:List D}(h:∀d,d∈ds->Sq c k d):Sq (3 + (c + 2) * ds.length) (k + 1) (.tuple ds):=by
 obtain⟨h1,h2,h3,h4⟩:=xp h
 refine⟨by rw[PyData.showable];exact h1,by rw[PyData.depth];omega,?_⟩
 rw[PyData.shown]
 unfold tupleText
 rw[P9,P9]
 have j:=vJ h3
 rw[h4] at j
 have e1:((("(":String):Str)).length=1:=rfl
 have e3:((if (PyData.shownAll ds).length == 1 then ",)" else ")":String):Str).length<=2:=by split <;> exact by decide
 rw[e1]
 omega
def Jl {ds:List D}(h:∀d,d∈ds->Sq c k d):Sq (2 + (c + 2) * ds.length) (k + 1) (.list ds):=by
 obtain⟨h1,h2,h3,h4⟩:=xp h
 refine⟨by rw[PyData.showable];exact h1,by rw[PyData.depth];omega,?_⟩
 rw[PyData.shown]
 unfold listText
 rw[P9]
 have:=Dz (c:=c + 2) (PyData.shownAll ds) 0 "[" λt ht=>by have:=h3 t ht;omega
 rw[h4] at this
 have e1:((("[":String):Str)).length=1:=rfl
 have e2:((("]":String):Str)).length=1:=rfl
 rw[e1] at this
 rw[e2];omega
def Bf (d:D):Prop:=EB d=true
theorem xT:∀{ds:List D},(∀d,d∈ds->Bf d)->DE ds=true
 | [],_=>rfl
 |d :: ds,h=>by
  have h1:=xT λx hx=>h x (NJ _ hx)
  have q1:EB d=true:=h d (NN ..)
  rw[DE,q1,h1];rfl
def Ef {ds:List D}(h:∀d,d∈ds->Bf d):Bf (.tuple ds):=by show EB (.tuple ds)=true;rw[EB];exact xT h
def Ik {ds:List D}(h:∀d,d∈ds->Bf d):Bf (.list ds):=by show EB (.list ds)=true;rw[EB];exact xT h
def MQ:List Int:=[-1,0,1,2,3,4,5,6,7,8,9]
def Dt:∀i∈MQ,(int i).showable=true/\(int i).shown.length<=20:=by decide +kernel
def zC (h: -1<=i/\i<=9):i∈MQ:=by
 simp only[MQ,NI,Oi,O3]
 omega
def Ew (d:D):Prop:=d=.none\/(∃b,d=.bool b)\/∃i:Int,d=.int i/\ -1<=i/\i<=9
def Ew.sq {d:D}(h:Ew d):Sq 20 0 d:=by
 rcases h with rfl | ⟨b,rfl⟩ | ⟨i,rfl,h⟩
 ·exact⟨by simp[PyData.showable],by simp[PyData.depth],by rw[PyData.shown];decide⟩
 ·exact⟨by simp[PyData.showable],by simp[PyData.depth],by rw[PyData.shown];cases b <;> decide⟩
 ·exact⟨(Dt i (zC h)).1,by simp[PyData.depth],(Dt i (zC h)).2⟩
def Ew.bf {d:D}(h:Ew d):Bf d:=by
 rcases h with rfl | ⟨b,rfl⟩ | ⟨i,rfl,h⟩ <;> exact by simp[Bf,EB]
def Ew.scr {d:D}(h:Ew d):b9 d=false:=by
 rcases h with rfl | ⟨b,rfl⟩ | ⟨i,rfl,h⟩ <;> rfl
section
variable {vs:List Nv}{β β1 β2:Int}{fa:VF D}{fr:VF (List D)}{d:D}{ds:List D}
def ac {fa:VF D}{fr:VF (List D)}(h:fa vs β=.ok d β)(h':fr vs β=.ok ds β):aa fa fr vs β=.ok (d :: ds) β:=by rw[cU,h];dsimp only[R.bnd];rw[h']
def an:ag vs β=.ok [] β:=rfl
def tp (h:fr vs β=.ok ds β)(hz:ds.length<=1000:=by simp):cv fr vs β=.ok (.tuple ds) β:=kQ h hz
def lp (h:fr vs β=.ok ds β)(hz:ds.length<=1000:=by simp):bC fr vs β=.ok (.list ds) β:=eG h hz
def ck (d:D):cst d vs β=.ok d β:=rfl
end
def GY {vs:List Nv}{β:Int}:f2 (cst (.int 10)) (cst (.int 39)) AF vs β=.ok (.int 1000000000000000000000000000000000000000) β:=aH (x:=.int 10) (y:=.int 39) rfl rfl (by rfl)
def zG (h: -1<=i/\i<=9):Ew (.int i):=.inr (.inr ⟨i,rfl,h⟩)
def DX {fa:VF D}{vs:List Nv}{β:Int}{ds:List D}(ha:fa vs β=.ok (.list ds) β):f1 fa cR vs β=.ok (.int ds.length) β:=dg ha rfl
def jR:List Str:=["order","many","pairs","ring","thing","row","rows","number","chain","turns","points","text"]
def vp (tbl:List (Str×Nat))(c:Str):Option Str:=(tbl.lookup c).map λj=>jR.getD j ""
def Ge (e:D):Prop:=b9 e=false/\∀es,e=.tuple es->es.length<=100/\∀x,x∈es->b9 x=false
def Ny (n:Int):D->Bool
 | .tuple [x,y]=>dr x n && dr y n
 |_=>false
def LA:List D->FR:=bA 1 1 l7
def Ml (h:b9 d=false):LA [d]=.ok (.bool (vQ d)) false:=by
 have:=yV [d] (by rw[nu h];exact λz=>by cases z)
 rw[nu h] at this
 exact this
def Sp (p:Pr):Prop:=(0<=p.1/\p.1<=8)/\(0<=p.2/\p.2<=8)
def El (e:D):Prop:=Ge e/\Sq 100 8 e/\Bf e
def qH (hl:es.length<=100)(h:∀x,x∈es->b9 x=false):Ge (.tuple es):=⟨rfl,λes' e=>by cases e;exact⟨hl,h⟩⟩
def Nu:D->Bool
 | .tuple es=>decide (es.length<=100) && es.all λx=> !b9 x
 |_=>true
def ly:List D:=[.none,.bool true,.bool false,.int (-1),.int 0,.int 1,.str "",.str "1",.tuple [],.list [],.tuple [.int 0],.tuple [.int 1,.tuple []],.list [.int 0],.dict [(.str "a",.int 1)],.tuple [.int 0,.int 1],.int 1000000000000000000000000000000000000000,.tuple [.tuple [.int 0,.int 1]],.str "a"]
def Gd:∀x∈ly,(x.showable=true/\x.depth<=5/\x.shown.length<=60)/\EB x=true/\b9 x=false/\Nu x=true:=by decide +kernel
def Jc (h:o∈ly):El o:=by
 obtain⟨h1,h2,h3,h4⟩:=Gd o h
 refine⟨⟨h3,λes e=>?_⟩,Sq.mono (c:=60) (k:=5) h1 (by omega) (by omega),h2⟩
 subst e
 have hb:(decide (es.length<=100) && es.all λx=> !b9 x)=true:=h4
 rw[N3,N4,OF] at hb
 exact⟨hb.1,λx hx=>by have:=hb.2 x hx;rwa [Pq] at this⟩
noncomputable def Jw:List D->Int->FB:=o5 2 0 (jQ cq)
def K0 (β:Int):∃o β',Jw [] β=.ok o false β'/\o∈ly:=by
 show ∃o β',AB (jQ cq [.bx,.no] β)=.ok o false β'/\o∈ly
 unfold jQ
 rw[ao (env':=[.bx,.fz (.list (ly.take 13))]) (β':=β) ?a]
 case a=>
  rw[bD,lp (ds:=ly.take 13) (ac (ck _) (ac (ck _) (ac (ck _) (ac (ck _) (ac (ck _) (ac (ck _) (ac (ck _) (ac (ck _) (ac (tp an) (ac (lp an) (ac (tp (ac (ck _) an)) (ac (tp (ac (ck _) (ac (tp an) an))) (ac (lp (ac (ck _) an)) an))))))))))))) (by show (13:Nat)<=1000;omega)]
  rfl
 rw[ao (env':=[.bx,.fz (.list ly)]) (β':=β) ?b]
 case b=>
  rw[bD,aH (x:=.list (ly.take 13)) (y:=.list (ly.drop 13)) (d:=.list ly) (β1:=β) (β2:=β) rfl (lp (ds:=ly.drop 13) (ac (ck _) (ac (tp (ac (ck _) (ac (ck _) an))) (ac GY (ac (tp (ac (tp (ac (ck _) (ac (ck _) an))) an)) (ac (ck _) an))))) (by show (5:Nat)<=1000;omega)) ?c]
  ·rfl
  case c=>rw[mV (by show (13 + 5:Nat)<=10000;omega)];rfl
 obtain⟨j,hj,ej⟩:=iq (m:=18) (by omega) (by omega) β
 have hlen:ly.length=18:=rfl
 obtain⟨o,ho⟩:∃o,ly[j]? =some o:=⟨_,NC (by omega)⟩
 have e:f2 (gv 1) (lq 0 cq (aa (cst (.int 18)) ag)) bV (vl [.bx,.fz (.list ly)]) β=.ok o (β / ((18:Nat):Int)):=aH (x:=.list ly) (y:=.int j) rfl (fD (ds:=[.int 18]) (by rfl) rfl ej) (show i4 ly (j:Int)=some o from jT ho)
 rw[gE,e]
 exact⟨o,_,rfl,NU ho⟩
end RM
namespace RM
open PySem PySem.Spec L2 PyProof.Rows
theorem p0:∀(ns acc:List Int),acc.Nodup->(ns.foldl step_dedup acc).length<=acc.length + ns.length/\((ns.foldl step_dedup acc).length=acc.length + ns.length↔(ns.Nodup/\∀x,x∈ns->x∉acc))
 | [],acc,_=>by simp
 |n :: ns,acc,hn=>by
  rw[Qo]
  by_cases h:n∈acc
  ·have e:step_dedup acc n=acc:=by unfold step_dedup;rw[NG (by simpa using h)]
   rw[e]
   obtain⟨h1,h2⟩:=p0 ns acc hn
   refine⟨by rw[N0];omega,⟨λz=>?_,λz=>absurd h (z.2 n (NN ..))⟩⟩
   rw[N0] at z;omega
  ·have e:step_dedup acc n=acc ++ [n]:=by unfold step_dedup;rw[NL (by simpa using h)]
   have hn':(acc ++ [n]).Nodup:=by
    rw[List.nodup_append]
    refine⟨hn,Og.mpr ⟨by simp,PX⟩,λa ha b hb=>?_⟩
    rw[N9] at hb
    subst hb
    exact λq=>h (q▸ha)
   rw[e]
   obtain⟨h1,h2⟩:=p0 ns (acc ++ [n]) hn'
   rw[Oe,O0] at h1 h2
   refine⟨by rw[N0];omega,?_⟩
   rw[N0,show acc.length + (ns.length + 1)=acc.length + 1 + ns.length by omega,h2,Og]
   constructor
   ·rintro⟨z1,z2⟩
    refine⟨⟨λq=>z2 n q (by simp),z1⟩,λx hx=>?_⟩
    rcases NI.mp hx with rfl |hx
    ·exact h
    ·exact λq=>z2 x hx (OW _ q)
   ·rintro⟨⟨z1,z2⟩,z3⟩
    refine⟨z2,λx hx q=>?_⟩
    rcases N7.mp q with q |q
    ·exact z3 x (NJ _ hx) q
    ·rw[N9] at q;subst q;exact z1 hx
def vI (ns:List Int):qZ ns=ns.length↔ns.Nodup:=by
 have e:firstMet (λi=>ns.getD i 0) ns.length=ns.foldl step_dedup []:=by
  unfold firstMet
  congr 1
  refine Qj (by simp) λi h1 h2=>?_
  simp[Ob,h2]
 unfold qZ
 rw[e]
 have:=(p0 ns [] PX).2
 simpa using this
theorem oG:∀{l m:List Int},l.Nodup->(∀x,x∈l->x∈m)->m.length<=l.length->l.Perm m
 | [],m,_,_,h=>by
  have:m= []:=List.length_eq_zero_iff.mp (by simpa using h)
  rw[this]
 |x :: l,m,nd,hs,h=>by
  obtain⟨h1,h2⟩:=Og.mp nd
  have hx:x∈m:=hs x (NN ..)
  have pm:m.Perm (x :: m.erase x):=List.perm_cons_erase hx
  refine (List.Perm.cons x (oG (m:=m.erase x) h2 (λy hy=>?_) ?_)).trans pm.symm
  ·have hy':=pm.mem_iff.mp (hs y (NJ _ hy))
   rcases NI.mp hy' with rfl |q
   ·exact absurd hy h1
   ·exact q
  ·have:=pm.length_eq
   rw[N0] at this h
   omega
def qB {n:Nat}{r:List Int}(hl:r.length=n)(hb:∀x,x∈r->0<=x/\x < n)(nd:r.Nodup):r.Perm (eB n):=oG nd (λx hx=>a8.mpr (hb x hx)) (by rw[cy];omega)
noncomputable def pN (n:Nat)(d:D):Bool:=@decide (∃r:List Int,d=tupI r/\r.Perm (eB n)) (Classical.propDecidable _)
def HK (h:pN n d=true):∃r:List Int,d=tupI r/\r.Perm (eB n):=@Pt _ (Classical.propDecidable _) h
def vj (h:r.Perm (eB n)):pN n (tupI r)=true:=@NK _ (Classical.propDecidable _) ⟨r,rfl,h⟩
def uU (h:∀r:List Int,d=tupI r->¬r.Perm (eB n)):pN n d=false:=@NR _ (Classical.propDecidable _) λ⟨r,e,p⟩=>h r e p
def mO (h:tupI r=tupI q):r=q:=by
 unfold tupI at h
 have h:=PyData.tuple.inj h
 exact List.map_inj_right (λa b e=>int.inj e) |>.mp h
theorem Bd (h:dr d n=true):∃i:Int,d=.int i/\0<=i/\i < n:=by
 cases d with
 |int i=>exact⟨i,rfl,Pt h⟩
 |_=>cases h
theorem sI :∀{ds:List D},(ds.all λe=>dr e n)=true->∃r:List Int,ds=r.map int/\∀x,x∈r->0<=x/\x < n
 | [],_=>⟨[],rfl,λx hx=>by cases hx⟩
 |d :: ds,h=>by
  rw[all_cons,N3] at h
  obtain⟨i,rfl,hi⟩:=Bd h.1
  obtain⟨r,rfl,hr⟩:=sI h.2
  refine⟨i :: r,rfl,λx hx=>?_⟩
  rcases NI.mp hx with rfl |hx
  ·exact hi
  ·exact hr x hx
def Aj {n:Nat}{r:List Int}(h:∀x,x∈r->0<=x/\x < (n:Int)):((r.map int).all λe=>dr e n)=true:=by
 rw[all_map,OF]
 intro x hx
 exact NK (h x hx)
theorem dP:∀r:List Int,gr (r.map int)=some r
 | []=>rfl
 |x :: r=>by
  have:=dP r
  simp only[Oq,gr,this]
  try rfl
def zY:List D->FR:=bA 2 2 (kU dv)
theorem JE {n:Nat}{d:D}(h8:n<=100)(h:Ge d):zY [d,.int n]=.ok (.bool (pN n d)) false:=by
 show fin (kU dv [.fz d,.fz (.int n)] 0)=_
 unfold kU
 have g0:gv 0 (vl [.fz d,.fz (.int n)]) 0=.ok d 0:=rfl
 have t1:=Hd g0 h.1
 cases hy:Dw d with
 |false=>
  rw[hy] at t1
  rw[fO (d:=.bool false) (b:=false) (β':=0) (by rw[gC (CD (dJ t1))];rfl),uU]
  ·rfl
  ·intro r e;subst e;cases hy
 |true=>
  obtain⟨es,rfl⟩:=zU hy
  rw[hy] at t1
  have t2:dh (f2 (f1 (gv 0) cR) (gv 1) (dX true)) (vl [.fz (.tuple es),.fz (.int n)]) 0=.ok (!decide ((es.length:Int)=n)) 0:=iG (neg:=true) (DK g0) rfl
  by_cases hl:es.length=n
  ·rw[NK (show (es.length:Int)=n by omega)] at t2
   rw[ao (env':=[.fz (.tuple es),.fz (.int n)]) (β':=0) (by rw[fY (oK (dJ t1) t2)];rfl)]
   have hs:=(h.2 _ rfl).2
   have ec:bh 1 [1] (.nm 0) (bR (gv 0)) oH (az dv (aa (gv 0) (aa (gv 1) ag))) (vl [.fz (.tuple es),.fz (.int n)]) 0=.ok (.list (es.map λe=>PyData.bool (dr e n))) 0:=
    rV (λe=>PyData.bool (dr e n)) rfl (by omega) λe he=>⟨_,rfl,aE (ds:=[e,.int n]) rfl (uc (hs e he))⟩
   have ea:=zg ec
   rw[gE]
   cases hb:(es.all λe=>dr e n) with
   |false=>
    rw[hb] at ea
    rw[Lp ea,uU]
    ·rfl
    ·intro r e pm
     have e:=PyData.tuple.inj e
     subst e
     rw[Aj λx hx=>a8.mp (pm.mem_iff.mp hx)] at hb
     cases hb
   |true=>
    rw[hb] at ea
    obtain⟨r,rfl,hr⟩:=sI hb
    have hrl:r.length=n:=by rw[NM] at hl;exact hl
    have es:f1 (gv 0) o9 (vl [.fz (.tuple (r.map int)),.fz (.int n)]) 0=.ok (.int (qZ r)) 0:=by
     refine dg g0 ?_
     show (match gr (r.map int) with |some ns=>if ns.length<=1000 then some (int (qZ ns)) else none |none=>none)=_
     rw[dP]
     exact NG (by omega)
    rw[Kv ea (aH es rfl (uI false (qZ r) n))]
    show FR.ok (.bool (decide ((qZ r:Int)=(n:Int)))) false=_
    by_cases nd:r.Nodup
    ·have:=(vI r).mpr nd
     rw[NK (by omega),show pN n (.tuple (r.map int))=true from vj (qB hrl hr nd)]
    ·have:qZ r≠r.length:=λq=>nd ((vI r).mp q)
     rw[NR (by omega),uU]
     intro q e pm
     have e:=mO (r:=r) e
     subst e
     exact nd (pm.nodup_iff.mpr (jn n))
  ·rw[NR (show ¬(es.length:Int)=n by omega)] at t2
   rw[fO (d:=.bool false) (b:=false) (β':=0) (by rw[gC (oK (dJ t1) t2)];rfl),uU]
   ·rfl
   ·intro r e pm
    have e:=PyData.tuple.inj e
    subst e
    have:=pm.length_eq
    rw[cy] at this
    rw[NM] at hl
    exact hl this
end RM
namespace RM
open PySem L2
def BG (r:List Int):List Int:=(List.range r.length).map λ(a:Nat)=>((r.idxOf (a:Int):Nat):Int)
def gp (r:List Int)(k:Nat):List Int:=(List.range r.length).map λ(a:Nat)=>if r.idxOf (a:Int) < k then ((r.idxOf (a:Int):Nat):Int) else 0
def Bk (h:r.Perm (eB n)):gp r r.length=BG r:=by
 unfold gp BG
 refine OG λa ha=>?_
 have hl:=h.length_eq
 rw[cy] at hl
 have:=N6.mp ha
 rw[NG (OU.mpr (h.mem_iff.mpr (a8.mpr ⟨by omega,by omega⟩)))]
def yc (r:List Int):gp r 0=List.replicate r.length 0:=by
 unfold gp
 refine Qj (by simp) λi h1 h2=>by simp
def xr (h:r.Perm (eB n))(hk:r[k]? =some x):(gp r k).set x.toNat (k:Int)=gp r (k + 1):=by
 have hl:=h.length_eq
 rw[cy] at hl
 have hx:=a8.mp (h.mem_iff.mp (NU hk))
 have nd:r.Nodup:=h.nodup_iff.mpr (jn n)
 obtain⟨hkl,hke⟩:=NV.mp hk
 have hix:r.idxOf x=k:=by rw[<-hke];exact nd.idxOf_getElem k hkl
 unfold gp
 refine Qj (by simp) λi h1 h2=>?_
 have hi:i < r.length:=by simpa using h2
 rw[List.getElem_set]
 simp only[List.getElem_map,Qu]
 by_cases e:x.toNat=i
 ·rw[NG e]
  have ex:(i:Int)=x:=by omega
  rw[ex,hix,NG (by omega)]
 ·rw[NL e]
  have:r.idxOf (i:Int)≠k:=λq=>by
   have hm:(i:Int)∈r:=h.mem_iff.mpr (a8.mpr ⟨by omega,by omega⟩)
   have h3:=Qb (OU.mpr hm)
   simp only[q] at h3
   rw[hke] at h3
   omega
  by_cases z:r.idxOf (i:Int) < k
  ·rw[NG z,NG (by omega)]
  ·rw[NL z,NL (by omega)]
def C4 {n:Nat}{r:List Int}(h:r.Perm (eB n)){a:Int}(ha:0<=a/\a < n):i4 (BG r) a=some ((r.idxOf a:Nat):Int):=by
 have hl:=h.length_eq
 rw[cy] at hl
 have e:(a.toNat:Int)=a:=by omega
 have:=jT (xs:=BG r) (j:=a.toNat) (v:=((r.idxOf a:Nat):Int)) (by
  unfold BG
  rw[NP,OZ (by omega)]
  simp only[Option.map_some,e])
 rw[e] at this
 exact this
def L3:List D->FR:=bA 4 1 nh
def Mu (h100:n<=100)(h:r.Perm (eB n)):L3 [tupI r]=.ok (.list ((BG r).map int)) true:=by
 have hl:=h.length_eq
 rw[cy] at hl
 show fin (nh [.fz (tupI r),.no,.no,.no] 0)=_
 unfold nh
 rw[ao (env':=[.fz (tupI r),.ow (.list ((gp r 0).map int)),.no,.no]) (β':=0) ?a]
 case a=>
  have e:f2 (bC (aa (cst (.int 0)) ag)) (f1 (gv 0) cR) oN (vl [.fz (tupI r),.no,.no,.no]) 0=.ok (.list ((gp r 0).map int)) 0:=by
   refine aH (lp (ac (ck _) an)) (DK (ds:=r.map int) rfl) ?_
   rw[NM,yc,List.map_replicate]
   simp only[oN]
   rw[NG ?q]
   ·congr 2
    rw[Oa]
    induction r.length with
    |zero=>rfl
    |succ m ih=>first |rw[Oy,Oy,O8,ih];rfl | (simp[Oy] at ih ⊢;try exact ih)
   case q=>first | (constructor <;> first |omega | (show _<=_;simp;try omega)) | (rw[N8];simp;omega)
  rw[jh,e];rfl
 have ee:BY (gv 0) (vl [.fz (tupI r),.ow (.list ((gp r 0).map int)),.no,.no]) 0=.ok (dB (r.map int)) 0:=rfl
 obtain⟨env',β',ef,s,t,rfl,rfl⟩:=cT (t:=.two 2 3) (m:=mD 1 [2] [] (gv 2) (gv 3)) (ds:=dB (r.map int)) (k:=0)
  (λk env β=>∃s t:Sl,env= [.fz (tupI r),.ow (.list ((gp r k).map int)),s,t]/\β=0)
  (env:=[.fz (tupI r),.ow (.list ((gp r 0).map int)),.no,.no]) (β:=0) ⟨.no,.no,rfl,rfl⟩ (by
   rintro k d env β hk ⟨s,t,rfl,rfl⟩
   unfold dB at hk
   rw[Qi,NP] at hk
   cases hx:r[k]? with
   |none=>rw[hx] at hk;cases hk
   |some x=>
    rw[hx] at hk
    cases hk
    have hxm:=a8.mp (h.mem_iff.mp (NU hx))
    refine⟨[.fz (tupI r),.ow (.list ((gp r (0 + k)).map int)),.fz (.int k),.fz (.int x)],rfl,?_⟩
    rw[Oz]
    refine⟨[.fz (tupI r),.ow (.list ((gp r (k + 1)).map int)),.fz (.int k),.fz (.int x)],0,?_,_,_,rfl,rfl⟩
    rw[qP (ds:=(gp r k).map int) (d:=.int k) (k:=x) (n:=x.toNat) (β1:=0) (β2:=0) rfl (by rfl) rfl (by rfl) ?b]
    ·rw[<-xr h hx,List.map_set];rfl
    case b=>
     unfold uW
     rw[NG hxm.1,NG (by rw[NM];unfold gp;simp;omega)])
 have hle:(dB (r.map int)).length=r.length:=by unfold dB;simp
 rw[Oz,hle,Bk h] at ef
 rw[ao (env':=[.fz (tupI r),.ow (.list ((BG r).map int)),s,t]) (β':=0) (by
  rw[dz (env:=[.fz (tupI r),.ow (.list ((gp r 0).map int)),.no,.no]) ee]
  exact ef)]
 rfl
def xB (l:List Pr)(r:List Int):Bool:=l.all λp=>decide (r.idxOf p.1 < r.idxOf p.2)
def Row (n:Nat)(l:List Pr)(r:List Int):Prop:=r.Perm (eB n)/\xB l r=true
noncomputable def mh (n:Nat)(l:List Pr)(d:D):Bool:=@decide (∃r:List Int,d=tupI r/\Row n l r) (Classical.propDecidable _)
def J6 (h:mh n l d=true):∃r:List Int,d=tupI r/\Row n l r:=@Pt _ (Classical.propDecidable _) h
def ur (h:Row n l r):mh n l (tupI r)=true:=@NK _ (Classical.propDecidable _) ⟨r,rfl,h⟩
def yZ (h:∀r:List Int,d=tupI r->¬Row n l r):mh n l d=false:=@NR _ (Classical.propDecidable _) λ⟨r,e,p⟩=>h r e p
noncomputable def JJ:List D->FR:=bA 3 2 (fL zY L3)
def HS {n:Nat}{r:List Int}(h:r.Perm (eB n)){a b:Int}(ha:0<=a/\a < n)(hb:0<=b/\b < n){fp fa fb:VF D}{vs:List Nv}{β:Int}(hp:fp vs β=.ok (.list ((BG r).map int)) β)(h1:fa vs β=.ok (.int a) β)(h2:fb vs β=.ok (.int b) β) :
  f2 (f2 fp fa bV) (f2 fp fb bV) xc vs β=.ok (.bool (decide (r.idxOf a < r.idxOf b))) β:=by
 refine aH (aH hp h1 (show i4 ((BG r).map int) a=_ by rw[cW,C4 h ha];rfl)) (aH hp h2 (show i4 ((BG r).map int) b=_ by rw[cW,C4 h hb];rfl)) ?_
 show some (PyData.bool (decide (((r.idxOf a:Nat):Int) < ((r.idxOf b:Nat):Int))))=_
 congr 2
 rw[Ox,N4,N4]
 omega
theorem Ku (O:OM.Ord n l)(h:Ge d):JJ [d,aA n l]=.ok (.bool (mh n l d)) false:=by
 have h8:=O.hi
 show fin (fL zY L3 [.fz d,.fz (aA n l),.no] 0)=_
 unfold fL
 have t:oQ (az zY (aa (gv 0) (aa (f2 (gv 1) (cst (.int 0)) bV) ag))) (vl [.fz d,.fz (aA n l),.no]) 0=.ok (pN n d) 0:=mn (aE (ds:=[d,.int n]) (ac rfl (ac (Hq (n:=n) (l:=l) rfl) an)) (JE (by omega) h))
 cases q:pN n d with
 |false=>
  rw[q] at t
  rw[fO (d:=.bool false) (b:=false) (β':=0) (by rw[gC (dJ t)];rfl),yZ]
  ·rfl
  ·rintro r rfl hr
   rw[vj hr.1] at q;cases q
 |true=>
  rw[q] at t
  obtain⟨r,rfl,pm⟩:=HK q
  rw[ao (env':=[.fz (tupI r),.fz (aA n l),.no]) (β':=0) (by rw[fY (dJ t)];rfl)]
  rw[ao (env':=[.fz (tupI r),.fz (aA n l),.fz (.list ((BG r).map int))]) (β':=0) (by rw[bD,aE (ds:=[tupI r]) (β1:=0) rfl (Mu (by omega) pm)];rfl)]
  have ec:bh 2 [2] (.two 0 1) (bR (f2 (gv 1) (cst (.int 1)) bV)) oH (f2 (f2 (gv 2) (gv 0) bV) (f2 (gv 2) (gv 1) bV) xc) (vl [.fz (tupI r),.fz (aA n l),.fz (.list ((BG r).map int))]) 0=.ok (.list (l.map λp=>PyData.bool (decide (r.idxOf p.1 < r.idxOf p.2)))) 0:=by
   refine hZ (l:=l) (e:=aY) (λp=>PyData.bool (decide (r.idxOf p.1 < r.idxOf p.2))) rfl (by have:=pd O;omega) λp hp=>⟨_,rfl,?_⟩
   have hw:=O.wn p hp
   exact HS pm hw.1 hw.2 rfl rfl rfl
  rw[gE,Jd (f:=λp=>decide (r.idxOf p.1 < r.idxOf p.2)) ec]
  show FR.ok (.bool (xB l r)) false=_
  cases qf:xB l r with
  |true=>rw[ur ⟨pm,qf⟩]
  |false=>
   rw[yZ]
   rintro r' e hr
   have e:=mO e
   subst e
   rw[hr.2] at qf;cases qf
def Gt (d:D):Prop:=b9 d=false/\∀ds,d=.list ds->ds.length<=100/\∀e,e∈ds->Ge e
theorem any_ints (a:Int):∀s:List Int,((s.map int).any λe=>PyData.eqv e (.int a))=decide (a∈s)
 | []=>rfl
 |b :: s=>by
  rw[Oq,P8,any_ints a s]
  show ((b == a) || _)=_
  rw[Ox]
  simp only[Qq,beq_iff_eq,N4,NI]
  exact⟨λh=>h.imp Eq.symm id,λh=>h.imp Eq.symm id⟩
def AG (s:List Int):(s.map int).all SeqAt.shaped=true:=by
 rw[OF]
 intro d hd
 obtain⟨p,_,rfl⟩:=NT.mp hd
 rfl
def zu (neg:Bool)(a:Int)(s:List Int):Ey neg (.int a) (tupI s)=some (.bool (if neg then !decide (a∈s) else decide (a∈s))):=by
 unfold Ey tupI
 simp only[j9,AG,any_ints]
 rfl
def wd (h:a.length + b.length<=1000):lF (.tuple a) (.tuple b)=some (.tuple (a ++ b)):=NG (by rw[N8];omega)
def MW (h1:fa vs β=.ok (tupI r) β1)(h2:fb vs β1=.ok (tupI q) β2)(hz:r.length + q.length<=1000):f2 fa fb lF vs β=.ok (tupI (r ++ q)) β2:=
 aH h1 h2 (by unfold tupI;rw[wd (by simpa using hz),<-OO])
def qU (l:List Pr)(r:List Int)(x:Int):List Int:=(l.filter λp=>decide (p.2=x) && !decide (p.1∈r)).map (·.1)
def jO :a∈qU l r x↔(a,x)∈l/\a∉r:=by
 unfold qU
 rw[NT]
 constructor
 ·rintro⟨p,hp,rfl⟩
  have:=Oc.mp hp
  simp only[N3,N4,Pq,decide_eq_false_iff_not] at this
  obtain⟨pa,pb⟩:=p
  obtain⟨h1,h2,h3⟩:=this
  simp only at h2 h3
  subst h2
  exact⟨h1,h3⟩
 ·rintro⟨h1,h2⟩
  exact⟨(a,x),Oc.mpr ⟨h1,by simp[h2]⟩,rfl⟩
def Bh (O:OM.Ord n l)(r:List Int)(x:Int):(qU l r x).Nodup:=by
 unfold qU
 rw[PL,OI]
 refine O2 (λ{a b} ha hb h e=>h ?_) (PL.mp ((OM.g8 O.ris).filter _))
 have h1:=(Oc.mp ha).2
 have h2:=(Oc.mp hb).2
 simp only[N3,N4] at h1 h2
 exact Prod.ext e (h1.1.trans h2.1.symm)
theorem least (O:OM.Ord n l)(r:List Int):∀(k:Nat) (x:Int),(0<=x/\x < n)->x∉r->(qU l r x).length<=k->∃y:Int,(0<=y/\y < n)/\y∉r/\qU l r y= []
 | 0,x,hx,hr,hk=>⟨x,hx,hr,List.length_eq_zero_iff.mp (by omega)⟩
 |k + 1,x,hx,hr,hk=>by
  by_cases he:qU l r x= []
  ·exact⟨x,hx,hr,he⟩
  ·obtain⟨a,ha⟩:=List.exists_mem_of_ne_nil _ he
   obtain⟨h1,h2⟩:=jO.mp ha
   refine least O r k a (O.wn _ h1).1 h2 ?_
   have nd:(a :: qU l r a).Nodup:=Og.mpr ⟨λq=>O.irr a (jO.mp q).1,Bh O r a⟩
   have:=L2.ST.bF nd (m:=qU l r x) λy hy=>by
    rcases NI.mp hy with rfl |hy
    ·exact ha
    ·obtain⟨q1,q2⟩:=jO.mp hy
     exact jO.mpr ⟨O.tr _ _ _ q1 h1,q2⟩
   rw[N0] at this
   omega
structure tH (n:Nat)(l:List Pr)(r:List Int):Prop where
 nd:r.Nodup
 inn:∀x,x∈r->0<=x/\x < (n:Int)
 fit:∀p,p∈l->p.2∈r->p.1∈r/\r.idxOf p.1 < r.idxOf p.2
def tH.len (B:tH n l r):r.length<=n:=by
 have:=L2.ST.bF B.nd (m:=eB n) λx hx=>a8.mpr (B.inn x hx)
 rwa [cy] at this
def tH.row (O:OM.Ord n l)(B:tH n l r)(h:n<=r.length):Row n l r:=by
 have pm:=qB (Nat.le_antisymm B.len h) B.inn B.nd
 refine⟨pm,OF.mpr λp hp=>NK ?_⟩
 exact (B.fit p hp (pm.mem_iff.mpr (a8.mpr (O.wn p hp).2))).2
def eY (l:List Pr)(r:List Int)(x:Int):Bool:= !decide (x∈r) && decide (qU l r x= [])
def tH.more (B:tH n l r)(hx:0<=x/\x < (n:Int))(hf:eY l r x=true):tH n l (r ++ [x]):=by
 unfold eY at hf
 rw[N3,Pq,decide_eq_false_iff_not,N4] at hf
 obtain⟨h1,h2⟩:=hf
 refine⟨?_,λy hy=>?_,λp hp hm=>?_⟩
 ·rw[List.nodup_append]
  refine⟨B.nd,Og.mpr ⟨by simp,PX⟩,λa ha b hb=>?_⟩
  rw[N9] at hb
  subst hb
  exact λq=>h1 (q▸ha)
 ·rcases N7.mp hy with hy |hy
  ·exact B.inn y hy
  ·rw[N9] at hy;subst hy;exact hx
 ·rcases N7.mp hm with hm |hm
  ·obtain⟨q1,q2⟩:=B.fit p hp hm
   refine⟨OW _ q1,?_⟩
   rw[QC,QC,NG q1,NG hm]
   exact q2
  ·rw[N9] at hm
   have hp1:p.1∈r:=by
    by_cases z:p.1∈r
    ·exact z
    ·have:p.1∈qU l r x:=jO.mpr ⟨by rw[<-hm];exact hp,z⟩
     rw[h2] at this;cases this
   refine⟨OW _ hp1,?_⟩
   rw[QC,QC,NG hp1,NL (by rw[hm];exact h1)]
   have:=OU.mpr hp1
   omega
def tH.free (O:OM.Ord n l)(B:tH n l r)(h:r.length < n):(eB n).filter (eY l r)≠ []:=by
 have:∃x,x∈eB n/\x∉r:=by
  apply Classical.byContradiction
  intro z
  have:=L2.ST.bF (jn n) (m:=r) λx hx=>Classical.byContradiction λq=>z ⟨x,hx,q⟩
  rw[cy] at this
  omega
 obtain⟨x,hx,hr⟩:=this
 obtain⟨y,hy,hyr,hp⟩:=least O r _ x (a8.mp hx) hr (NH _)
 intro q
 have:y∈(eB n).filter (eY l r):=Oc.mpr ⟨a8.mpr hy,by unfold eY;simp[hyr,hp]⟩
 rw[q] at this
 cases this
noncomputable def CP:List D->Int->FB:=o5 6 1 (jC cq)
def aP (l:List Pr)(r:List Int)(i:Nat):List Int:=(eB i).filter (eY l r)
def Ep (i:Nat):eB (i + 1)=eB i ++ [(i:Int)]:=by unfold eB;rw[List.range_succ,OO];rfl
def nK (l:List Pr)(r:List Int)(i:Nat):aP l r (i + 1)=aP l r i ++ if eY l r (i:Int)=true then [(i:Int)] else []:=by
 unfold aP
 rw[Ep,List.filter_append]
 congr 1
 by_cases h:eY l r (i:Int)=true
 ·rw[NG h];simp[h]
 ·rw[NL h];simp[h]
def ik (l:List Pr)(r:List Int)(i:Nat):(aP l r i).length<=i:=by
 have:(aP l r i).length<=(eB i).length:=PK _ _
 rwa [cy] at this
abbrev zR:SF:=aJ (a7 5 (([] ++ []) ++ []) (bh 2 [4,2] (.two 0 1) (bR (f2 (gv 1) (cst (.int 1)) bV)) (zX (dh (f2 (gv 1) (gv 2) (dX false))) (dh (f2 (gv 0) (gv 3) (Ey true)))) (gv 0)))
 (lx (([] ++ []) ++ ([] ++ [])) (zX (dh (f2 (gv 4) (gv 2) (Ey true))) (dh (f2 (gv 5) (bC ag) (dX false))))
 (l0 3 [4] (gv 4))
 nt)
theorem EF (O:OM.Ord n l)(hi:i < n)(s5:Sl)(β:Int):∃s5',zR [.bx,.fz (aA n l),.fz (tupI r),.ow (.list ((aP l r i).map int)),.fz (.int i),s5] β=.nx [.bx,.fz (aA n l),.fz (tupI r),.ow (.list ((aP l r (i + 1)).map int)),.fz (.int i),s5'] β:=by
 have h8:=O.hi
 have hl:=pd O
 have ec:bh 2 [4,2] (.two 0 1) (bR (f2 (gv 1) (cst (.int 1)) bV)) (zX (dh (f2 (gv 1) (gv 2) (dX false))) (dh (f2 (gv 0) (gv 3) (Ey true)))) (gv 0) (vl [.bx,.fz (aA n l),.fz (tupI r),.ow (.list ((aP l r i).map int)),.fz (.int i),s5]) β=.ok (.list ((qU l r i).map int)) β:=by
  unfold qU
  rw[PD]
  refine jN (l:=l) (e:=aY) (λp=>decide (p.2=(i:Int)) && !decide (p.1∈r)) (λp=>int p.1) rfl (by omega) λp hp=>⟨_,rfl,?_,λ_=>rfl⟩
  refine yj (iG (neg:=false) (i:=p.2) (j:=i) rfl rfl) ?_
  exact dq _ _ _ _ (aH (x:=.int p.1) (y:=tupI r) rfl rfl (zu true p.1 r))
 unfold zR
 rw[ao (env':=[.bx,.fz (aA n l),.fz (tupI r),.ow (.list ((aP l r i).map int)),.fz (.int i),.fz (.list ((qU l r i).map int))]) (β':=β) (by rw[bD,ec];rfl)]
 have et:zX (dh (f2 (gv 4) (gv 2) (Ey true))) (dh (f2 (gv 5) (bC ag) (dX false))) (vl [.bx,.fz (aA n l),.fz (tupI r),.ow (.list ((aP l r i).map int)),.fz (.int i),.fz (.list ((qU l r i).map int))]) β=.ok (eY l r i) β:=
  yj (dq _ _ _ _ (aH (x:=.int i) (y:=tupI r) rfl rfl (zu true i r))) (dq _ _ _ _ (aH (x:=.list ((qU l r i).map int)) (y:=.list (([]:List Int).map int)) rfl (lp (ds:=[]) an) (l4 false _ _)))
 rw[nK]
 cases c:eY l r (i:Int) with
 |true=>
  rw[c] at et
  rw[gC et]
  refine⟨.fz (.list ((qU l r i).map int)),?_⟩
  have hz:=ik l r i
  rw[show bt (([] ++ []) ++ ([] ++ [])) [Sl.bx,.fz (aA n l),.fz (tupI r),.ow (.list ((aP l r i).map int)),.fz (.int i),.fz (.list ((qU l r i).map int))]= [Sl.bx,.fz (aA n l),.fz (tupI r),.ow (.list ((aP l r i).map int)),.fz (.int i),.fz (.list ((qU l r i).map int))] from rfl]
  rw[pw (i:=3) (ds:=(aP l r i).map int) (d:=.int i) (β':=β) (by rfl) rfl (by rfl) (by rw[NM];omega),NG rfl,OO]
  rfl
 |false=>
  rw[c] at et
  rw[fY et]
  exact⟨.fz (.list ((qU l r i).map int)),by rw[show aP l r i ++ (if false=true then [(i:Int)] else [])=aP l r i by simp];rfl⟩
def Hu (O:OM.Ord n l)(β:Int):∃r β',CP [aA n l] β=.ok (tupI r) false β'/\Row n l r:=by
 have h8:=O.hi
 show ∃r β',AB (jC cq [.bx,.fz (aA n l),.no,.no,.no,.no] β)=.ok (tupI r) false β'/\Row n l r
 unfold jC
 rw[ao (env':=[.bx,.fz (aA n l),.fz (tupI []),.no,.no,.no]) (β':=β) (by rw[bD,tp (ds:=[]) an];rfl)]
 obtain⟨env',β',ew,r,s3,s4,s5,rfl,hr⟩:=hJ (L:=[] ++ ([] ++ [])) (t:=dh (f2 (f1 (gv 2) cR) (f2 (gv 1) (cst (.int 0)) bV) xc))
  (m:=aJ (j6 3 [] (bC ag))
   (aJ (di (.nm 4) ([] ++ []) (kC (f2 (gv 1) (cst (.int 0)) bV)) zR)
   (a7 2 ([] ++ (([] ++ ([] ++ [])) ++ [])) (f2 (gv 2) (cv (aa (f2 (gv 3) (lq 0 cq (aa (f1 (gv 3) cR) ag)) bV) ag)) lF))))
  (λk env _=>∃r s3 s4 s5,env= [.bx,.fz (aA n l),.fz (tupI r),s3,s4,s5]/\tH n l r/\k=n - r.length)
  (λenv _=>∃r s3 s4 s5,env= [.bx,.fz (aA n l),.fz (tupI r),s3,s4,s5]/\Row n l r)
  (n:=1000) (k:=n) (env:=[.bx,.fz (aA n l),.fz (tupI []),.no,.no,.no]) (β:=β) (by omega) ⟨[],.no,.no,.no,rfl,⟨PX,(λx hx=>by cases hx),(λp _ h=>by cases h)⟩,by simp⟩ (by
   rintro k env β ⟨r,s3,s4,s5,rfl,B,rfl⟩
   have hrl:=B.len
   have et:dh (f2 (f1 (gv 2) cR) (f2 (gv 1) (cst (.int 0)) bV) xc) (vl [.bx,.fz (aA n l),.fz (tupI r),s3,s4,s5]) β=.ok (decide ((r.length:Int) < n)) β:=by
    refine dq _ _ _ _ (aH (x:=.int r.length) (y:=.int n) ?_ (Hq (n:=n) (l:=l) rfl) rfl)
    rw[DK (ds:=r.map int) rfl,NM]
   refine⟨_,_,et,?_⟩
   by_cases hlt:r.length < n
   ·refine .inr ⟨NK (by omega),?_⟩
    show ∃env2 β2 k',aJ _ _ [.bx,.fz (aA n l),.fz (tupI r),s3,s4,s5] β=.nx env2 β2/\k' < n - r.length/\_
    rw[ao (env':=[.bx,.fz (aA n l),.fz (tupI r),.ow (.list ((aP l r 0).map int)),s4,s5]) (β':=β) (by rw[jh,lp (ds:=[]) an];rfl)]
    obtain⟨env',β',ef,u4,u5,rfl,rfl⟩:=cT (t:=.nm 4) (m:=zR) (ds:=cQ 0 n) (k:=0)
     (λi env b=>∃u4 u5,env= [.bx,.fz (aA n l),.fz (tupI r),.ow (.list ((aP l r i).map int)),u4,u5]/\b=β)
     (env:=[.bx,.fz (aA n l),.fz (tupI r),.ow (.list ((aP l r 0).map int)),s4,s5]) (β:=β) ⟨s4,s5,rfl,rfl⟩ (by
      rintro i d env b hi ⟨u4,u5,rfl,rfl⟩
      obtain⟨hin,rfl⟩:=km hi
      obtain⟨v5,e⟩:=EF (r:=r) O hin u5 b
      refine⟨[.bx,.fz (aA n l),.fz (tupI r),.ow (.list ((aP l r (0 + i)).map int)),.fz (.int (0 + (i:Int))),u5],rfl,?_⟩
      rw[Oz,P5]
      exact⟨_,_,e,_,_,rfl,rfl⟩)
    rw[kY,Oz] at ef
    rw[ao (env':=[.bx,.fz (aA n l),.fz (tupI r),.ow (.list ((aP l r n).map int)),u4,u5]) (β':=β') (by
     rw[dz (env:=[.bx,.fz (aA n l),.fz (tupI r),.ow (.list ((aP l r 0).map int)),s4,s5]) (mQ (n:=n) (Hq (n:=n) (l:=l) rfl) (by omega))]
     exact ef)]
    have hne:aP l r n≠ []:=B.free O hlt
    have hpos:1<=(aP l r n).length:=List.length_pos_iff.mpr hne
    have hz:=ik l r n
    obtain⟨j,hj,ej⟩:=iq (m:=(aP l r n).length) hpos (by omega) β'
    have hx:(aP l r n)[j]? =some (aP l r n)[j]:=NC hj
    have hm:(aP l r n)[j]∈aP l r n:=OY hj
    generalize (aP l r n)[j]=x at hx hm
    obtain⟨hm1,hm2⟩:=Oc.mp hm
    have B':=B.more (a8.mp hm1) hm2
    have e1:cv (aa (f2 (gv 3) (lq 0 cq (aa (f1 (gv 3) cR) ag)) bV) ag) (vl [.bx,.fz (aA n l),.fz (tupI r),.ow (.list ((aP l r n).map int)),u4,u5]) β'=.ok (tupI [x]) (β' / ((aP l r n).length:Int)):=by
     refine kQ (ds:=[.int x]) ?_ (by simp)
     rw[cU,aH (x:=.list ((aP l r n).map int)) (y:=.int j) (d:=.int x) (β1:=β') (β2:=β' / ((aP l r n).length:Int)) rfl (fD (ds:=[.int (aP l r n).length]) (β1:=β') (by rfl) (ac (by rw[DX (ds:=(aP l r n).map int) rfl,NM]) an) ej) (show i4 ((aP l r n).map int) (j:Int)=_ by rw[cW,jT hx];rfl)]
     rfl
    refine⟨[.bx,.fz (aA n l),.fz (tupI (r ++ [x])),.ow (.list ((aP l r n).map int)),u4,u5],β' / ((aP l r n).length:Int),n - (r ++ [x]).length,?_,by rw[Oe,O0];omega,_,_,_,_,rfl,B',rfl⟩
    rw[bD,MW (r:=r) (q:=[x]) (β1:=β') rfl e1 (by simp;omega)];rfl
   ·refine .inl ⟨NR (by omega),r,s3,s4,s5,rfl,B.row O (by omega)⟩)
 rw[ao (env':=[.bx,.fz (aA n l),.fz (tupI r),s3,s4,s5]) (β':=β') ew]
 exact⟨r,β',rfl,hr⟩
end RM
namespace RM
open PySem L2 PyProof.Rows
def mk (f:Nat->Bool):Nat->Nat
 | 0=>0
 |n + 1=>mk f n ||| if f n=true then 2 ^ n else 0
theorem du (f:Nat->Bool):∀(n i:Nat),(mk f n).testBit i=(decide (i < n) && f i)
 | 0,i=>by simp[mk]
 |n + 1,i=>by
  unfold mk
  rw[Nat.testBit_or,du f n i]
  by_cases h:f n=true
  ·rw[NG h,Nat.testBit_two_pow]
   by_cases e:n=i
   ·subst e;simp[h]
   ·have e2:decide (i < n)=decide (i < n + 1):=by
     rw[Pc];omega
    simp[e,e2]
  ·rw[NL h]
   by_cases e:i=n
   ·subst e;simp[h]
   ·have e2:decide (i < n)=decide (i < n + 1):=by
     rw[Pc];omega
    simp[e2]
def mk_eq {f g:Nat->Bool}:mk f n=mk g n↔∀i,i < n->f i=g i:=by
 constructor
 ·intro h i hi
  have:=congrArg (λx=>x.testBit i) h
  simp only[du,NK hi,Bool.true_and] at this
  exact this
 ·intro h
  apply Pn
  intro i
  rw[du,du]
  by_cases hi:i < n
  ·rw[h i hi]
  ·rw[NR hi];simp
def i5 (f:Nat->Bool)(t:Nat):Nat->Bool:=λi=>f i || decide (i=t)
def Hi {f:Nat->Bool}(h:t < n):mk f n ||| 2 ^ t=mk (i5 f t) n:=by
 apply Pn
 intro i
 rw[Nat.testBit_or,du,du,Nat.testBit_two_pow]
 unfold i5
 by_cases e:t=i
 ·subst e;simp[h]
 ·have e':¬i=t:=λq=>e q.symm
  simp[e,e']
def Ju {f g:Nat->Bool}:(mk f n &&& mk g n=mk g n)↔∀i,i < n->g i=true->f i=true:=by
 have e:mk f n &&& mk g n=mk (λi=>f i && g i) n:=by
  apply Pn
  intro i
  rw[Nat.testBit_and,du,du,du]
  by_cases h:i < n
  ·simp[h]
  ·simp[h]
 rw[e,mk_eq]
 constructor
 ·intro h i hi hg
  have:=h i hi
  rw[hg,Bool.and_true] at this
  exact this
 ·intro h i hi
  cases hg:g i with
  |false=>simp
  |true=>rw[h i hi hg];rfl
def Ak (a b:Nat):Builtin.bitOr (a:Int) (b:Int)=((a ||| b:Nat):Int):=by
 have h1:¬(0<=Builtin.bitNot (a:Int)):=by show ¬(0<= -(a:Int) - 1);omega
 have h2:¬(0<=Builtin.bitNot (b:Int)):=by show ¬(0<= -(b:Int) - 1);omega
 show Builtin.bitNot (Builtin.bitAnd (Builtin.bitNot a) (Builtin.bitNot b))=_
 rw[bitAnd_nn h1 h2]
 have e1:Builtin.bitNot (Builtin.bitNot (a:Int))=a:=by show -(-(a:Int) - 1) - 1=a;omega
 have e2:Builtin.bitNot (Builtin.bitNot (b:Int))=b:=by show -(-(b:Int) - 1) - 1=b;omega
 rw[e1,e2]
 show -(-((((a:Int).toNat ||| (b:Int).toNat:Nat):Int)) - 1) - 1=_
 rw[Oa,Oa];omega
def xP (a b:Nat):Builtin.bitAnd (a:Int) (b:Int)=((a &&& b:Nat):Int):=by
 rw[bitAnd_pp (by omega) (by omega),Oa,Oa]
def mI (f:Nat->Bool)(n:Nat):D:=.int ((mk f n:Nat):Int)
def D7:∀t:Nat,t < 8->xE (.int 1) (.int (t:Int))=some (.int ((2 ^ t:Nat):Int)):=by
 intro t ht
 have:t=0\/t=1\/t=2\/t=3\/t=4\/t=5\/t=6\/t=7:=by omega
 rcases this with rfl |rfl |rfl |rfl |rfl |rfl |rfl |rfl <;> rfl
def kZ:List D->FR:=bA 2 2 gM
def Bv {f:Nat->Bool}(h8:n<=8)(h:t < n):kZ [mI f n,.int (t:Int)]=.ok (mI (i5 f t) n) false:=by
 show fin (gM [.fz (mI f n),.fz (.int t)] 0)=_
 unfold gM
 rw[gE,aH (x:=mI f n) (y:=.int ((2 ^ t:Nat):Int)) (d:=mI (i5 f t) n) (β1:=0) (β2:=0) rfl (aH (x:=.int 1) (y:=.int t) rfl rfl (D7 t (by omega))) ?a]
 ·rfl
 case a=>
  show some (int (Builtin.bitOr _ _))=_
  rw[Ak,Hi h];rfl
def cS (n:Nat)(M:Nat->Nat->Bool):D:=.list ((List.range n).map λb=>mI (M b) n)
def cG (l:List Pr)(b a:Nat):Bool:=decide ((((a:Nat):Int),((b:Nat):Int))∈l)
def KY {M:Nat->Nat->Bool}(h:b < n):i4 ((List.range n).map λb=>mI (M b) n) (b:Int)=some (mI (M b) n):=jT (by rw[NP,OZ h];rfl)
def Et:List D->FR:=bA 4 1 (fQ kZ)
def orM (M:Nat->Nat->Bool)(p:Pr)(b a:Nat):Bool:=M b a || (decide ((b:Int)=p.2) && decide ((a:Int)=p.1))
def Il {n:Nat}{M:Nat->Nat->Bool}{p:Pr}(h1:0<=p.1/\p.1 < n)(h2:0<=p.2/\p.2 < n):((List.range n).map λb=>mI (M b) n).set p.2.toNat (mI (i5 (M p.2.toNat) p.1.toNat) n)=(List.range n).map λb=>mI (orM M p b) n:=by
 refine Qj (by simp) λi h3 h4=>?_
 rw[List.getElem_set]
 simp only[List.getElem_map,Qu]
 unfold mI
 by_cases e:p.2.toNat=i
 ·rw[NG e]
  congr 2
  rw[mk_eq]
  intro j hj
  unfold i5 orM
  rw[e]
  have e1:((i:Nat):Int)=p.2:=by omega
  rw[NK e1,Bool.true_and]
  congr 1
  rw[Pc];omega
 ·rw[NL e]
  congr 2
  rw[mk_eq]
  intro j hj
  unfold orM
  rw[NR (by omega:¬((i:Nat):Int)=p.2)];simp
theorem zh {n:Nat}{l:List Pr}(h8:n<=8):∀(ps:List Pr) (M:Nat->Nat->Bool) (s2 s3:Sl),OM.Wn n ps->∃M' s2' s3',mE (.two 2 3) (mD 1 (([] ++ []) ++ ([2] ++ [])) [] (az kZ (aa (f2 (gv 1) (gv 3) bV) (aa (gv 2) ag))) (gv 3)) (ps.map aY) [.fz (aA n l),.ow (cS n M),s2,s3] 0=.nx [.fz (aA n l),.ow (cS n M'),s2',s3'] 0/\∀b a,b < n->a < n->M' b a=(M b a || cG ps b a)
 | [],M,s2,s3,_=>⟨M,s2,s3,rfl,λb a _ _=>by unfold cG;simp⟩
 |p :: ps,M,s2,s3,wn=>by
  have hp:=wn p (NN ..)
  obtain⟨M',s2',s3',e,hM⟩:=zh (l:=l) h8 ps (orM M p) (.fz (.int p.1)) (.fz (.int p.2)) λq hq=>wn q (NJ _ hq)
  refine⟨M',s2',s3',?_,λb a hb ha=>?_⟩
  ·rw[Oq]
   unfold mE
   rw[show fZ (.two 2 3) (aY p) [.fz (aA n l),.ow (cS n M),s2,s3]=some [.fz (aA n l),.ow (cS n M),.fz (.int p.1),.fz (.int p.2)] from rfl]
   dsimp only
   have e1:(p.2.toNat:Int)=p.2:=by omega
   have e2:(p.1.toNat:Int)=p.1:=by omega
   have ew:az kZ (aa (f2 (gv 1) (gv 3) bV) (aa (gv 2) ag)) (vl [.fz (aA n l),.ow (cS n M),.fz (.int p.1),.fz (.int p.2)]) 0=.ok (mI (i5 (M p.2.toNat) p.1.toNat) n) 0:=by
    refine aE (b:=false) (ds:=[mI (M p.2.toNat) n,.int (p.1.toNat:Int)]) (ac (aH (x:=cS n M) (y:=.int p.2) rfl rfl ?_) (ac ?_ an)) (Bv h8 (by omega))
    ·have:=KY (n:=n) (M:=M) (b:=p.2.toNat) (by omega)
     rw[e1] at this
     exact this
    ·show R.ok (int p.1) 0=_
     rw[e2]
   rw[qP (ds:=(List.range n).map λb=>mI (M b) n) (d:=mI (i5 (M p.2.toNat) p.1.toNat) n) (k:=p.2) (n:=p.2.toNat) (β1:=0) (β2:=0) ew (by rfl) rfl (by rfl) (by
    unfold uW
    rw[NG hp.2.1,NG (by simp;omega)]),Il hp.1 hp.2]
   dsimp only
   exact e
  ·rw[hM b a hb ha]
   unfold orM cG
   obtain⟨p1,p2⟩:=p
   rw[Bool.or_assoc]
   congr 1
   rw[Ox]
   simp only[Qq,N3,N4,NI,Prod.mk.injEq]
   constructor
   ·rintro (⟨h1,h2⟩ |h)
    ·exact .inl ⟨h2,h1⟩
    ·exact .inr h
   ·rintro (⟨h1,h2⟩ |h)
    ·exact .inl ⟨h2,h1⟩
    ·exact .inr h
def Av {M N:Nat->Nat->Bool}(h:∀b a,b < n->a < n->M b a=N b a):cS n M=cS n N:=by
 unfold cS
 congr 1
 refine OG λb hb=>?_
 unfold mI
 congr 2
 rw[mk_eq]
 exact λa ha=>h b a (N6.mp hb) ha
def Gz (O:OM.Ord n l):Et [aA n l]=.ok (cS n (cG l)) true:=by
 have h8:=O.hi
 show fin (fQ kZ [.fz (aA n l),.no,.no,.no] 0)=_
 unfold fQ
 rw[ao (env':=[.fz (aA n l),.ow (cS n λ_ _=>false),.no,.no]) (β':=0) ?a]
 case a=>
  have e:f2 (bC (aa (cst (.int 0)) ag)) (f2 (gv 0) (cst (.int 0)) bV) oN (vl [.fz (aA n l),.no,.no,.no]) 0=.ok (cS n λ_ _=>false) 0:=by
   refine aH (lp (ac (ck _) an)) (Hq (n:=n) (l:=l) rfl) ?_
   simp only[oN]
   rw[NG ⟨by omega,by omega,by rw[N8];simp;omega⟩]
   unfold cS
   congr 2
   rw[Oa]
   have hz:∀m,mk (λ_=>false) m=0:=λm=>by
    induction m with
    |zero=>rfl
    |succ m ih=>unfold mk;rw[ih];simp
   unfold mI
   simp only[hz]
   have:∀m:Nat,(List.replicate m [int 0]).flatten=List.replicate m (int 0):=λm=>by
    induction m with
    |zero=>rfl
    |succ m ih=>rw[Oy,Oy,O8,ih];rfl
   rw[this]
   refine Qj (by simp) λi h1 h2=>by simp
  rw[jh,e];rfl
 obtain⟨M',s2,s3,e,hM⟩:=zh (l:=l) h8 l (λ_ _=>false) .no .no O.wn
 have hm:cS n M'=cS n (cG l):=Av λb a hb ha=>by rw[hM b a hb ha];rfl
 rw[hm] at e
 rw[ao (env':=[.fz (aA n l),.ow (cS n (cG l)),s2,s3]) (β':=0) (by
  rw[dz (env:=[.fz (aA n l),.ow (cS n λ_ _=>false),.no,.no]) (ds:=l.map aY) (β1:=0) (by unfold bR;rw[Np (n:=n) (l:=l) rfl];rfl)]
  exact e)]
 rfl
end RM
namespace RM
open PySem L2
def bJ (r:List Int)(i:Nat):Bool:=decide ((i:Int)∈r)
def xK:List D->FR:=bA 5 2 (fN kZ)
def Di (O:OM.Ord n l)(ht:t < n):(!decide (mk (i5 (bJ r) t) n=mk (bJ r) n) && decide (mk (bJ r) n &&& mk (cG l t) n=mk (cG l t) n))=eY l r t:=by
 unfold eY
 congr 1
 ·congr 1
  rw[Pc,mk_eq]
  constructor
  ·intro h
   have:=h t ht
   unfold i5 bJ at this
   simp at this
   exact this
  ·intro h i hi
   unfold i5 bJ
   by_cases e:i=t
   ·subst e;simp[h]
   ·simp[e]
 ·rw[Pc,Ju]
  constructor
  ·intro h
   rw[List.eq_nil_iff_forall_not_mem]
   intro a ha
   obtain⟨h1,h2⟩:=jO.mp ha
   have hw:=(O.wn _ h1).1
   simp only at hw
   have e:((a.toNat:Nat):Int)=a:=by omega
   have:=h a.toNat (by omega) (by unfold cG;rw[e];exact NK h1)
   unfold bJ at this
   rw[e] at this
   exact h2 (Pt this)
  ·intro h i hi hg
   unfold bJ
   refine NK (Classical.byContradiction λq=>?_)
   have:(i:Int)∈qU l r t:=jO.mpr ⟨Pt hg,q⟩
   rw[h] at this;cases this
def Gi (O:OM.Ord n l)(r:List Int):∃s3 s4,mE (.two 3 4) (lx ((([1] ++ ([3] ++ [])) ++ []) ++ (([] ++ []) ++ [])) (zX (dh (f2 (az kZ (aa (gv 1) (aa (gv 3) ag))) (gv 1) (dX true))) (dh (f2 (f2 (gv 1) (gv 4) Cr) (gv 4) (dX false))))
  (l0 2 [3] (gv 3)) nt) (dB ((List.range n).map λb=>mI (cG l b) n)) [.fz (cS n (cG l)),.fz (mI (bJ r) n),.ow (.list []),.no,.no] 0=.nx [.fz (cS n (cG l)),.fz (mI (bJ r) n),.ow (.list ((aP l r n).map int)),s3,s4] 0:=by
 have h8:=O.hi
 obtain⟨env',β',ef,s3,s4,rfl,rfl⟩:=cT (t:=.two 3 4) (m:=lx ((([1] ++ ([3] ++ [])) ++ []) ++ (([] ++ []) ++ [])) (zX (dh (f2 (az kZ (aa (gv 1) (aa (gv 3) ag))) (gv 1) (dX true))) (dh (f2 (f2 (gv 1) (gv 4) Cr) (gv 4) (dX false))))
  (l0 2 [3] (gv 3)) nt) (ds:=dB ((List.range n).map λb=>mI (cG l b) n)) (k:=0)
  (λk env b=>∃s3 s4,env= [.fz (cS n (cG l)),.fz (mI (bJ r) n),.ow (.list ((aP l r k).map int)),s3,s4]/\b=0)
  (env:=[.fz (cS n (cG l)),.fz (mI (bJ r) n),.ow (.list []),.no,.no]) (β:=0) ⟨.no,.no,rfl,rfl⟩ (by
   rintro k d env b hk ⟨s3,s4,rfl,rfl⟩
   unfold dB at hk
   rw[Qi,NP] at hk
   have hkn:k < n:=by
    by_cases h:k < n
    ·exact h
    ·rw[Pg (by simp;omega)] at hk;cases hk
   rw[OZ hkn] at hk
   cases hk
   refine⟨[.fz (cS n (cG l)),.fz (mI (bJ r) n),.ow (.list ((aP l r (0 + k)).map int)),.fz (.int k),.fz (mI (cG l k) n)],rfl,?_⟩
   rw[Oz]
   have et:zX (dh (f2 (az kZ (aa (gv 1) (aa (gv 3) ag))) (gv 1) (dX true))) (dh (f2 (f2 (gv 1) (gv 4) Cr) (gv 4) (dX false))) (vl [.fz (cS n (cG l)),.fz (mI (bJ r) n),.ow (.list ((aP l r k).map int)),.fz (.int k),.fz (mI (cG l k) n)]) 0=.ok (eY l r k) 0:=by
    rw[<-Di O hkn]
    refine yj (dq _ _ _ _ (aH (x:=mI (i5 (bJ r) k) n) (y:=mI (bJ r) n) (aE (ds:=[mI (bJ r) n,.int k]) rfl (Bv h8 hkn)) rfl ?_)) (dq _ _ _ _ (aH (x:=.int ((mk (bJ r) n &&& mk (cG l k) n:Nat):Int)) (y:=mI (cG l k) n) (aH (x:=mI (bJ r) n) (y:=mI (cG l k) n) rfl rfl ?_) rfl ?_))
    ·unfold mI;rw[uI,NG rfl];congr 3;rw[Pc];omega
    ·show some (int (Builtin.bitAnd _ _))=_
     rw[xP]
    ·unfold mI;rw[uI,NL NY];congr 2;rw[Pc];omega
   cases c:eY l r (k:Int) with
   |true=>
    rw[c] at et
    refine⟨[.fz (cS n (cG l)),.fz (mI (bJ r) n),.ow (.list ((aP l r (k + 1)).map int)),.fz (.int k),.fz (mI (cG l k) n)],0,?_,_,_,rfl,rfl⟩
    rw[gC et]
    have hz:=ik l r k
    rw[show bt ((([1] ++ ([3] ++ [])) ++ []) ++ (([] ++ []) ++ [])) [.fz (cS n (cG l)),.fz (mI (bJ r) n),.ow (.list ((aP l r k).map int)),.fz (.int k),.fz (mI (cG l k) n)]= [.fz (cS n (cG l)),.fz (mI (bJ r) n),.ow (.list ((aP l r k).map int)),.fz (.int k),.fz (mI (cG l k) n)] from rfl]
    rw[pw (i:=2) (ds:=(aP l r k).map int) (d:=.int k) (β':=0) (by rfl) rfl (by rfl) (by rw[NM];omega),nK,NG c,OO]
    rfl
   |false=>
    rw[c] at et
    refine⟨[.fz (cS n (cG l)),.fz (mI (bJ r) n),.ow (.list ((aP l r (k + 1)).map int)),.fz (.int k),.fz (mI (cG l k) n)],0,?_,_,_,rfl,rfl⟩
    rw[fY et,nK,c,show aP l r k ++ (if false=true then [(k:Int)] else [])=aP l r k by simp]
    rfl)
 have hle:(dB ((List.range n).map λb=>mI (cG l b) n)).length=n:=by unfold dB;simp
 rw[Oz,hle] at ef
 exact⟨s3,s4,ef⟩
def ID (O:OM.Ord n l)(r:List Int):xK [cS n (cG l),mI (bJ r) n]=.ok (.list ((aP l r n).map int)) true:=by
 show fin (fN kZ [.fz (cS n (cG l)),.fz (mI (bJ r) n),.no,.no,.no] 0)=_
 unfold fN
 rw[ao (env':=[.fz (cS n (cG l)),.fz (mI (bJ r) n),.ow (.list []),.no,.no]) (β':=0) (by rw[jh,lp (ds:=[]) an];rfl)]
 obtain⟨s3,s4,e⟩:=Gi O r
 rw[ao (env':=[.fz (cS n (cG l)),.fz (mI (bJ r) n),.ow (.list ((aP l r n).map int)),s3,s4]) (β':=0) (by
  rw[dz (env:=[.fz (cS n (cG l)),.fz (mI (bJ r) n),.ow (.list []),.no,.no]) (ds:=dB ((List.range n).map λb=>mI (cG l b) n)) (β1:=0) rfl]
  exact e)]
 rfl
def Cp (n:Nat):mI (bJ []) n=.int 0:=by
 unfold mI
 congr 1
 have:mk (bJ []) n=0:=by
  induction n with
  |zero=>rfl
  |succ m ih=>unfold mk;rw[ih];simp[bJ]
 rw[this];rfl
def xl {n:Nat}{r:List Int}{x:Int}(h:0<=x/\x < n):mI (i5 (bJ r) x.toNat) n=mI (bJ (r ++ [x])) n:=by
 unfold mI
 congr 2
 rw[mk_eq]
 intro i hi
 unfold i5 bJ
 rw[Ox]
 simp only[Qq,N4,N7,N9]
 constructor
 ·rintro (h |h)
  ·exact .inl h
  ·exact .inr (by omega)
 ·rintro (h |h)
  ·exact .inl h
  ·exact .inr (by omega)
def y6 (f:Nat->Bool)(n:Nat):mk f n < 2 ^ n:=by
 apply Nat.lt_pow_two_of_testBit
 intro i hi
 rw[du,NR (by omega)];rfl
def ofM (n m:Nat):List Int:=(eB n).filter λx=>m.testBit x.toNat
def DO (h:m < 2 ^ n):mk (bJ (ofM n m)) n=m:=by
 apply Pn
 intro i
 rw[du]
 by_cases c:i < n
 ·rw[NK c,Bool.true_and]
  unfold bJ ofM
  rw[Ox,N4,Oc]
  constructor
  ·intro h;simpa using h.2
  ·intro h;exact⟨a8.mpr ⟨by omega,by omega⟩,by simpa using h⟩
 ·rw[NR c,Bool.false_and]
  exact (Nat.testBit_lt_two_pow (N5 h (Nat.pow_le_pow_right (by omega) (by omega)))).symm
def GB {f:Nat->Bool}(ht:t < n)(hf:f t=false):mk f n < mk (i5 f t) n:=by
 have h1:mk f n<=mk (i5 f t) n:=by rw[<-Hi ht];exact Nat.left_le_or
 have h2:mk f n≠mk (i5 f t) n:=λe=>by
  have:=mk_eq.mp e t ht
  unfold i5 at this
  rw[hf] at this
  simp at this
 omega
def D5 (n m:Nat)(x:Int):Nat:=mk (i5 (bJ (ofM n m)) x.toNat) n
def GO (n m:Nat)(x:Int):D5 n m x < 2 ^ n:=y6 _ _
def GF (hm:m < 2 ^ n)(hx:x∈aP l (ofM n m) n):m < D5 n m x:=by
 unfold aP at hx
 obtain⟨h1,h2⟩:=Oc.mp hx
 have h1:=a8.mp h1
 unfold eY at h2
 rw[N3,Pq,decide_eq_false_iff_not] at h2
 have:=GB (f:=bJ (ofM n m)) (n:=n) (t:=x.toNat) (by omega) (by
  unfold bJ
  rw[NR]
  rw[show ((x.toNat:Nat):Int)=x by omega]
  exact h2.1)
 rw[DO hm] at this
 exact this
def rh (n:Nat)(l:List Pr)(T:List Int)(m:Nat):Int:=((aP l (ofM n m) n).map λx=>T.getD (D5 n m x) 0).sum
structure Wt (n:Nat)(l:List Pr)(lo:Nat)(T:List Int):Prop where
 len:T.length=2 ^ n
 top:T.getD (2 ^ n - 1) 0=1
 eq:∀m,lo<=m->m < 2 ^ n - 1->T.getD m 0=rh n l T m
def kJ {T:List Int}{i j:Nat}{v:Int}(h:i≠j):(T.set i v).getD j 0=T.getD j 0:=by
 rw[Ob,Ob,NX h]
def Wt.step {n:Nat}{l:List Pr}{lo:Nat}{T:List Int}(W:Wt n l (lo + 1) T)(h:lo < 2 ^ n - 1):Wt n l lo (T.set lo (rh n l T lo)):=by
 have key:∀m,lo<=m->m < 2 ^ n->rh n l (T.set lo (rh n l T lo)) m=rh n l T m:=λm h1 h2=>by
  unfold rh
  congr 1
  refine OG λx hx=>kJ ?_
  have:=GF h2 hx
  omega
 refine⟨by rw[OL];exact W.len,by rw[kJ (by omega)];exact W.top,λm h1 h2=>?_⟩
 rw[key m h1 (by omega)]
 by_cases c:m=lo
 ·subst c
  rw[Ob,NW (by rw[W.len];omega)];rfl
 ·rw[kJ (by omega)]
  exact W.eq m (by omega) h2
noncomputable def Ad:List D->FR:=bA 4 1 (lg xK kZ)
def ML (O:OM.Ord n l):∃T,Ad [cS n (cG l)]=.ok (.list (T.map int)) true/\Wt n l 0 T:=by
 have h8:=O.hi
 have hp:2 ^ n<=256:=Nat.pow_le_pow_right (n:=2) (by omega) h8
 have hp0:1<=2 ^ n:=Nat.one_le_two_pow
 show ∃T,fin (lg xK kZ [.fz (cS n (cG l)),.no,.no,.no] 0)=_/\_
 unfold lg
 have ef:f2 (f2 (cst (.int 1)) (f1 (gv 0) cR) xE) (cst (.int 1)) oF (vl [.fz (cS n (cG l)),.no,.no,.no]) 0=.ok (.int ((2 ^ n - 1:Nat):Int)) 0:=by
  have el:f1 (gv 0) cR (vl [.fz (cS n (cG l)),.no,.no,.no]) 0=.ok (.int n) 0:=by
   rw[DX (ds:=(List.range n).map λb=>mI (cG l b) n) rfl,NM,Qf]
  have es:xE (.int 1) (.int (n:Int))=some (.int ((2 ^ n:Nat):Int)):=by
   obtain⟨k,hk⟩:∃k,k=n:=⟨_,rfl⟩
   have:∀t:Nat,t < 9->xE (.int 1) (.int (t:Int))=some (.int ((2 ^ t:Nat):Int)):=by
    intro t ht
    rcases (by omega:t < 8\/t=8) with h |rfl
    ·exact D7 t h
    ·rfl
   exact this n (by omega)
  refine aH (x:=.int ((2 ^ n:Nat):Int)) (y:=.int 1) (aH (x:=.int 1) (y:=.int n) rfl el es) rfl ?_
  show some (int (((2 ^ n:Nat):Int) - 1))=_
  congr 2
  omega
 rw[ao (env':=[.fz (cS n (cG l)),.fz (.int ((2 ^ n - 1:Nat):Int)),.no,.no]) (β':=0) (by rw[bD,ef];rfl)]
 generalize hF:2 ^ n - 1=F
 have hF8:F<=255:=by omega
 obtain⟨L0,hL⟩:∃L0,L0=List.replicate F (0:Int) ++ [1]:=⟨_,rfl⟩
 rw[ao (env':=[.fz (cS n (cG l)),.fz (.int ((F:Nat):Int)),.ow (.list (L0.map int)),.no]) (β':=0) ?g1]
 case g1=>
  have er:f2 (bC (aa (cst (.int 0)) ag)) (gv 1) oN (vl [.fz (cS n (cG l)),.fz (.int ((F:Nat):Int)),.no,.no]) 0=.ok (.list ((List.replicate F (0:Int)).map int)) 0:=by
   refine aH (x:=.list [.int 0]) (y:=.int F) (lp (ds:=[.int 0]) (ac rfl an)) rfl ?_
   unfold oN
   dsimp only
   rw[NG ⟨by omega,by omega,by rw[N8];simp;omega⟩]
   congr 2
   simp
  have ec:f2 (f2 (bC (aa (cst (.int 0)) ag)) (gv 1) oN) (bC (aa (cst (.int 1)) ag)) jb (vl [.fz (cS n (cG l)),.fz (.int ((F:Nat):Int)),.no,.no]) 0=.ok (.list ((List.replicate F (0:Int) ++ [1]).map int)) 0:=by
   refine aH (y:=.list [.int 1]) er (lp (ds:=[.int 1]) (ac rfl an)) ?_
   rw[mV (by simp;omega),OO];rfl
  rw[jh,ec,hL];rfl
 obtain⟨env',β',el,T,s3,rfl,rfl,W⟩:=cT (t:=.nm 3) (m:=mD 2 (([0] ++ ([3] ++ [])) ++ [3]) [] (f1 (bh 1 [2,3] (.nm 0) (bR (az xK (aa (gv 0) (aa (gv 3) ag)))) oH (f2 (gv 1) (az kZ (aa (gv 2) (aa (gv 0) ag))) bV)) rz) (gv 3)) (ds:=nq ((F:Int) - 1) F) (k:=0)
  (λk env b=>∃(T:List Int) (s3:Sl),env= [.fz (cS n (cG l)),.fz (.int ((F:Nat):Int)),.ow (.list (T.map int)),s3]/\b=0/\Wt n l (F - k) T)
  (env:=[.fz (cS n (cG l)),.fz (.int ((F:Nat):Int)),.ow (.list (L0.map int)),.no]) (β:=0)
  ⟨_,.no,rfl,rfl,by rw[hL];simp;omega,by
   rw[hL,hF,Ob,Oj (by simp)];simp,λm h1 h2=>by omega⟩ (by
   rintro k d env b hk ⟨T,s3,rfl,rfl,W⟩
   have hkF:k < F:=by have:=(NV.mp hk).1;rwa [nN] at this
   have hd:d=.int ((F - 1 - k:Nat):Int):=by
    unfold nq at hk
    rw[NP,OZ hkF] at hk
    cases hk
    rw[show ((F - 1 - k:Nat):Int)=(F:Int) - 1 - (k:Int) by omega]
   subst hd
   rw[Oz] at W
   generalize hm:F - 1 - k=m
   rw[show F - k=m + 1 by omega] at W
   have hmN:m < 2 ^ n:=by omega
   refine⟨[.fz (cS n (cG l)),.fz (.int ((F:Nat):Int)),.ow (.list (T.map int)),.fz (.int ((m:Nat):Int))],rfl,?_⟩
   have emk:int ((m:Nat):Int)=mI (bJ (ofM n m)) n:=by unfold mI;rw[DO hmN]
   have ec:bh 1 [2,3] (.nm 0) (bR (az xK (aa (gv 0) (aa (gv 3) ag)))) oH (f2 (gv 1) (az kZ (aa (gv 2) (aa (gv 0) ag))) bV) (vl [.fz (cS n (cG l)),.fz (.int ((F:Nat):Int)),.ow (.list (T.map int)),.fz (.int ((m:Nat):Int))]) 0=.ok (.list ((aP l (ofM n m) n).map λx=>int (T.getD (D5 n m x) 0))) 0:=by
    refine hZ (l:=aP l (ofM n m) n) (e:=int) (λx=>int (T.getD (D5 n m x) 0)) ?_ (by have:=ik l (ofM n m) n;omega) λx hx=>⟨[.da (.int x),.da (.list (T.map int)),.da (.int ((m:Nat):Int))],rfl,?_⟩
    ·have:=aE (F:=xK) (fr:=aa (gv 0) (aa (gv 3) ag)) (vs:=vl [.fz (cS n (cG l)),.fz (.int ((F:Nat):Int)),.ow (.list (T.map int)),.fz (.int ((m:Nat):Int))]) (β:=0) (β1:=0) (ds:=[cS n (cG l),mI (bJ (ofM n m)) n]) (by rw[<-emk];rfl) (ID O (ofM n m))
     unfold bR
     rw[this];rfl
    ·have hxr:=a8.mp (Oc.mp hx).1
     have ew:az kZ (aa (gv 2) (aa (gv 0) ag)) [.da (.int x),.da (.list (T.map int)),.da (.int ((m:Nat):Int))] 0=.ok (.int ((D5 n m x:Nat):Int)) 0:=aE (ds:=[mI (bJ (ofM n m)) n,.int (x.toNat:Int)]) (by rw[<-emk,show ((x.toNat:Nat):Int)=x by omega];rfl) (Bv h8 (by omega))
     refine aH (x:=.list (T.map int)) rfl ew ?_
     have hl:=GO n m x
     show i4 (T.map int) ((D5 n m x:Nat):Int)=_
     rw[cW,jE (by rw[W.len];exact hl),Ob,NC (by rw[W.len];exact hl)];rfl
   have es:f1 (bh 1 [2,3] (.nm 0) (bR (az xK (aa (gv 0) (aa (gv 3) ag)))) oH (f2 (gv 1) (az kZ (aa (gv 2) (aa (gv 0) ag))) bV)) rz (vl [.fz (cS n (cG l)),.fz (.int ((F:Nat):Int)),.ow (.list (T.map int)),.fz (.int ((m:Nat):Int))]) 0=.ok (.int (rh n l T m)) 0:=by
    refine dg ec ?_
    have e9:((aP l (ofM n m) n).map λx=>int (T.getD (D5 n m x) 0))=((aP l (ofM n m) n).map λx=>T.getD (D5 n m x) 0).map int:=by rw[PD];rfl
    unfold rz
    dsimp only
    rw[e9,dP];rfl
   refine⟨[.fz (cS n (cG l)),.fz (.int ((F:Nat):Int)),.ow (.list ((T.set m (rh n l T m)).map int)),.fz (.int ((m:Nat):Int))],0,?_,_,_,rfl,rfl,?_⟩
   ·rw[qP (i:=2) (ds:=T.map int) (d:=.int (rh n l T m)) (k:=m) (n:=m) (β1:=0) (β2:=0) es (by rfl) rfl (by rfl) (by
     unfold uW
     rw[NG (by omega),NG (by rw[NM,W.len];omega)];rfl),<-List.map_set];rfl
   ·rw[Oz,show F - (k + 1)=m by omega]
    exact W.step (by omega))
 rw[Oz,nN,Nat.sub_self] at W
 refine⟨T,?_,W⟩
 rw[ao (env':=[.fz (cS n (cG l)),.fz (.int ((F:Nat):Int)),.ow (.list (T.map int)),s3]) (β':=0) ?g2]
 case g2=>
  rw[dz (env:=[.fz (cS n (cG l)),.fz (.int ((F:Nat):Int)),.ow (.list (L0.map int)),.no]) (ds:=nq ((F:Int) - 1) F) (β1:=0) ?g3]
  ·exact el
  case g3=>
   show (if (u9 ((F:Int) - 1) && u9 (-1) && (-1:Int) == -1)=true then R.ok (nq ((F:Int) - 1) (((F:Int) - 1) - (-1)).toNat) 0 else R.bad)=_
   rw[NG (by rw[la (by omega) (by omega)];rfl),show (((F:Int) - 1) - (-1)).toNat=F by omega]
 rfl
theorem yz:∀{L:List Int},(∀x,x∈L->0<=x)->0<=L.sum
 | [],_=>by simp
 |x :: L,h=>by
  rw[sum_cons]
  have h1:=h x (NN ..)
  have h2:=yz (L:=L) λy hy=>h y (NJ _ hy)
  omega
theorem C2:∀{L:List Int} {x:Int},(∀x,x∈L->0<=x)->x∈L->x<=L.sum
 |y :: L,x,h,hx=>by
  rw[sum_cons]
  have h1:=h y (NN ..)
  have h2:=yz (L:=L) λz hz=>h z (NJ _ hz)
  rcases NI.mp hx with rfl |hx
  ·omega
  ·have:=C2 (L:=L) (λz hz=>h z (NJ _ hz)) hx
   omega
theorem Wt.nn (W:Wt n l 0 T):∀d m,m < 2 ^ n->2 ^ n - m<=d->0<=T.getD m 0
 | 0,m,h,hd=>by omega
 |d + 1,m,h,hd=>by
  by_cases c:m=2 ^ n - 1
  ·rw[c,W.top];omega
  ·rw[W.eq m (Oh _) (by omega)]
   refine yz λy hy=>?_
   obtain⟨x,hx,rfl⟩:=NT.mp hy
   have:=GF h hx
   exact W.nn d _ (GO n m x) (by omega)
def bY (n:Nat)(T:List Int)(r:List Int):Int:=T.getD (mk (bJ r) n) 0
def DA (h:∀x,x∈r↔x∈r')(x:Int):eY l r x=eY l r' x:=by
 unfold eY qU
 have e1:decide (x∈r)=decide (x∈r'):=by rw[Pc];exact h x
 rw[e1]
 congr 2
 simp only[h]
def Dj {n:Nat}{r:List Int}(hr:∀x,x∈r->0<=x/\x < (n:Int))(x:Int):x∈r↔x∈ofM n (mk (bJ r) n):=by
 unfold ofM
 rw[Oc,a8]
 constructor
 ·intro h
  have hx:=hr x h
  refine⟨hx,?_⟩
  rw[du,NK (by omega)]
  unfold bJ
  rw[show ((x.toNat:Nat):Int)=x by omega]
  simp[h]
 ·rintro⟨hx,hb⟩
  rw[du,NK (by omega)] at hb
  unfold bJ at hb
  rw[show ((x.toNat:Nat):Int)=x by omega] at hb
  simpa using hb
def KN {n:Nat}{r:List Int}(hr:∀x,x∈r->0<=x/\x < (n:Int)){x:Int}(hx:0<=x/\x < (n:Int)):D5 n (mk (bJ r) n) x=mk (bJ (r ++ [x])) n:=by
 unfold D5
 rw[mk_eq]
 intro i hi
 unfold i5 bJ
 rw[Ox]
 simp only[Qq,N4,N7,N9]
 constructor
 ·rintro (h |h)
  ·exact .inl ((Dj hr _).mpr h)
  ·exact .inr (by omega)
 ·rintro (h |h)
  ·exact .inl ((Dj hr _).mp h)
  ·exact .inr (by omega)
def ke (B:tH n l r):mk (bJ r) n=2 ^ n - 1↔n<=r.length:=by
 constructor
 ·intro e
  have:(eB n).length<=r.length:=L2.ST.bF (jn n) λx hx=>by
   have hx:=a8.mp hx
   have hb:(mk (bJ r) n).testBit x.toNat=true:=by rw[e,Nat.testBit_two_pow_sub_one,NK (by omega)]
   rw[du,NK (by omega)] at hb
   unfold bJ at hb
   rw[show ((x.toNat:Nat):Int)=x by omega] at hb
   simpa using hb
  rw[cy] at this
  exact this
 ·intro h
  apply Pn
  intro i
  rw[du,Nat.testBit_two_pow_sub_one]
  by_cases c:i < n
  ·have hl:=B.len
   have hp:=qB (n:=n) (r:=r) (by omega) B.inn B.nd
   rw[NK c,Bool.true_and]
   unfold bJ
   rw[NK]
   exact hp.mem_iff.mpr (a8.mpr ⟨by omega,by omega⟩)
  ·rw[NR c];rfl
def Wt.at (W:Wt n l 0 T)(B:tH n l r)(h:r.length < n):bY n T r=((aP l r n).map λx=>bY n T (r ++ [x])).sum:=by
 have hm:=y6 (bJ r) n
 have hne:RM.mk (bJ r) n≠2 ^ n - 1:=λe=>by have:=(ke B).mp e;omega
 unfold bY
 rw[W.eq _ (Oh _) (by omega)]
 unfold rh
 have e1:aP l (ofM n (RM.mk (bJ r) n)) n=aP l r n:=by
  unfold aP
  refine List.filter_congr λx _=>(DA (λy=>Dj B.inn y) x).symm
 rw[e1]
 congr 1
 refine OG λx hx=>?_
 rw[KN B.inn (a8.mp (Oc.mp hx).1)]
def Wt.ways0 (W:Wt n l 0 T)(r:List Int):0<=bY n T r:=W.nn (2 ^ n) _ (y6 _ _) (Nat.sub_le _ _)
def yq (B:tH n l r)(hx:x∈aP l r n):tH n l (r ++ [x]):=B.more (a8.mp (Oc.mp hx).1) (Oc.mp hx).2
theorem Wt.pos (O:OM.Ord n l)(W:Wt n l 0 T):∀(k:Nat) (r:List Int),n - r.length<=k->tH n l r->1<=bY n T r
 | 0,r,hk,B=>by
  unfold bY
  rw[(ke B).mpr (by omega),W.top];omega
 |k + 1,r,hk,B=>by
  by_cases c:r.length < n
  ·have hne:=B.free O c
   obtain⟨x,hx⟩:=List.exists_mem_of_ne_nil _ hne
   have h1:=W.pos O k (r ++ [x]) (by rw[Oe,O0];omega) (yq B hx)
   rw[W.at B c]
   have:=C2 (L:=(aP l r n).map λx=>bY n T (r ++ [x])) (x:=bY n T (r ++ [x])) (λy hy=>by
    obtain⟨z,_,rfl⟩:=NT.mp hy
    exact W.ways0 _) (NT.mpr ⟨x,hx,rfl⟩)
   omega
  ·unfold bY
   rw[(ke B).mpr (by omega),W.top];omega
def Ea {n:Nat}{l:List Pr}{T r:List Int}{x:Int}(h8:n<=8)(hT:T.length=2 ^ n)(hx:0<=x/\x < (n:Int)){fw fp fx:VF D}{vs:List Nv}{β:Int}(hw:fw vs β=.ok (.list (T.map int)) β)(hp:fp vs β=.ok (mI (bJ r) n) β)(hfx:fx vs β=.ok (.int x) β) :
  f2 fw (az kZ (aa fp (aa fx ag))) bV vs β=.ok (.int (bY n T (r ++ [x]))) β:=by
 have ew:az kZ (aa fp (aa fx ag)) vs β=.ok (mI (bJ (r ++ [x])) n) β:=by
  rw[<-xl hx]
  exact aE (ds:=[mI (bJ r) n,.int (x.toNat:Int)]) (ac hp (ac (by rw[hfx,show ((x.toNat:Nat):Int)=x by omega]) an)) (Bv h8 (by omega))
 refine aH (x:=.list (T.map int)) hw ew ?_
 have hl:=y6 (bJ (r ++ [x])) n
 show i4 (T.map int) ((mk (bJ (r ++ [x])) n:Nat):Int)=_
 unfold bY
 rw[cW,jE (by rw[hT];exact hl),Ob,NC (by rw[hT];exact hl)];rfl
noncomputable def Lm:List D->FR:=bA 6 4 (mz xK kZ)
abbrev cE (n:Nat)(l:List Pr)(T r:List Int)(a:Int)(j:Nat):En:=[.fz (cS n (cG l)),.fz (.list (T.map int)),.fz (mI (bJ r) n),.fz (.int a),.fz (.list ((aP l r n).map int)),.fz (.int ((j:Nat):Int))]
def Mf (O:OM.Ord n l)(W:Wt n l 0 T)(B:tH n l r)(hlt:r.length < n)(h0:0<=a)(h1:a < bY n T r):∃x b,Lm [cS n (cG l),.list (T.map int),mI (bJ r) n,.int a]=.ok (.tuple [.int x,.int b]) false/\x∈aP l r n/\0<=b/\b < bY n T (r ++ [x]):=by
 have h8:=O.hi
 show ∃x b,fin (mz xK kZ [.fz (cS n (cG l)),.fz (.list (T.map int)),.fz (mI (bJ r) n),.fz (.int a),.no,.no] 0)=_/\_
 unfold mz
 rw[ao (env':=[.fz (cS n (cG l)),.fz (.list (T.map int)),.fz (mI (bJ r) n),.fz (.int a),.fz (.list ((aP l r n).map int)),.no]) (β':=0) (by rw[bD,aE (ds:=[cS n (cG l),mI (bJ r) n]) (β1:=0) rfl (ID O r)];rfl)]
 rw[ao (env':=cE n l T r a 0) (β':=0) (by rfl)]
 have hfl:=ik l r n
 obtain⟨env',β',ew,b,j,x,rfl,rfl,hx,hb0,hb1⟩:=hJ (L:=[] ++ ([] ++ ([2] ++ (([] ++ []) ++ [])))) (t:=dh (f2 (gv 3) (f2 (gv 1) (az kZ (aa (gv 2) (aa (f2 (gv 4) (gv 5) bV) ag))) bV) Mv))
  (m:=aJ (a7 3 ([] ++ ([] ++ ([2] ++ (([] ++ []) ++ [])))) (f2 (gv 3) (f2 (gv 1) (az kZ (aa (gv 2) (aa (f2 (gv 4) (gv 5) bV) ag))) bV) oF))
   (a7 5 ([] ++ []) (f2 (gv 5) (cst (.int 1)) cH)))
  (λk env β=>∃(b:Int) (j:Nat),env=cE n l T r b j/\β=0/\k=(aP l r n).length - j/\0<=b/\b < (((aP l r n).drop j).map λx=>bY n T (r ++ [x])).sum)
  (λenv β=>∃(b:Int) (j:Nat) (x:Int),env=cE n l T r b j/\β=0/\(aP l r n)[j]? =some x/\0<=b/\b < bY n T (r ++ [x]))
  (n:=1000) (k:=(aP l r n).length) (env:=cE n l T r a 0) (β:=0) (by omega)
  ⟨a,0,rfl,rfl,rfl,h0,by rw[W.at B hlt] at h1;exact h1⟩ (by
   rintro k env β ⟨b,j,rfl,rfl,rfl,hb0,hb1⟩
   have hj:j < (aP l r n).length:=by
    apply Classical.byContradiction
    intro hn
    rw[List.drop_eq_nil_of_le (by omega)] at hb1
    simp at hb1
    omega
   obtain⟨x,hx⟩:∃x,(aP l r n)[j]? =some x:=⟨_,NC hj⟩
   have hxm:x∈aP l r n:=NU hx
   have hxr:=a8.mp (Oc.mp hxm).1
   have hdr:(aP l r n).drop j=x :: (aP l r n).drop (j + 1):=by
    rw[Qp hj]
    rw[NC hj] at hx
    rw[Option.some.inj hx]
   rw[hdr,Oq,sum_cons] at hb1
   have ei:∀c:Int,f2 (gv 4) (gv 5) bV (vl (cE n l T r c j)) 0=.ok (.int x) 0:=λc=>by
    refine aH (x:=.list ((aP l r n).map int)) (y:=.int j) rfl rfl ?_
    show i4 ((aP l r n).map int) (j:Int)=_
    rw[cW,jE hj]
    rw[NC hj] at hx
    rw[Option.some.inj hx];rfl
   have ev:f2 (gv 1) (az kZ (aa (gv 2) (aa (f2 (gv 4) (gv 5) bV) ag))) bV (vl (cE n l T r b j)) 0=.ok (.int (bY n T (r ++ [x]))) 0:=Ea (l:=l) h8 W.len hxr rfl rfl (ei b)
   refine⟨decide (b>=bY n T (r ++ [x])),0,dq _ _ _ _ (aH (x:=.int b) (y:=.int (bY n T (r ++ [x]))) rfl ev rfl),?_⟩
   by_cases c:b>=bY n T (r ++ [x])
   ·refine .inr ⟨NK c,?_⟩
    show ∃env2 β2 k',aJ _ _ (cE n l T r b j) 0=.nx env2 β2/\k' < (aP l r n).length - j/\_
    rw[ao (env':=cE n l T r (b - bY n T (r ++ [x])) j) (β':=0) (by
     rw[bD,aH (x:=.int b) (y:=.int (bY n T (r ++ [x]))) (d:=.int (b - bY n T (r ++ [x]))) (β1:=0) (β2:=0) rfl ev rfl];rfl)]
    refine⟨cE n l T r (b - bY n T (r ++ [x])) (j + 1),0,(aP l r n).length - (j + 1),?_,by omega,_,_,rfl,rfl,rfl,by omega,by omega⟩
    show a7 5 ([] ++ []) (f2 (gv 5) (cst (.int 1)) cH) (cE n l T r (b - bY n T (r ++ [x])) j) 0=.nx [.fz (cS n (cG l)),.fz (.list (T.map int)),.fz (mI (bJ r) n),.fz (.int (b - bY n T (r ++ [x]))),.fz (.list ((aP l r n).map int)),.fz (.int ((j + 1:Nat):Int))] 0
    rw[show ((j + 1:Nat):Int)=(j:Int) + 1 by omega];rfl
   ·exact .inl ⟨NR c,b,j,x,rfl,rfl,hx,hb0,by omega⟩)
 have hxm:x∈aP l r n:=NU hx
 refine⟨x,b,?_,hxm,hb0,hb1⟩
 have hj:=(NV.mp hx).1
 have ei:f2 (gv 4) (gv 5) bV (vl (cE n l T r b j)) 0=.ok (.int x) 0:=by
  refine aH (x:=.list ((aP l r n).map int)) (y:=.int j) rfl rfl ?_
  show i4 ((aP l r n).map int) (j:Int)=_
  rw[cW,jE hj]
  rw[NC hj] at hx
  rw[Option.some.inj hx];rfl
 rw[ao ew,gE,kQ (ds:=[.int x,.int b]) (β1:=0) (ac ei (ac rfl an)) (by simp)];rfl
noncomputable def Mr:List D->FR:=bA 1 1 (iN jr Ad Et)
def EL (n:Nat)(T:List Int):bY n T []=T.getD 0 0:=by
 unfold bY
 have:mk (bJ []) n=0:=by
  apply Pn
  intro i
  rw[du]
  unfold bJ
  simp
 rw[this]
noncomputable def dW (n:Nat)(l:List Pr):List Int:=Classical.epsilon λT:List Int=>Ad [cS n (cG l)]=.ok (.list (T.map int)) true/\Wt n l 0 T
def jI (O:OM.Ord n l):Ad [cS n (cG l)]=.ok (.list ((dW n l).map int)) true/\Wt n l 0 (dW n l):=Classical.epsilon_spec (p:=λT:List Int=>Ad [cS n (cG l)]=.ok (.list (T.map int)) true/\Wt n l 0 T) (ML O)
noncomputable def mW (n:Nat)(l:List Pr):Int:=bY n (dW n l) []
def uT (n:Nat)(l:List Pr):tH n l []:=⟨PX,(λx hx=>by cases hx),(λp _ h=>by cases h)⟩
def Ga (O:OM.Ord n l):1<=mW n l:=(jI O).2.pos O n [] (by simp) (uT n l)
def zx (O:OM.Ord n l):i4 ((dW n l).map int) 0=some (.int (mW n l)):=by
 have hl:=(jI O).2.len
 have hp0:1<=2 ^ n:=Nat.one_le_two_pow
 unfold mW
 rw[EL,show (0:Int)=((0:Nat):Int) from rfl,cW,jE (by omega),Ob,NC (by omega)];rfl
def Mj (O:OM.Ord n l):Mr [aA n l]=.ok (.int (mW n l)) false:=by
 show fin (iN jr Ad Et [.fz (aA n l)] 0)=_
 unfold iN
 rw[ao (env':=[.fz (aA n l)]) (β':=0) (by rw[eS,aE (ds:=[aA n l]) (β1:=0) rfl (nR O)];rfl)]
 have e1:az Ad (aa (az Et (aa (gv 0) ag)) ag) (vl [.fz (aA n l)]) 0=.ok (.list ((dW n l).map int)) 0:=aE (ds:=[cS n (cG l)]) (ac (aE (ds:=[aA n l]) rfl (Gz O)) an) (jI O).1
 rw[gE,aH (y:=.int 0) (β1:=0) (β2:=0) e1 rfl (zx O)];rfl
noncomputable def FN:List D->FR:=bA 9 2 (gX jr Et Ad dv Lm kZ)
noncomputable abbrev nE (n:Nat)(l:List Pr)(d:D)(a b c e f:Sl):En:=[.fz (aA n l),.fz d,.fz (cS n (cG l)),.fz (.list ((dW n l).map int)),a,b,c,e,f]
def zd (O:OM.Ord n l)(h:b9 d=false):oQ (az dv (aa (gv 1) (aa (f2 (gv 3) (cst (.int 0)) bV) ag))) (vl (nE n l d .no .no .no .no .no)) 0=.ok (dr d (mW n l)) 0:=
 mn (aE (ds:=[d,.int (mW n l)]) (ac rfl (ac (aH (x:=.list ((dW n l).map int)) (y:=.int 0) rfl rfl (zx O)) an)) (uc h))
def JV (O:OM.Ord n l)(h:b9 d=false)(hb:dr d (mW n l)=false):FN [aA n l,d]=.exc "NoNumber":=by
 show fin (gX jr Et Ad dv Lm kZ [.fz (aA n l),.fz d,.no,.no,.no,.no,.no,.no,.no] 0)=_
 unfold gX
 rw[ao (env':=[.fz (aA n l),.fz d,.no,.no,.no,.no,.no,.no,.no]) (β':=0) (by rw[eS,aE (ds:=[aA n l]) (β1:=0) rfl (nR O)];rfl)]
 rw[ao (env':=[.fz (aA n l),.fz d,.fz (cS n (cG l)),.no,.no,.no,.no,.no,.no]) (β':=0) (by rw[bD,aE (ds:=[aA n l]) (β1:=0) rfl (Gz O)];rfl)]
 rw[ao (env':=nE n l d .no .no .no .no .no) (β':=0) (by rw[bD,aE (ds:=[cS n (cG l)]) (β1:=0) rfl (jI O).1];rfl)]
 have t:=zd O h
 rw[hb] at t
 rw[wu (c:="NoNumber") (by
  rw[gC (dJ t)]
  show (if 1<=sizeLine then SO.exc "NoNumber" else .bad)=_
  exact NG (sz 1 (by omega)))]
 rfl
def L9 (O:OM.Ord n l)(h0:0<=a)(h1:a < mW n l):∃r,FN [aA n l,.int a]=.ok (tupI r) false/\Row n l r:=by
 have h8:=O.hi
 have W:=(jI O).2
 show ∃r,fin (gX jr Et Ad dv Lm kZ [.fz (aA n l),.fz (.int a),.no,.no,.no,.no,.no,.no,.no] 0)=_/\_
 unfold gX
 rw[ao (env':=[.fz (aA n l),.fz (.int a),.no,.no,.no,.no,.no,.no,.no]) (β':=0) (by rw[eS,aE (ds:=[aA n l]) (β1:=0) rfl (nR O)];rfl)]
 rw[ao (env':=[.fz (aA n l),.fz (.int a),.fz (cS n (cG l)),.no,.no,.no,.no,.no,.no]) (β':=0) (by rw[bD,aE (ds:=[aA n l]) (β1:=0) rfl (Gz O)];rfl)]
 rw[ao (env':=nE n l (.int a) .no .no .no .no .no) (β':=0) (by rw[bD,aE (ds:=[cS n (cG l)]) (β1:=0) rfl (jI O).1];rfl)]
 have t:=zd (d:=.int a) O rfl
 rw[show dr (.int a) (mW n l)=true from NK ⟨h0,h1⟩] at t
 rw[ao (env':=nE n l (.int a) .no .no .no .no .no) (β':=0) (by rw[fY (dJ t)];rfl)]
 rw[ao (env':=nE n l (.int a) (.ow (.list (([]:List Int).map int))) .no .no .no .no) (β':=0) (by rw[jh,lp (ds:=[]) an];rfl)]
 rw[ao (env':=nE n l (.int a) (.ow (.list (([]:List Int).map int))) (.fz (mI (bJ []) n)) .no .no .no) (β':=0) (by rw[bD,Cp];rfl)]
 rw[ao (env':=nE n l (.int a) (.ow (.list (([]:List Int).map int))) (.fz (mI (bJ []) n)) (.fz (.int a)) .no .no) (β':=0) (by rfl)]
 obtain⟨env',β',ef,r,b,s7,s8,rfl,rfl,B,hl,hb⟩:=cT (t:=.nm 7) (m:=aJ (a7 8 ([2] ++ ([3] ++ ([5] ++ ([6] ++ [])))) (az Lm (aa (gv 2) (aa (gv 3) (aa (gv 5) (aa (gv 6) ag))))))
   (aJ (l0 4 ([] ++ []) (f2 (gv 8) (cst (.int 0)) bV))
   (aJ (a7 5 ([5] ++ (([] ++ []) ++ [])) (az kZ (aa (gv 5) (aa (f2 (gv 8) (cst (.int 0)) bV) ag))))
   (a7 6 ([] ++ []) (f2 (gv 8) (cst (.int 1)) bV))))) (ds:=cQ 0 n) (k:=0)
  (λk env β=>∃(r:List Int) (b:Int) (s7 s8:Sl),env=nE n l (.int a) (.ow (.list (r.map int))) (.fz (mI (bJ r) n)) (.fz (.int b)) s7 s8/\β=0/\tH n l r/\r.length=k/\0<=b/\b < bY n (dW n l) r)
  (env:=nE n l (.int a) (.ow (.list (([]:List Int).map int))) (.fz (mI (bJ []) n)) (.fz (.int a)) .no .no) (β:=0) ⟨[],a,.no,.no,rfl,rfl,uT n l,rfl,h0,h1⟩ (by
   rintro k d env β hk ⟨r,b,s7,s8,rfl,rfl,B,hl,hb0,hb1⟩
   obtain⟨hkn,rfl⟩:=km hk
   rw[Oz] at hl
   obtain⟨x,c,ec,hx,hc0,hc1⟩:=Mf O W B (by omega) hb0 hb1
   have hxr:=a8.mp (Oc.mp hx).1
   refine⟨nE n l (.int a) (.ow (.list (r.map int))) (.fz (mI (bJ r) n)) (.fz (.int b)) (.fz (.int (0 + (k:Int)))) s8,rfl,?_⟩
   generalize int (0 + (k:Int))=dk
   rw[ao (env':=nE n l (.int a) (.ow (.list (r.map int))) (.fz (mI (bJ r) n)) (.fz (.int b)) (.fz dk) (.fz (.tuple [.int x,.int c]))) (β':=0) (by
    rw[bD,aE (ds:=[cS n (cG l),.list ((dW n l).map int),mI (bJ r) n,.int b]) (β1:=0) rfl ec];rfl)]
   rw[ao (env':=nE n l (.int a) (.ow (.list ((r ++ [x]).map int))) (.fz (mI (bJ r) n)) (.fz (.int b)) (.fz dk) (.fz (.tuple [.int x,.int c]))) (β':=0) (by
    rw[pw (i:=4) (ds:=r.map int) (d:=.int x) (β':=0) (by rfl) (aH (x:=.tuple [.int x,.int c]) (y:=.int 0) rfl rfl rfl) (by rfl) (by rw[NM];omega),OO];rfl)]
   rw[ao (env':=nE n l (.int a) (.ow (.list ((r ++ [x]).map int))) (.fz (mI (bJ (r ++ [x])) n)) (.fz (.int b)) (.fz dk) (.fz (.tuple [.int x,.int c]))) (β':=0) (by
    rw[bD,aE (ds:=[mI (bJ r) n,.int (x.toNat:Int)]) (β1:=0) (ac rfl (ac (aH (x:=.tuple [.int x,.int c]) (y:=.int 0) rfl rfl (by rw[show ((x.toNat:Nat):Int)=x by omega];rfl)) an)) (Bv h8 (by omega)),xl hxr];rfl)]
   refine⟨nE n l (.int a) (.ow (.list ((r ++ [x]).map int))) (.fz (mI (bJ (r ++ [x])) n)) (.fz (.int c)) (.fz dk) (.fz (.tuple [.int x,.int c])),0,by rfl,r ++ [x],c,_,_,rfl,rfl,yq B hx,by rw[Oe,O0];omega,hc0,hc1⟩)
 rw[Oz,kY] at hl
 refine⟨r,?_,B.row O (by omega)⟩
 rw[ao (env':=nE n l (.int a) (.ow (.list (r.map int))) (.fz (mI (bJ r) n)) (.fz (.int b)) s7 s8) (β':=0) ?g]
 case g=>
  rw[dz (env:=nE n l (.int a) (.ow (.list (([]:List Int).map int))) (.fz (mI (bJ []) n)) (.fz (.int a)) .no .no) (ds:=cQ 0 n) (β1:=0) (mQ (n:=n) (Hq (n:=n) (l:=l) rfl) (by omega))]
  exact ef
 rw[gE,dg (x:=.list (r.map int)) (d:=tupI r) (β1:=0) rfl (by rfl)];rfl
def HR (n:Nat)(l:List Pr)(T:List Int):List Int->List Int->Int
 |_,[]=>0
 |q,x :: xs=>(((aP l q n).filter λy=>decide (y < x)).map λy=>bY n T (q ++ [y])).sum + HR n l T (q ++ [x]) xs
noncomputable def FQ:List D->FR:=bA 8 2 (gY jr JJ Et Ad xK kZ)
noncomputable abbrev C9:SF:=aJ (a7 7 (([2] ++ ([5] ++ [])) ++ []) (bh 1 [6] (.nm 0) (bR (az xK (aa (gv 2) (aa (gv 5) ag)))) (dh (f2 (gv 0) (gv 1) xc)) (gv 0)))
 (aJ (a7 4 ([] ++ ([] ++ [5])) (f2 (gv 4) (f1 (bh 1 [3,5] (.nm 0) (bR (gv 7)) oH (f2 (gv 1) (az kZ (aa (gv 2) (aa (gv 0) ag))) bV)) rz) cH))
 (a7 5 ([5] ++ ([6] ++ [])) (az kZ (aa (gv 5) (aa (gv 6) ag)))))
noncomputable abbrev kR (n:Nat)(l:List Pr)(d:D)(v:Int)(q:List Int)(s6 s7:Sl):En:=[.fz (aA n l),.fz d,.fz (cS n (cG l)),.fz (.list ((dW n l).map int)),.fz (.int v),.fz (mI (bJ q) n),s6,s7]
def MO (O:OM.Ord n l)(hx:0<=x/\x < (n:Int)):∃t7,C9 (kR n l d v q (.fz (.int x)) s7) 0=.nx (kR n l d (v + (((aP l q n).filter λy=>decide (y < x)).map λy=>bY n (dW n l) (q ++ [y])).sum) (q ++ [x]) (.fz (.int x)) t7) 0:=by
 have h8:=O.hi
 have W:=(jI O).2
 have hfl:=ik l q n
 unfold C9
 have e7:bh 1 [6] (.nm 0) (bR (az xK (aa (gv 2) (aa (gv 5) ag)))) (dh (f2 (gv 0) (gv 1) xc)) (gv 0) (vl (kR n l d v q (.fz (.int x)) s7)) 0=.ok (.list (((aP l q n).filter λy=>decide (y < x)).map int)) 0:=by
  refine jN (l:=aP l q n) (e:=int) (λy=>decide (y < x)) int ?_ (by omega) λy hy=>⟨[.da (.int y),.da (.int x)],rfl,dq _ _ _ _ (aH (x:=.int y) (y:=.int x) rfl rfl rfl),λ_=>rfl⟩
  have:=aE (F:=xK) (fr:=aa (gv 2) (aa (gv 5) ag)) (vs:=vl (kR n l d v q (.fz (.int x)) s7)) (β:=0) (β1:=0) (ds:=[cS n (cG l),mI (bJ q) n]) rfl (ID O q)
  unfold bR
  rw[this];rfl
 rw[ao (env':=kR n l d v q (.fz (.int x)) (.fz (.list (((aP l q n).filter λy=>decide (y < x)).map int)))) (β':=0) (by rw[bD,e7];rfl)]
 have hsub:∀y,y∈((aP l q n).filter λy=>decide (y < x))->0<=y/\y < (n:Int):=λy hy=>a8.mp (Oc.mp (Oc.mp hy).1).1
 have hln:((aP l q n).filter λy=>decide (y < x)).length<=(aP l q n).length:=PK _ _
 generalize hG:((aP l q n).filter λy=>decide (y < x))=G at hsub hln
 have ec:bh 1 [3,5] (.nm 0) (bR (gv 7)) oH (f2 (gv 1) (az kZ (aa (gv 2) (aa (gv 0) ag))) bV) (vl (kR n l d v q (.fz (.int x)) (.fz (.list (G.map int))))) 0=.ok (.list (G.map λy=>int (bY n (dW n l) (q ++ [y])))) 0:=
  hZ (l:=G) (e:=int) (λy=>int (bY n (dW n l) (q ++ [y]))) rfl (by omega) λy hy=>⟨[.da (.int y),.da (.list ((dW n l).map int)),.da (mI (bJ q) n)],rfl,Ea (l:=l) h8 W.len (hsub y hy) rfl rfl rfl⟩
 have es:f1 (bh 1 [3,5] (.nm 0) (bR (gv 7)) oH (f2 (gv 1) (az kZ (aa (gv 2) (aa (gv 0) ag))) bV)) rz (vl (kR n l d v q (.fz (.int x)) (.fz (.list (G.map int))))) 0=.ok (.int (G.map λy=>bY n (dW n l) (q ++ [y])).sum) 0:=by
  refine dg ec ?_
  have e9:(G.map λy=>int (bY n (dW n l) (q ++ [y])))=(G.map λy=>bY n (dW n l) (q ++ [y])).map int:=by rw[PD];rfl
  unfold rz
  dsimp only
  rw[e9,dP];rfl
 rw[ao (env':=kR n l d (v + (G.map λy=>bY n (dW n l) (q ++ [y])).sum) q (.fz (.int x)) (.fz (.list (G.map int)))) (β':=0) (by
  rw[bD,aH (x:=.int v) (y:=.int (G.map λy=>bY n (dW n l) (q ++ [y])).sum) (d:=.int (v + (G.map λy=>bY n (dW n l) (q ++ [y])).sum)) (β1:=0) (β2:=0) rfl es rfl];rfl)]
 refine⟨.fz (.list (G.map int)),?_⟩
 rw[bD,aE (ds:=[mI (bJ q) n,.int (x.toNat:Int)]) (β1:=0) (by rw[show ((x.toNat:Nat):Int)=x by omega];rfl) (Bv h8 (by omega)),xl hx];rfl
theorem Kn (O:OM.Ord n l):∀(rest q:List Int) (v:Int) (s6 s7:Sl),(∀x,x∈rest->0<=x/\x < (n:Int))->∃t6 t7,mE (.nm 6) C9 (rest.map int) (kR n l d v q s6 s7) 0=.nx (kR n l d (v + HR n l (dW n l) q rest) (q ++ rest) t6 t7) 0
 | [],q,v,s6,s7,_=>⟨s6,s7,by rw[show HR n l (dW n l) q []=0 from rfl,Int.add_zero,PH];rfl⟩
 |x :: rest,q,v,s6,s7,h=>by
  obtain⟨t7,e⟩:=MO (d:=d) (v:=v) (q:=q) (s7:=s7) O (h x (NN ..))
  obtain⟨u6,u7,e2⟩:=Kn (d:=d) O rest (q ++ [x]) (v + (((aP l q n).filter λy=>decide (y < x)).map λy=>bY n (dW n l) (q ++ [y])).sum) (.fz (.int x)) t7 λy hy=>h y (NJ _ hy)
  refine⟨u6,u7,?_⟩
  rw[Oq]
  conv=>lhs;unfold mE
  rw[show fZ (.nm 6) (.int x) (kR n l d v q s6 s7)=some (kR n l d v q (.fz (.int x)) s7) from rfl]
  dsimp only
  rw[e]
  dsimp only
  rw[e2,show HR n l (dW n l) q (x :: rest)=(((aP l q n).filter λy=>decide (y < x)).map λy=>bY n (dW n l) (q ++ [y])).sum + HR n l (dW n l) (q ++ [x]) rest from rfl,Int.add_assoc,Pp];rfl
def KD (O:OM.Ord n l)(h:Ge d)(hb:mh n l d=false):FQ [aA n l,d]=.exc "NoRow":=by
 show fin (gY jr JJ Et Ad xK kZ [.fz (aA n l),.fz d,.no,.no,.no,.no,.no,.no] 0)=_
 unfold gY
 rw[ao (env':=[.fz (aA n l),.fz d,.no,.no,.no,.no,.no,.no]) (β':=0) (by rw[eS,aE (ds:=[aA n l]) (β1:=0) rfl (nR O)];rfl)]
 have t:oQ (az JJ (aa (gv 1) (aa (gv 0) ag))) (vl [.fz (aA n l),.fz d,.no,.no,.no,.no,.no,.no]) 0=.ok (mh n l d) 0:=mn (aE (ds:=[d,aA n l]) rfl (Ku O h))
 rw[hb] at t
 rw[wu (c:="NoRow") (by
  rw[gC (dJ t)]
  show (if 1<=sizeLine then SO.exc "NoRow" else .bad)=_
  exact NG (sz 1 (by omega)))]
 rfl
def Mq (O:OM.Ord n l)(hR:Row n l r):FQ [aA n l,tupI r]=.ok (.int (HR n l (dW n l) [] r)) false:=by
 have hl:r.length=n:=by rw[hR.1.length_eq,cy]
 have h8:=O.hi
 have hG:Ge (tupI r):=qH (by rw[NM];omega) λx hx=>by obtain⟨y,_,rfl⟩:=NT.mp hx;rfl
 show fin (gY jr JJ Et Ad xK kZ [.fz (aA n l),.fz (tupI r),.no,.no,.no,.no,.no,.no] 0)=_
 unfold gY
 rw[ao (env':=[.fz (aA n l),.fz (tupI r),.no,.no,.no,.no,.no,.no]) (β':=0) (by rw[eS,aE (ds:=[aA n l]) (β1:=0) rfl (nR O)];rfl)]
 have t:oQ (az JJ (aa (gv 1) (aa (gv 0) ag))) (vl [.fz (aA n l),.fz (tupI r),.no,.no,.no,.no,.no,.no]) 0=.ok (mh n l (tupI r)) 0:=mn (aE (ds:=[tupI r,aA n l]) rfl (Ku O hG))
 rw[ur hR] at t
 rw[ao (env':=[.fz (aA n l),.fz (tupI r),.no,.no,.no,.no,.no,.no]) (β':=0) (by rw[fY (dJ t)];rfl)]
 rw[ao (env':=[.fz (aA n l),.fz (tupI r),.fz (cS n (cG l)),.no,.no,.no,.no,.no]) (β':=0) (by rw[bD,aE (ds:=[aA n l]) (β1:=0) rfl (Gz O)];rfl)]
 rw[ao (env':=[.fz (aA n l),.fz (tupI r),.fz (cS n (cG l)),.fz (.list ((dW n l).map int)),.no,.no,.no,.no]) (β':=0) (by rw[bD,aE (ds:=[cS n (cG l)]) (β1:=0) rfl (jI O).1];rfl)]
 rw[ao (env':=[.fz (aA n l),.fz (tupI r),.fz (cS n (cG l)),.fz (.list ((dW n l).map int)),.fz (.int 0),.no,.no,.no]) (β':=0) (by rfl)]
 rw[ao (env':=kR n l (tupI r) 0 [] .no .no) (β':=0) (by unfold kR;rw[bD,Cp];rfl)]
 obtain⟨t6,t7,e⟩:=Kn (d:=tupI r) O r [] 0 .no .no λx hx=>a8.mp (hR.1.mem_iff.mp hx)
 rw[P5,nil_append] at e
 rw[ao (env':=kR n l (tupI r) (HR n l (dW n l) [] r) r t6 t7) (β':=0) (by
  rw[dz (env:=kR n l (tupI r) 0 [] .no .no) (ds:=r.map int) (β1:=0) rfl]
  exact e)]
 rfl
theorem CM :∀{L:List Int},(∀x,x∈L->x<=c)->L.sum<=L.length * c
 | [],_=>by simp
 |x :: L,h=>by
  rw[sum_cons,N0]
  have h1:=h x (NN ..)
  have h2:=CM (L:=L) λy hy=>h y (NJ _ hy)
  have:((L.length + 1:Nat):Int) * c=(L.length:Int) * c + c:=by rw[Int.natCast_add,Int.add_mul];simp
  omega
theorem Wt.bd (h8:n<=8)(W:Wt n l 0 T):∀(k:Nat) (r:List Int),n - r.length<=k->tH n l r->bY n T r<=((8 ^ k:Nat):Int)
 | 0,r,hk,B=>by
  unfold bY
  rw[(ke B).mpr (by omega),W.top];simp
 |k + 1,r,hk,B=>by
  by_cases c:r.length < n
  ·rw[W.at B c]
   have h1:=CM (c:=((8 ^ k:Nat):Int)) (L:=(aP l r n).map λx=>bY n T (r ++ [x])) λy hy=>by
    obtain⟨x,hx,rfl⟩:=NT.mp hy
    exact W.bd h8 k (r ++ [x]) (by rw[Oe,O0];omega) (yq B hx)
   rw[NM] at h1
   have h2:=ik l r n
   have h3:(((aP l r n).length * 8 ^ k:Nat):Int)<=((8 ^ (k + 1):Nat):Int):=by
    apply Int.ofNat_le.mpr
    rw[Nat.pow_succ,Nat.mul_comm (8 ^ k) 8]
    exact Nat.mul_le_mul_right _ (by omega)
   rw[Int.natCast_mul] at h3
   omega
  ·unfold bY
   rw[(ke B).mpr (by omega),W.top]
   have:1<=8 ^ (k + 1):=Nat.one_le_pow _ _ (by omega)
   omega
def Iv (O:OM.Ord n l):mW n l<=16777216:=by
 have h8:=O.hi
 have h:=(jI O).2.bd h8 8 [] (by simp;omega) (uT n l)
 have e:((8 ^ 8:Nat):Int)=16777216:=by decide
 rw[e] at h
 exact h
def B3 (ha:fa vs β=.ok (.tuple ds) β)(hb:fb vs β=.ok (.int ((i:Nat):Int)) β):tm fa (BX fb) (λ_ β=>.ok none β) vs β=.ok (.tuple (ds.drop i)) β:=by
 unfold tm BX
 rw[ha];dsimp only[R.bnd]
 rw[hb];dsimp only[R.bnd]
 congr 2
 unfold cutD
 rw[HT.Cy,HT.uq]
 by_cases h:i<=ds.length
 ·rw[Nat.min_eq_left h];exact Pb (by rw[length_drop];omega)
 ·rw[Nat.min_eq_right (by omega),List.drop_length,List.drop_of_length_le (by omega)];simp
def wQ :(sortI r=eB n)↔r.Perm (eB n):=by
 constructor
 ·intro h;rw[<-h];exact (sortI_perm r).symm
 ·intro h;exact (lG h.symm ((JA n).imp λh=>Int.le_of_lt h)).symm
noncomputable def JK (n:Nat)(d:D):Bool:=@decide (∃r:List Int,d=tupI r/\r.Perm (eB n)) (Classical.propDecidable _)
def MB (h:JK n d=true):∃r:List Int,d=tupI r/\r.Perm (eB n):=@Pt _ (Classical.propDecidable _) h
def EC (h:∀r:List Int,d=tupI r->¬r.Perm (eB n)):JK n d=false:=@NR _ (Classical.propDecidable _) λ⟨r,e,p⟩=>h r e p
def CL (h:r.Perm (eB n)):JK n (tupI r)=true:=@NK _ (Classical.propDecidable _) ⟨r,rfl,h⟩
theorem ze:∀{es:List D},es.all vQ=true->∃r:List Int,es=r.map int
 | [],_=>⟨[],rfl⟩
 |d :: es,h=>by
  rw[all_cons,N3] at h
  obtain⟨r,rfl⟩:=ze h.2
  cases d with
  |int a=>exact⟨a :: r,rfl⟩
  |_=>cases h.1
noncomputable def Lw:List D->FR:=bA 2 2 (fK LA)
theorem Kz {n:Nat}{d:D}(h8:n<=8)(h:Ge d):Lw [d,.int n]=.ok (.bool (JK n d)) false:=by
 show fin (fK LA [.fz d,.fz (.int n)] 0)=_
 unfold fK
 have g0:gv 0 (vl [.fz d,.fz (.int n)]) 0=.ok d 0:=rfl
 have t1:=Hd g0 h.1
 cases hy:Dw d with
 |false=>
  rw[hy] at t1
  rw[EC (n:=n) (d:=d) (λr e=>by rw[e] at hy;cases hy),fO (d:=.bool false) (b:=false) (β':=0) (by rw[gC (CD (dJ t1))];rfl)];rfl
 |true=>
  obtain⟨es,rfl⟩:=zU hy
  rw[hy] at t1
  have t2:dh (f2 (f1 (gv 0) cR) (gv 1) (dX true)) (vl [.fz (.tuple es),.fz (.int n)]) 0=.ok (!decide ((es.length:Int)=(n:Int))) 0:=iG (neg:=true) (dg (x:=.tuple es) rfl rfl) rfl
  by_cases c:(es.length:Int)=(n:Int)
  ·rw[NK c] at t2
   have hs:=(h.2 _ rfl).2
   have ec:bh 1 [] (.nm 0) (bR (gv 0)) oH (az LA (aa (gv 0) ag)) (vl [.fz (.tuple es),.fz (.int n)]) 0=.ok (.list (es.map λe=>PyData.bool (vQ e))) 0:=
    rV (λe=>PyData.bool (vQ e)) rfl (by omega) λe he=>⟨_,rfl,aE (ds:=[e]) rfl (Ml (hs e he))⟩
   have ea:=zg ec
   cases hw:es.all vQ with
   |false=>
    rw[hw] at ea
    rw[EC (n:=n) (d:=.tuple es) (λr e=>by
     have e:=PyData.tuple.inj e
     rw[e] at hw
     have:(r.map int).all vQ=true:=by
      rw[OF]
      intro d hd
      obtain⟨x,_,rfl⟩:=NT.mp hd
      rfl
     rw[this] at hw;cases hw),fO (d:=.bool false) (b:=false) (β':=0) (by rw[gC (oK (dJ t1) (oK t2 (dJ (mn ea))))];rfl)];rfl
   |true=>
    rw[hw] at ea
    rw[ao (env':=[.fz (.tuple es),.fz (.int n)]) (β':=0) (by rw[fY (oK (dJ t1) (oK t2 (dJ (mn ea))))];rfl)]
    obtain⟨r,rfl⟩:=ze hw
    have hz:r.length < 64:=by rw[NM] at c;omega
    have es:qN (.tuple (r.map int))=some (.list ((sortI r).map int)):=by
     unfold qN
     dsimp only[j9]
     rw[dP]
     dsimp only
     rw[NG hz]
    rw[gE,aH (x:=.list ((sortI r).map int)) (y:=.list ((eB n).map int)) (β1:=0) (β2:=0) (dg (x:=.tuple (r.map int)) rfl es) (dg (x:=.int n) rfl (ko (by omega))) (l4 false _ _)]
    rw[NL NY]
    by_cases p:r.Perm (eB n)
    ·rw[NK (wQ.mpr p),show JK n (.tuple (r.map int))=true from CL p];rfl
    ·rw[NR (λe=>p (wQ.mp e)),EC (n:=n) (d:=.tuple (r.map int)) (λq e=>by
      have:=mO (r:=r) (q:=q) e
      subst this
      exact p)];rfl
  ·rw[NR c] at t2
   rw[EC (n:=n) (d:=.tuple es) (λr e pr=>by
    have e:=PyData.tuple.inj e
    rw[e,NM,pr.length_eq,cy] at c
    exact c rfl),fO (d:=.bool false) (b:=false) (β':=0) (by rw[gC (oK (dJ t1) (CD t2))];rfl)];rfl
def LK:List D->FR:=bA 2 2 iO
def Kw (O:OM.Ord n l)(hp:r.Perm (eB n)):LK [aA n l,tupI r]=.ok (.bool (xB l r)) false:=by
 have hz:l.length<=1000:=by
  have:=OM.fu (OM.g8 O.ris) (m:=OM.gG n) λx hx=>OM.gc.mpr (O.wn x hx)
  rw[jf] at this
  have h3:n * n<=8 * 8:=O5 O.hi O.hi
  omega
 show fin (iO [.fz (aA n l),.fz (tupI r)] 0)=_
 unfold iO
 have ec:bh 2 [1] (.two 0 1) (bR (f2 (gv 0) (cst (.int 1)) bV)) (dh (f2 (yO (gv 2) (gv 0)) (yO (gv 2) (gv 1)) MV)) (cst (.int 1)) (vl [.fz (aA n l),.fz (tupI r)]) 0=.ok (.list ((l.filter λp=>decide (r.idxOf p.1 > r.idxOf p.2)).map λ_=>int 1)) 0:=by
  refine jN (l:=l) (e:=aY) (λp=>decide (r.idxOf p.1 > r.idxOf p.2)) (λ_=>int 1) rfl hz λp hp'=>⟨[.da (.int p.1),.da (.int p.2),.da (tupI r)],rfl,?_,λ_=>rfl⟩
  refine dq _ _ _ _ (aH (zS rfl rfl (hp.mem_iff.mpr (a8.mpr (O.wn p hp').1))) (zS rfl rfl (hp.mem_iff.mpr (a8.mpr (O.wn p hp').2))) ?_)
  show some (PyData.bool (decide (((r.idxOf p.1:Nat):Int) > ((r.idxOf p.2:Nat):Int))))=_
  congr 2
  rw[Ox,N4,N4]
  omega
 generalize hL:(l.filter λp=>decide (r.idxOf p.1 > r.idxOf p.2))=L at ec
 have e9:(L.map λ_=>int 1)=(L.map λ_=>(1:Int)).map int:=by rw[PD];rfl
 rw[gE,aH (x:=.list (L.map λ_=>int 1)) (y:=.list []) (d:=.bool L.isEmpty) (β1:=0) (β2:=0) ec (lp (ds:=[]) an) (by
  rw[e9,show ([]:List D)=([]:List Int).map int from rfl,l4]
  congr 2
  cases L <;> simp)]
 have:L.isEmpty=xB l r:=by
  rw[<-hL,Ox,List.isEmpty_iff,List.filter_eq_nil_iff]
  unfold xB
  rw[OF]
  constructor
  ·intro h p hp'
   have h1:=h p hp'
   rw[N4] at h1 ⊢
   have hne:r.idxOf p.1≠r.idxOf p.2:=λe=>by
    have l1:=OU.mpr (hp.mem_iff.mpr (a8.mpr (O.wn p hp').1))
    have l2:=OU.mpr (hp.mem_iff.mpr (a8.mpr (O.wn p hp').2))
    have e1:r[r.idxOf p.1]? =some p.1:=by rw[NC l1,Qb l1]
    have e2:r[r.idxOf p.2]? =some p.2:=by rw[NC l2,Qb l2]
    rw[e] at e1
    have:p.1=p.2:=Option.some.inj (e1.symm.trans e2)
    exact O.irr p.1 (by have h9:(p.1,p.2)∈l:=hp';rw[<-this] at h9;exact h9)
   omega
  ·intro h p hp'
   have h1:=Pt (h p hp')
   rw[N4];omega
 rw[this];rfl
def yd:List (Str×Nat):=[("NoNumber",7),("NoRow",5)]
noncomputable def qA:List D->FR:=bA 4 3 (bS (vp yd) FN FQ)
def pj (a b c:D):iZ [.fz a,.fz b,.fz c,.no]=true:=rfl
def uo (k:Int)(a b:D):dh (f2 (gv 0) (cst (.int 0)) (dX false)) (vl [.fz (.int k),.fz a,.fz b,.no]) 0=.ok (decide (k=0)) 0:=iG (neg:=false) (i:=k) (j:=0) rfl rfl
def JD (O:OM.Ord n l)(h:b9 d=false)(hb:dr d (mW n l)=false):qA [.int 0,aA n l,d]=.ok (.str "number") false:=by
 show fin (bS (vp yd) FN FQ [.fz (.int 0),.fz (aA n l),.fz d,.no] 0)=_
 unfold bS
 rw[fO (d:=.str "number") (b:=false) (β':=0)]
 ·rfl
 unfold ou
 rw[NG (pj _ _ _),gC (uo 0 _ _),eS]
 have e0:=sE (F:=FN) (fr:=aa (gv 1) (aa (gv 2) ag)) (vs:=vl (bt ([] ++ []) [.fz (.int 0),.fz (aA n l),.fz d,.no])) (β:=0) (ds:=[aA n l,d]) (β1:=0) rfl (JV O h hb)
 rw[e0]
 rfl
def IM (O:OM.Ord n l)(h0:0<=a)(h1:a < mW n l):qA [.int 0,aA n l,.int a]=.ok (.str "told") false:=by
 obtain⟨r,e,_⟩:=L9 O h0 h1
 show fin (bS (vp yd) FN FQ [.fz (.int 0),.fz (aA n l),.fz (.int a),.no] 0)=_
 unfold bS
 rw[ao (env':=[.fz (.int 0),.fz (aA n l),.fz (.int a),.no]) (β':=0)]
 ·rfl
 unfold ou
 rw[NG (pj _ _ _),gC (uo 0 _ _),eS]
 have e0:=aE (F:=FN) (fr:=aa (gv 1) (aa (gv 2) ag)) (vs:=vl (bt ([] ++ []) [.fz (.int 0),.fz (aA n l),.fz (.int a),.no])) (β:=0) (ds:=[aA n l,.int a]) (β1:=0) rfl (e)
 rw[e0]
 rfl
def Iz (O:OM.Ord n l)(h:Ge d)(hb:mh n l d=false):qA [.int 1,aA n l,d]=.ok (.str "row") false:=by
 show fin (bS (vp yd) FN FQ [.fz (.int 1),.fz (aA n l),.fz d,.no] 0)=_
 unfold bS
 rw[fO (d:=.str "row") (b:=false) (β':=0)]
 ·rfl
 unfold ou
 rw[NG (pj _ _ _),fY (uo 1 _ _),eS]
 have e0:=sE (F:=FQ) (fr:=aa (gv 1) (aa (gv 2) ag)) (vs:=vl (bt ([] ++ []) [.fz (.int 1),.fz (aA n l),.fz d,.no])) (β:=0) (ds:=[aA n l,d]) (β1:=0) rfl (KD O h hb)
 rw[e0]
 rfl
def BR (O:OM.Ord n l)(hR:Row n l r):qA [.int 1,aA n l,tupI r]=.ok (.str "told") false:=by
 show fin (bS (vp yd) FN FQ [.fz (.int 1),.fz (aA n l),.fz (tupI r),.no] 0)=_
 unfold bS
 rw[ao (env':=[.fz (.int 1),.fz (aA n l),.fz (tupI r),.no]) (β':=0)]
 ·rfl
 unfold ou
 rw[NG (pj _ _ _),fY (uo 1 _ _),eS]
 have e0:=aE (F:=FQ) (fr:=aa (gv 1) (aa (gv 2) ag)) (vs:=vl (bt ([] ++ []) [.fz (.int 1),.fz (aA n l),.fz (tupI r),.no])) (β:=0) (ds:=[aA n l,tupI r]) (β1:=0) rfl (Mq O hR)
 rw[e0]
 rfl
structure WP (r:SO)(Q:SO->Prop):Prop where
 out:Q r
section
variable {m m' m1 m2:SF}{env env1:En}{β β1 β2 z:Int}{Q:SO->Prop}{f fa fb:VF D}{t:VF Bool}{d e:D}{L La Lb:List Nat}{i j:Nat}{c:Bool}
def wp_at (env1:En)(e:env=env1)(k:WP (m env1 β) Q):WP (m env β) Q:=by rw[e];exact k
def wp_seq (h:m env β=.nx env1 β1)(k:WP (m' env1 β1) Q):WP (aJ m m' env β) Q:=by rw[ao h];exact k
theorem uB (h:WP (aJ m nt env β) Q):WP (m env β) Q:=by
 obtain⟨h⟩:=h
 unfold aJ at h
 cases e:m env β with
 |_=>rw[e] at h;exact⟨h⟩
def sS (q:Q (.nx env β)):WP (nt env β) Q:=⟨q⟩
def kh (h:f (vl env) β=.ok d β1)(k:WP (m' ((bt L env).set i (.fz d)) β1) Q):WP (aJ (a7 i L f) m' env β) Q:=wp_seq (by unfold a7;rw[h];rfl) k
def Fg (h:f (vl env) β=.ok (.list [.int z]) β1)(k:WP (m' ((rj (bt L env)).set i .bx) z) Q):WP (aJ (zk i L f) m' env β) Q:=wp_seq (by unfold zk;rw[h];rfl) k
def uF (h:t (vl env) β=.ok false β1)(k:WP (m' (bt L env) β1) Q):WP (aJ (lx L t m1 nt) m' env β) Q:=wp_seq (by rw[fY h];rfl) k
def Jk (h:f (vl env) β=.ok d β1)(q:Q (.rt d false β1)):WP (cf f env β) Q:=⟨by unfold cf;rw[h];exact q⟩
def IW {R:FR}(h:WP (m env β) λr=>fin r=R):fin (m env β)=R:=h.out
def yL {t:Tg}(I:Nat->En->Int->Prop)(hi:fi (vl env) β=.ok ds β1)(h0:I 0 (bt L env) β1)
  (hs:∀i d env β,ds[i]? =some d->I i env β->∃env1,fZ t d env=some env1/\WP (m env1 β) λr=>∃env2 β2,r=.nx env2 β2/\I (i + 1) env2 β2)
  (k:∀env β,I ds.length env β->WP (m' env β) Q):WP (aJ (di t L fi m) m' env β) Q:=by
 obtain⟨env',β',e,h⟩:=cT (t:=t) (m:=m) I (ds:=ds) (k:=0) h0 λi d env β hd h=>by
  rw[Oz] at h
  obtain⟨env1,e1,⟨env2,β2,e2,h2⟩⟩:=hs i d env β hd h
  exact⟨env1,e1,env2,β2,e2,by rw[Oz];exact h2⟩
 rw[Oz] at h
 exact wp_seq ((dz hi).trans e) (k _ _ h)
end
def CY (c:Int)(hc:0<=c/\c<=100)(ns:List Int)(vs:List Nv)(β:Int)(h:gv 0 vs β=.ok (cg ns) β):∃m:Nat,m<=101/\kC (f2 (cst (.int 1)) (f2 (f1 (gv 0) cR) (cst (.int c)) (uV λi j=>.int (if j < i then j else i))) (uV λi j=>.int (if j > i then j else i))) vs β=.ok (cQ 0 m) β:=by
 have e1:f2 (cst (.int 1)) (f2 (f1 (gv 0) cR) (cst (.int c)) (uV λi j=>.int (if j < i then j else i))) (uV λi j=>.int (if j > i then j else i)) vs β=.ok (.int (if (if c < ((ns.map int).length:Int) then c else ((ns.map int).length:Int)) > 1 then (if c < ((ns.map int).length:Int) then c else ((ns.map int).length:Int)) else 1)) β:=
  aH (x:=.int 1) rfl (aH (x:=.int (ns.map int).length) (y:=.int c) (dg h rfl) rfl rfl) rfl
 generalize ((ns.map int).length:Nat)=k at e1
 refine⟨(if (if c < (k:Int) then c else (k:Int)) > 1 then (if c < (k:Int) then c else (k:Int)) else 1).toNat,?_,mQ (e1.trans ?_) ?_⟩
 ·split <;> split <;> omega
 ·congr 2
  split <;> split <;> omega
 ·split <;> split <;> omega
def It (d:D):Prop:=b9 d=false/\Sq 400 8 d/\Bf d
def Th (d:D):Prop:=Ge d/\Sq 10000 9 d/\Bf d
def Ap (P:D->Prop)(k:Nat)(es:List D):Prop:=es.length<=k/\∀x,x∈es->P x
abbrev Al:Nat->List D->Prop:=Ap It
def Ew.it (h:Ew d):It d:=⟨h.scr,h.sq.mono (by omega) (by omega),h.bf⟩
def HM (h: -1<=i/\i<=9):It (.int i):=(zG h).it
def Ap.take {P:D->Prop}(h:Ap P k a)(n:Nat):Ap P k (a.take n):=⟨by have:=h.1;rw[OP];omega,λx hx=>h.2 x (Pj hx)⟩
def Ap.drop {P:D->Prop}(h:Ap P k a)(n:Nat):Ap P k (a.drop n):=⟨by have:=h.1;rw[length_drop];omega,λx hx=>h.2 x (Qk hx)⟩
def Fl {k:Nat}{r:List Int}(hl:r.length<=k)(h:∀x,x∈r->0<=x/\x < 9):Al k (r.map int):=⟨by rw[NM];exact hl,λx hx=>by
 obtain⟨y,hy,rfl⟩:=NT.mp hx
 exact HM (by have:=h y hy;omega)⟩
def Ap.tup (h:Al k a)(hk:k<=24):Th (.tuple a):=by
 have:=h.1
 refine⟨qH (by omega) λx hx=>(h.2 x hx).1,(D6 (c:=400) (k:=8) λd hd=>(h.2 d hd).2.1).mono ?_ (by omega),Ef λd hd=>(h.2 d hd).2.2⟩
 have:(400 + 2) * a.length<=402 * 24:=O5 (by omega) (by omega)
 omega
def Ap.lst (h:Al k a)(hk:k<=24):Th (.list a):=by
 have:=h.1
 refine⟨⟨rfl,λes' e=>by cases e⟩,(Jl (c:=400) (k:=8) λd hd=>(h.2 d hd).2.1).mono ?_ (by omega),Ik λd hd=>(h.2 d hd).2.2⟩
 have:(400 + 2) * a.length<=402 * 24:=O5 (by omega) (by omega)
 omega
def Ji (hl:r.length<=9)(h:∀x,x∈r->0<=x/\x < 9):It (tupI r):=by
 have sm:∀d,d∈r.map int->Ew d:=λd hd=>by
  obtain⟨y,hy,rfl⟩:=NT.mp hd
  exact zG (by have:=h y hy;omega)
 refine⟨rfl,(D6 (c:=20) (k:=0) λd hd=>(sm d hd).sq).mono ?_ (by omega),Ef λd hd=>(sm d hd).bf⟩
 rw[NM]
 have:(20 + 2) * r.length<=22 * 9:=O5 (by omega) hl
 omega
def G9 {n:Nat}{r:List Int}(h8:n<=8)(hp:r.Perm (eB n)):r.length=n/\∀x,x∈r->0<=x/\x < 9:=⟨by rw[hp.length_eq,cy],λx hx=>by have:=a8.mp (hp.mem_iff.mp hx);omega⟩
def DQ {ds:List D}{k:Nat}(h:k < ds.length):∃d,ds[k]? =some d/\d∈ds/\i4 ds (k:Int)=some d:=⟨ds[k],NC h,OY h,jT (NC h)⟩
def GU (ha:fa vs β=.ok (.tuple ds) β)(hb:fb vs β=.ok (.int (i:Nat)) β):tm fa (BX fb) (λ_ β=>.ok none β) vs β=.ok (.tuple (ds.drop i)) β:=B3 ha hb
def Dk (h1:fa vs β=.ok (.tuple a) β1)(h2:fb vs β1=.ok (.tuple b) β2)(hz:a.length + b.length<=1000):f2 fa fb lF vs β=.ok (.tuple (a ++ b)) β2:=aH h1 h2 (wd hz)
section
variable {m m' m1 m2:SF}{env env1:En}{β β1 β2 z:Int}{Q:SO->Prop}{f fa fb:VF D}{t:VF Bool}{d e:D}{L La Lb:List Nat}{i j:Nat}{c:Bool}
theorem HW (J:En->Int->Prop)(h:∃c β1,t (vl env) β=.ok c β1/\(c=true->WP (m1 (bt L env) β1) λs=>∃env2 β2,s=.nx env2 β2/\J env2 β2)/\(c=false->WP (m2 (bt L env) β1) λs=>∃env2 β2,s=.nx env2 β2/\J env2 β2))(k:∀env β,J env β->WP (m' env β) Q):WP (aJ (lx L t m1 m2) m' env β) Q:=by
 obtain⟨c,β1,e,h1,h2⟩:=h
 cases c with
 |true=>obtain⟨env2,β2,e2,hj⟩:=(h1 rfl).out;exact wp_seq ((gC e).trans e2) (k _ _ hj)
 |false=>obtain⟨env2,β2,e2,hj⟩:=(h2 rfl).out;exact wp_seq ((fY e).trans e2) (k _ _ hj)
end
def Ig (d:D):Prop:=Ge d/\Sq 400 8 d/\Bf d
def Jq (hl:r.length<=9)(h:∀x,x∈r->0<=x/\x < 9):Ig (tupI r):=⟨(Fl (k:=9) hl h).tup (by omega) |>.1,(Ji hl h).2⟩
def J8 (h:fa vs β=.ok d β1)(h':fr vs β1=.ok ds β2):aa fa fr vs β=.ok (d :: ds) β2:=by rw[cU,h];dsimp only[R.bnd];rw[h']
def M1 (h:fa vs β=.ok (.list ds) β1):bR fa vs β=.ok ds β1:=by unfold bR;rw[h];rfl
def cls (h1:fa vs β=.ok (.list a) β1)(h2:fb vs β1=.ok (.list b) β2)(hz:a.length + b.length<=1000):f2 fa fb jb vs β=.ok (.list (a ++ b)) β2:=aH h1 h2 (mV (by omega))
theorem EJ (ha:fa vs β=.ok (.tuple ds) β)(hb:fb vs β=.ok (.int ((1:Nat):Int)) β)(hc:fc vs β=.ok (.int ((2:Nat):Int)) β):tm fa (BX fb) (BX fc) vs β=.ok (.tuple ((ds.take 2).drop 1)) β:=by
 unfold tm BX
 rw[ha];dsimp only[R.bnd]
 rw[hb];dsimp only[R.bnd]
 rw[hc];dsimp only[R.bnd]
 congr 2
 unfold cutD
 rw[HT.uq,HT.uq]
 match ds with
 | []=>rfl
 | [a]=>rfl
 |a :: b :: ds=>
  simp
def J2 (c j:Int):List D:=[.int c,.int (c + j),.int (-1),.bool true,.none,.str "0",.tuple [.int 0],.list [.int 0],.int 1000000000000000000000000000000000000000]
def HA (h:0<=j)(hc:c<=16777216):∀d,d∈J2 c j->b9 d=false/\dr d c=false:=by
 intro d hd
 unfold J2 at hd
 simp only[NI,Oi,O3] at hd
 rcases hd with rfl |rfl |rfl |rfl |rfl |rfl |rfl |rfl |rfl <;> refine⟨rfl,?_⟩ <;> first |rfl |exact NR (by omega)
noncomputable def IL:List D->FR:=bA 10 1 (zy Jg Mr qA Lw LK tq cq CP lO Jw)
def JS (ns:List Int):IL [cg ns]=.ok (.bool true) false:=by
 show fin (zy Jg Mr qA Lw LK tq cq CP lO Jw [.fz (cg ns),.no,.no,.no,.no,.no,.no,.no,.no,.no] 0)=_
 refine IW ?_
 obtain⟨m,hm,em⟩:=CY 4 (by omega) ns (vl [.fz (cg ns),.no,.no,.no,.no,.no,.no,.no,.no,.no]) 0 rfl
 unfold zy
 refine yL (λ_ env _=>∃s1 s2 s3 s4 s5 s6 s7 s8 s9,env= [.fz (cg ns),s1,s2,s3,s4,s5,s6,s7,s8,s9]) em ⟨_,_,_,_,_,_,_,_,_,rfl⟩ ?_ λenv β ⟨s1,s2,s3,s4,s5,s6,s7,s8,s9,e⟩=>Jk (d:=.bool true) rfl rfl
 rintro i d env β hi ⟨s1,s2,s3,s4,s5,s6,s7,s8,s9,rfl⟩
 obtain⟨_,rfl⟩:=km hi
 rw[P5]
 refine⟨[.fz (cg ns),.fz (.int i),s2,s3,s4,s5,s6,s7,s8,s9],rfl,?_⟩
 obtain⟨z,ez⟩:=K6 ns i
 obtain⟨n,l,β1,eo,O,_⟩:=BO (most:=6) (by omega) (by omega) z
 have h8:=O.hi
 have hc1:=Ga O
 have hc2:=Iv O
 obtain⟨t3,t4,t5,t6,t7,t8,t9,hcl⟩:∃t3 t4 t5 t6 t7 t8 t9:Sl,(rj (bt ([0] ++ ([1] ++ [])) [.fz (cg ns),.fz (.int i),s2,s3,s4,s5,s6,s7,s8,s9])).set 2 .bx= [.fz (cg ns),.fz (.int i),.bx,t3,t4,t5,t6,t7,t8,t9]:=⟨_,_,_,_,_,_,_,rfl⟩
 refine Fg (Ee (ds:=[cg ns,.int i]) rfl ez) (wp_at _ hcl ?_)
 refine kh (fD (ds:=[.int 6]) rfl rfl eo) (kh (aE (ds:=[aA n l]) rfl (Mj O)) ?_)
 have s0:=λd h hb=>JD (d:=d) O h hb
 have s1':=IM (a:=mW n l - 1) O (by omega) (by omega)
 generalize mW n l=c at hc1 hc2 s0 s1'
 obtain⟨j,hj,ej⟩:=iq (m:=99) (by omega) (by omega) β1
 generalize β1 / ((99:Nat):Int)=β2 at ej
 refine wp_at [.fz (cg ns),.fz (.int i),.bx,.fz (aA n l),.fz (.int c),t5,t6,t7,t8,t9] rfl ?_
 refine kh (eG (ds:=J2 c j) (J8 rfl (J8 (aH (x:=.int c) (y:=.int j) rfl (fD (ds:=[.int 99]) rfl rfl ej) rfl) (ac rfl (ac (ck _) (ac (ck _) (ac (ck _) (ac (tp (ac (ck _) an)) (ac (lp (ac (ck _) an)) (ac GY an))))))))) (by show (9:Nat)<=1000;omega)) ?_
 have nk:=HA (c:=c) (j:=j) (by omega) hc2
 have nl:(J2 c j).length=9:=rfl
 generalize J2 c j=N at nk nl
 refine wp_at [.fz (cg ns),.fz (.int i),.bx,.fz (aA n l),.fz (.int c),.fz (.list N),t6,t7,t8,t9] rfl ?_
 obtain⟨k,hk,ek⟩:=iq (m:=9) (by omega) (by omega) β2
 generalize β2 / ((9:Nat):Int)=β3 at ek
 refine yL (ds:=N ++ [.int (-1 - (k:Int))]) (λ_ env _=>∃s6,env= [.fz (cg ns),.fz (.int i),.bx,.fz (aA n l),.fz (.int c),.fz (.list N),s6,t7,t8,t9]) (M1 (cls (a:=N) rfl (eG (ds:=[.int (-1 - (k:Int))]) (J8 (aH (x:=.int (-1)) (y:=.int k) rfl (fD (ds:=[.int 9]) rfl rfl ek) rfl) an) (by simp)) (by rw[nl];simp))) ⟨_,rfl⟩ ?_ ?_
 ·rintro q d env β hq ⟨s6,rfl⟩
  refine⟨[.fz (cg ns),.fz (.int i),.bx,.fz (aA n l),.fz (.int c),.fz (.list N),.fz d,t7,t8,t9],rfl,?_⟩
  have hd:b9 d=false/\dr d c=false:=by
   rcases N7.mp (NU hq) with h |h
   ·exact nk d h
   ·rw[N9] at h;subst h
    exact⟨rfl,NR (by omega)⟩
  exact uB (uF (dq _ _ _ _ (aH (x:=.str "number") (y:=.str "number") (aE (ds:=[.int 0,aA n l,d]) rfl (s0 d hd.1 hd.2)) rfl (by kernel_rfl))) (sS ⟨_,_,rfl,_,rfl⟩))
 rintro env β ⟨s6,rfl⟩
 obtain⟨row,β5,er,hR⟩:=Hu O β
 obtain⟨aq,β6,eq,hq⟩:=zK (eB n) (by rw[cy];omega) β5
 obtain⟨o,β7,eod,ho⟩:=K0 β6
 refine kh (fD (ds:=[aA n l]) rfl rfl er) (kh (dg (x:=.list (aq.map int)) (d:=tupI aq) (fD (ds:=[.list ((eB n).map int)]) (b:=true) rfl (ac (dg (x:=.int n) (Hq (n:=n) (l:=l) rfl) (ko (by omega))) an) eq) rfl) ?_)
 have s2':=BR O hR
 have hrl:=(G9 h8 hR.1).1
 have er0:tupI row=.tuple (row.map int):=rfl
 have hsr:∀x,x∈row.map int->b9 x=false:=λx hx=>by obtain⟨y,_,rfl⟩:=NT.mp hx;rfl
 have hwl:(row.map int).length=n:=by rw[NM,hrl]
 rw[er0] at s2' ⊢
 generalize row.map int=w at s2' hsr hwl
 refine wp_at [.fz (cg ns),.fz (.int i),.bx,.fz (aA n l),.fz (.int c),.fz (.list N),s6,.fz (.tuple w),.fz (tupI aq),t9] rfl ?_
 refine kh (lp (ds:=[.list w,.tuple (w.drop 1),.tuple (w ++ [int 0]),.tuple (w.drop 1 ++ (w.take 2).drop 1 ++ [int 9]),.none,.str "0",.dict []]) (ac (dg (x:=.tuple w) rfl rfl) (ac (GU (i:=1) rfl rfl) (ac (Dk (a:=w) rfl (tp (ac rfl an)) (by rw[hwl,O0];omega)) (ac (Dk (Dk (GU (i:=1) rfl rfl) (EJ rfl rfl rfl) (by simp;omega)) (tp (ac rfl an)) (by simp;omega)) (ac rfl (ac rfl (ac rfl an)))))))) ?_
 have gR:∀d,d∈ [PyData.list w,.tuple (w.drop 1),.tuple (w ++ [int 0]),.tuple (w.drop 1 ++ (w.take 2).drop 1 ++ [int 9]),.none,.str "0",.dict []] ++ [tupI aq,o]->Ge d:=by
  intro d hd
  simp only[List.cons_append,nil_append,NI,Oi,O3] at hd
  rcases hd with rfl |rfl |rfl |rfl |rfl |rfl |rfl |rfl |rfl
  ·exact⟨rfl,λes e=>by cases e⟩
  ·exact qH (by simp;omega) λx hx=>hsr x (Qk hx)
  ·refine qH (by simp;omega) λx hx=>(N7.mp hx).elim (hsr x) λh=>by rw[N9] at h;rw[h];rfl
  ·refine qH (by simp;omega) λx hx=>(N7.mp hx).elim (λh=>(N7.mp h).elim (λh=>hsr x (Qk h)) λh=>hsr x (Pj (Qk h))) λh=>by rw[N9] at h;rw[h];rfl
  ·exact⟨rfl,λes e=>by cases e⟩
  ·exact⟨rfl,λes e=>by cases e⟩
  ·exact⟨rfl,λes e=>by cases e⟩
  ·obtain⟨hl,hrb⟩:=G9 h8 hq
   exact (Jq (by omega) hrb).1
  ·exact (Jc ho).1
 have nl2: [PyData.list w,.tuple (w.drop 1),.tuple (w ++ [int 0]),.tuple (w.drop 1 ++ (w.take 2).drop 1 ++ [int 9]),.none,.str "0",.dict []].length=7:=rfl
 generalize [PyData.list w,.tuple (w.drop 1),.tuple (w ++ [int 0]),.tuple (w.drop 1 ++ (w.take 2).drop 1 ++ [int 9]),.none,.str "0",.dict []]=M at gR nl2
 refine wp_at [.fz (cg ns),.fz (.int i),.bx,.fz (aA n l),.fz (.int c),.fz (.list M),s6,.fz (.tuple w),.fz (tupI aq),t9] rfl ?_
 refine yL (ds:=M ++ [tupI aq,o]) (λ_ env _=>∃s6 s9,env= [.fz (cg ns),.fz (.int i),.bx,.fz (aA n l),.fz (.int c),.fz (.list M),s6,.fz (.tuple w),.fz (tupI aq),s9]) (M1 (cls (a:=M) rfl (eG (ds:=[tupI aq,o]) (J8 rfl (J8 (fD (ds:=[]) rfl rfl eod) an)) (by simp)) (by rw[nl2];simp))) ⟨_,_,rfl⟩ ?_ ?_
 ·rintro q d env β hq ⟨s6,s9,rfl⟩
  have hd:=gR d (NU hq)
  refine⟨[.fz (cg ns),.fz (.int i),.bx,.fz (aA n l),.fz (.int c),.fz (.list M),.fz d,.fz (.tuple w),.fz (tupI aq),s9],rfl,kh (d:=.str "row") rfl (wp_at [.fz (cg ns),.fz (.int i),.bx,.fz (aA n l),.fz (.int c),.fz (.list M),.fz d,.fz (.tuple w),.fz (tupI aq),.fz (.str "row")] rfl ?_)⟩
  refine HW (λenv _=>env= [.fz (cg ns),.fz (.int i),.bx,.fz (aA n l),.fz (.int c),.fz (.list M),.fz d,.fz (.tuple w),.fz (tupI aq),.fz (.str (if mh n l d=true then "told" else "row"))]) ?_ ?_
  ·have t1:=mn (aE (F:=Lw) (fr:=aa (gv 6) (aa (f2 (gv 3) (cst (.int 0)) bV) ag)) (vs:=vl [.fz (cg ns),.fz (.int i),.bx,.fz (aA n l),.fz (.int c),.fz (.list M),.fz d,.fz (.tuple w),.fz (tupI aq),.fz (.str "row")]) (β:=β) (ds:=[d,.int n]) (ac rfl (ac (Hq (n:=n) (l:=l) rfl) an)) (Kz h8 hd))
   cases cl:JK n d with
   |false=>
    rw[cl] at t1
    have hr:mh n l d=false:=yZ λr e hR=>by rw[e,CL hR.1] at cl;cases cl
    exact⟨false,β,by rw[yH,t1];rfl,(λe=>by cases e),λ_=>sS ⟨_,_,rfl,by rw[hr];rfl⟩⟩
   |true=>
    rw[cl] at t1
    obtain⟨r,rfl,hp⟩:=MB cl
    have t2:=mn (aE (F:=LK) (fr:=aa (gv 3) (aa (gv 6) ag)) (vs:=vl [.fz (cg ns),.fz (.int i),.bx,.fz (aA n l),.fz (.int c),.fz (.list M),.fz (tupI r),.fz (.tuple w),.fz (tupI aq),.fz (.str "row")]) (β:=β) (ds:=[aA n l,tupI r]) rfl (Kw O hp))
    refine⟨xB l r,β,by rw[yH,t1];exact t2,λhf=>?_,λhf=>?_⟩
    ·exact uB (kh (d:=.str "told") rfl (sS ⟨_,_,rfl,by rw[ur ⟨hp,hf⟩];rfl⟩))
    ·have hr:mh n l (tupI r)=false:=yZ λq e hR=>by rw[<-mO e] at hR;rw[hR.2] at hf;cases hf
     exact sS ⟨_,_,rfl,by rw[hr];rfl⟩
  ·rintro env β rfl
   have es:qA [.int 1,aA n l,d]=.ok (.str (if mh n l d=true then "told" else "row")) false:=by
    cases cr:mh n l d with
    |true=>obtain⟨r,rfl,hr⟩:=J6 cr;exact BR O hr
    |false=>exact Iz O hd cr
   exact uB (uF (dq _ _ _ _ (aH (aE (ds:=[.int 1,aA n l,d]) rfl es) rfl (by cases mh n l d <;> kernel_rfl))) (sS ⟨_,_,rfl,_,_,rfl⟩))
 rintro env β ⟨s6,s9,rfl⟩
 exact uB (uF (oK (c:=false) (dq _ _ _ _ (aH (x:=.str "told") (y:=.str "told") (aE (ds:=[.int 0,aA n l,.int (c - 1)]) rfl s1') rfl (by kernel_rfl))) (dq _ _ _ _ (aH (x:=.str "told") (y:=.str "told") (aE (ds:=[.int 1,aA n l,.tuple w]) rfl s2') rfl (by kernel_rfl)))) (sS ⟨_,_,rfl,_,_,_,_,_,_,_,_,_,rfl⟩))
end RM
namespace RO
open PySem L2
abbrev jy:Stmt:=RQ.eH
abbrev mj:Stmt:=RQ.top 24
abbrev kI:Stmt:=RQ.top 51
abbrev Fn (K:Frag)(mg:Str->Option Value)(x:Str)(st:Stmt)(ps:List Str)(f:Addr)(fd:FuncData):Prop:=jJ K mg x st ps f fd
abbrev Bt (mg:Str->Option Value):Prop:=j4 mg
end RO
section
namespace L2
open PySem PySem.Spec PyProof.Rows
section
variable {K:Frag}{H H':Hp}{a:Addr}
theorem aW.snoc (q:dU K H a [.int x,.int y]):∀{vs:List V} {ps:List (Int×Int)},aW K H vs ps->aW K H (vs ++ [.ref a]) (ps ++ [(x,y)])
 |_,_,.nil=>.cons ⟨a,rfl,q⟩ .nil
 |_,_,.cons r t=>.cons r (aW.snoc q t)
def aW.len (h:aW K H vs ps):vs.length=ps.length:=Paired.length h
def aW.same (h:aW K H vs ps)(s:aw H H'):aW K H' vs ps:=h.grow s.grow
def aW.at {vs:List V}{ps:List (Int×Int)}{i:Nat}{v:V}(h:aW K H vs ps)(e:vs[i]? =some v):∃p:Int×Int,ps[i]? =some p/\∃b,v=.ref b/\dU K H b [.int p.1,.int p.2]:=Paired.getP h e
def aw.put (s:aw H H')(h:H a=none):aw H (L2.upd H' a o):=λb u e=>by rw[aB (aL e h)];exact s b u e
end
end L2
namespace RO
open PySem L2
def DP (N:List Str)(sc:Scope)(NB:List Str)(own:Nat)(ixs:List Nat)(scope:Scope):Bool:=
 decide (scope.kind=.function) && (scope.names.all λy=>decide (y.2≠.cell)) && (scope.names.all λy=>decide (scope.names.lookup y.1=some y.2)) &&
 (scope.names.all λy=>decide (y.2=.free->(sc.names.lookup y.1=some .cell\/sc.names.lookup y.1=some .free))) && decide NB.Nodup && decide (NB.length=own + ixs.length) &&
 ((List.range ixs.length).all λk=>decide (NB[own + k]? =N[ixs.getD k 0]?) && (match NB[own + k]? with |some x=>decide ((x,NameKind.free)∈scope.names) |none=>true))
def nQ {X:Cx}{own:Nat}{ixs:List Nat}(h:DP X.N X.env.scope NB own ixs scope=true):cZ X NB own ixs scope:=by
 unfold DP at h
 simp only[N3,OF,N4,N6] at h
 obtain⟨⟨⟨⟨⟨⟨h1,h2⟩,h3⟩,h4⟩,h5⟩,h6⟩,h7⟩:=h
 refine⟨h1,h2,h3,h4,h5,h6,λk hk=>⟨(h7 k hk).1,λx hx=>?_⟩⟩
 have:=(h7 k hk).2
 rw[hx] at this
 simpa using this
section
variable {X:Cx}{tg l:Expr}{tl:TE}{K:Frag}{H H1:Hp}{a:Addr}{xs:List V}{σ:St}
def LV (K:Frag)(tl:TE):TI:=λσ H R=>tl σ H λx H1=>∃a xs,x=.ref a/\((fj K H1 a xs/\R (A2 K a) H1)\/(dU K H1 a xs/\R (GL K a) H1))
end
def Na (K:Frag){X:Cx}(h:X.K=K:=by rfl):Dq X (Jf K):=by subst h;exact fG
def Jp (K:Frag)(i j:Nat){X:Cx}{px py pos:Pos}{k:Nat}(hN:X.N.Nodup)(hi:X.N[i]? =some x)(hj:X.N[j]? =some y)(hx:X.env.scope.names.lookup x=some .local)(hy:X.env.scope.names.lookup y=some .local)(hc:X.calm=true)(hK:X.K=K) :
  PG X (.Tuple [.Name x px,.Name y py] k pos) (Gu K 2 (pJ (lE i) (pJ (lE j) Gh))):=by
 subst hK
 exact qj hc (dA (cP hN hi (Or.inl hx) (Or.inr hx)) (dA (cP hN hj (Or.inl hy) (Or.inr hy)) mr))
section
open PySem.Spec PyProof.Rows
variable {X:Cx}{tg l:Expr}{tl:TE}
def HJ (hl:PE X l tl):PI X tg l (LV X.K tl):=by
 intro pins s σ H R I h
 refine cx (hl pins s σ H _ I h) λv s1 ⟨x,H1,I1,r1,q1⟩=>?_
 obtain⟨a,xs,e,q⟩:=q1
 subst e
 cases r1
 rcases q with⟨hq,q⟩ | ⟨hq,q⟩
 ·obtain⟨its,rv,p,hz⟩:=I1.list hq
  refine Qe p.isList ?_
  refine⟨s1.heap.objs.size,[s1.heap.objs.size],_,_,H1,rfl,I1.kept (t':=s1.toks) λb o e=>ND _ e,nM a _,⟨_,NQ _ rfl,rfl,rfl⟩,λb hb=>?_,q⟩
  have e:b=s1.heap.objs.size:=by simpa using hb
  subst e
  exact I1.fpOk (NH _) (I1.hok.fresh (NH _))
 ·obtain⟨its,rv,p,hz⟩:=I1.tuple hq
  refine Qa (show s1.heap.IsTuple a its.toArray from p) ?_
  refine⟨s1.heap.objs.size,[s1.heap.objs.size],_,_,H1,rfl,I1.kept (t':=s1.toks) λb o e=>ND _ e,pE a _,⟨_,NQ _ rfl,rfl,rfl⟩,λb hb=>?_,q⟩
  have e:b=s1.heap.objs.size:=by simpa using hb
  subst e
  exact I1.fpOk (NH _) (I1.hok.fresh (NH _))
end
section
variable {K:Frag}{H H1 H':Hp}{a:Addr}{xs:List V}{σ:St}
abbrev KA (J:It)(g:TG)(tb:TS)(D:Ends)(σ:St)(H:Hp):Prop:=∃W:Nat->Nat->St->Hp->Prop,(∃m,W 0 m σ H)/\∀i m σ H,W i m σ H->
   (J.stop i H/\D.nx σ H)\/(J.go i H/\∃N:St->Hp->Prop,(∀σ' H',N σ' H'->∃m',m' < m/\W (i + 1) m' σ' H')/\∀x H',J.yld i H x H'->g x σ H' λσ2 H2=>tb {D with nx:=N,ct:=N,bk:=D.nx} σ2 H2)
def EH (s:aw H1 H')(hq:fj K H1 a xs\/dU K H1 a xs):fj K H' a xs\/dU K H' a xs:=hq.elim (λq=>.inl (s.seq q)) λq=>.inr (q.grow s.grow)
def E4 {g:TG}{tb:TS}{D:Ends}(hq:fj K H1 a xs\/dU K H1 a xs)(Pv:Nat->St->Hp->Prop)(h0:Pv 0 σ H)(hl:∀i σ H',Pv i σ H'->aw H1 H')
  (hs:∀i x σ H,xs[i]? =some x->Pv i σ H->g x σ H λσ2 H2=>tb {D with nx:=Pv (i + 1),ct:=Pv (i + 1),bk:=D.nx} σ2 H2) (hd:∀σ H,Pv xs.length σ H->D.nx σ H) :
  (fj K H a xs/\KA (A2 K a) g tb D σ H)\/(dU K H a xs/\KA (GL K a) g tb D σ H):=
 hq.elim (λq=>.inl ⟨(hl _ _ _ h0).seq q,vg Pv h0 (λi σ H' _ p=>(hl i σ H' p).seq q) hs hd⟩) λq=>.inr ⟨q.grow (hl _ _ _ h0).grow,EI Pv h0 (λi σ H' _ p=>q.grow (hl i σ H' p).grow) hs hd⟩
def zL (J:It)(own:Nat)(ixs:List Nat)(g:TG)(tt:TT)(te:TE)(Q:VK)(D:Addr)(σ:St)(H:Hp):Prop:=∃W:Nat->Nat->St->Hp->Prop,(∃m,W 0 m (bJ own ixs σ) (upd H D (.lst [])))/\∀i m σ' H',W i m σ' H'->
   (J.stop i H'/\(∃acc,H' D=some (.lst acc))/\Q (.ref D) H')\/
   (J.go i H'/\∃N:St->Hp->Prop,(∀σ2 H2,N σ2 H2->∃m',m' < m/\W (i + 1) m' σ2 H2)/\∀x H2,J.yld i H' x H2->eT g tt te D x σ' H2 N)
structure vW (own:Nat)(ixs:List Nat)(wi:TI)(g:TG)(tt:TT)(te:TE)(σ:St)(H:Hp)(Q:VK):Prop where
 out:wi σ H λJ H1=>∀D,H1 D=none->zL J own ixs g tt te Q D σ H1
def xD {own:Nat}{ixs:List Nat}{g:TG}{tt:TT}{te:TE}{Q:VK}(h:wi σ H λJ H1=>∀D,H1 D=none->zL J own ixs g tt te Q D σ H1):vW own ixs wi g tt te σ H Q:=⟨h⟩
def tE {X:Cx}{own:Nat}{ixs:List Nat}{tg iter elt:Expr}{ifs:List Expr}{g:TG}{tt:TT}{te:TE}{pos:Pos}(hc:X.calm=true)(S:cZ X NB own ixs scope)(hi:PI X tg iter wi)
  (hg:∀C ex s3 H3 pn,PG (iS X NB scope C ex s3 H3 pn) tg g) (ht:∀C ex s3 H3 pn,CK (iS X NB scope C ex s3 H3 pn) ifs tt) (he:∀C ex s3 H3 pn,PE (iS X NB scope C ex s3 H3 pn) elt te)
  (hs:∀x,foldedSetIterable iter X.env x=pure x:=by intro _;rfl):PE X (.ListComp elt [⟨tg,iter,ifs,0⟩] scope pos) (vW own ixs wi g tt te):=
 λpins s σ H Q I h=>wX hc S hi hg ht he hs pins s σ H Q I h.out
section
variable {own:Nat}{ixs:List Nat}{g:TG}{tt:TT}{te:TE}{Q:VK}{D:Addr}
def FD (Pv:Nat->St->Hp->Prop)(h0:Pv 0 (bJ own ixs σ) (upd H D (.lst [])))(hl:∀i σ H,i<=xs.length->Pv i σ H->fj K H a xs)
  (hs:∀i x σ H,xs[i]? =some x->Pv i σ H->eT g tt te D x σ H (Pv (i + 1))) (hd:∀σ H,Pv xs.length σ H->(∃acc,H D=some (.lst acc))/\Q (.ref D) H):zL (A2 K a) own ixs g tt te Q D σ H:=A8 Pv h0 hl hs hd
def wH {lo:Int}{n:Nat}(Pv:Nat->St->Hp->Prop)(h0:Pv 0 (bJ own ixs σ) (upd H D (.lst [])))
  (hs:∀i σ H,i < n->Pv i σ H->eT g tt te D (.int (lo + i)) σ H (Pv (i + 1))) (hd:∀σ H,Pv n σ H->(∃acc,H D=some (.lst acc))/\Q (.ref D) H):zL (BC lo n) own ixs g tt te Q D σ H:=yK Pv h0 hs hd
end
def va {te:TE}{D:Addr}{N:St->Hp->Prop}(h:te (σ.set i (some x)) H λv H5=>∃acc,H5 D=some (.lst acc)/\acc.length < sizeLine/\N (σ.set i (some x)) (upd H5 D (.lst (acc ++ [v])))):eT (lE i) Ht te D x σ H N:=by
 unfold eT lE Ht
 exact wZ h
def B6 {Q:St->Hp->Prop}(h:dU K H a [x,y])(q:Q ((σ.set i (some x)).set j (some y)) H):Gu K 2 (pJ (lE i) (pJ (lE j) Gh)) (.ref a) σ H Q:=⟨a,_,rfl,h,rfl,x,_,rfl,y,_,rfl,rfl,q⟩
def MS {c A B:Prop}[Decidable c](h:c)(a:A):if c then A else B:=by rw[NG h];exact a
def MJ {c A B:Prop}[Decidable c](h:¬c)(b:B):if c then A else B:=by rw[NL h];exact b
def take_snoc {α:Type}{l:List α}{i:Nat}{x:α}(h:l[i]? =some x):l.take (i + 1)=l.take i ++ [x]:=by
 rw[PM,h];rfl
def take_all {α:Type}(l:List α):l.take l.length=l:=Pb (NH _)
end
def jf (n:Nat):(OM.gG n).length=n * n:=by unfold OM.gG;simp
def Fp (h:i < n * n):(OM.gG n)[i]? =some (((i / n:Nat):Int),((i % n:Nat):Int)):=by
 unfold OM.gG
 rw[NP,OZ h];rfl
def M5 (h:n<=8):n * n<=64:=O5 h h
section
variable {P:Program}{w:World}{K:Frag}{mg:Str->Option Value}{base:Heap}
def y1 (K:Frag):Sp:=λvs H Q _=>∃n:Nat,vs= [.int n]/\1<=n/\n<=8/\∀H' l ws,aw H H'->H l=none->H' l=some (.lst ws)->aW K H' ws (OM.gG n)->Q (.ref l) H'
def FA:aK ["many"] ["many"] (av jy):=⟨rfl,rfl,rfl,by decide +kernel,rfl,by decide +kernel,by decide +kernel⟩
def JM:(["number","many"]:List Str).Nodup:=by decide +kernel
def DM {f:Addr}{fd:FuncData}(F:Fn K mg "every_pair" jy ["many"] f fd)(B:Bt mg):gj P w K mg base ye 1 f fd ["many"] (y1 K):=by
 refine F.F.ok FA (λvs H Q E h=>?_) (λcdv A outer s H vs Q E hr h=>?_)
 ·obtain⟨n,rfl,_⟩:=h;rfl
 ·obtain⟨n,rfl,h1,h8,k⟩:=h
  refine⟨_,dE (i0 (tE (NB:=["number","many"]) (own:=1) (ixs:=[0]) rfl (nQ (by kernel_rfl)) (lh rfl B.range (ak (oB kB (pv 0) (pv 0)) aN))
   (λC ex s3 H3 pn=>cP (i:=0) JM rfl (Or.inl rfl) (hf:=Or.inr rfl)) (λC ex s3 H3 pn=>tY)
   (λC ex s3 H3 pn=>x8 (ak (oB mX (pv 0) (pv 1)) (ak (oB lL (pv 0) (pv 1)) aN))))),?_⟩
  have hn:=M5 h8
  have e0:((n:Int) * (n:Int))=((n * n:Nat):Int):=by rw[Int.natCast_mul]
  refine xD ⟨_,rfl,_,rfl,_,_,rfl,rfl,.inl ⟨by omega,by omega⟩,_,rfl,by rw[e0];omega,by rw[e0];omega,λD hD=>?_⟩
  rw[e0,Oa]
  refine wH (λi σ' H'=>(∃v,σ'= [v,some (.int n)])/\aw H H'/\∃vs,H' D=some (.lst vs)/\aW K H' vs ((OM.gG n).take i)) ⟨⟨none,rfl⟩,(aw.refl H).put hD,[],au,.nil⟩ ?_ ?_
  ·rintro i σ' H' hi ⟨⟨v,rfl⟩,s1,vs,hv,hp⟩
   have hn0:(0:Int) < (n:Int):=by omega
   refine va ⟨_,rfl,_,rfl,_,_,rfl,rfl,⟨hn0,by omega⟩,_,rfl,_,rfl,_,_,rfl,rfl,hn0,by show 2<=sizeLine;rw[N8];omega,λp hp0=>?_⟩
   have hpD:D≠p:=aL hv hp0
   have hl:=hp.len
   refine⟨vs,by rw[aB hpD];exact hv,?_,⟨_,rfl⟩,?_,vs ++ [.ref p],au,?_⟩
   ·rw[hl,OP,N8];rw[jf];omega
   ·exact (s1.put (s1.free hp0)).put hD
   ·rw[take_snoc (Fp hi)]
    have g1:iA H' (upd H' p (.tup [.int ((0 + (i:Int)) / n),.int ((0 + (i:Int)) % n)])):=iA.new hp0
    have g2:∀o,iA (upd H' p (.tup [.int ((0 + (i:Int)) / n),.int ((0 + (i:Int)) % n)])) (upd (upd H' p (.tup [.int ((0 + (i:Int)) / n),.int ((0 + (i:Int)) % n)])) D o):=λo=>iA.list (by rw[aB hpD];exact hv)
    refine aW.snoc ?_ (hp.grow (g1.trans (g2 _)))
    refine (dU.grow ?_ (g2 _))
    refine .inl (.inl ?_)
    rw[au,P5];rfl
  ·rintro σ' H' ⟨_,s1,vs,hv,hp⟩
   refine⟨⟨_,hv⟩,k H' D vs s1 hD hv ?_⟩
   rw[<-jf n,take_all] at hp
   exact hp
end
end RO
end
namespace RO
open PySem L2
structure TabAt (n:Nat)(M:OM.Tb)(L:Addr)(r:Nat->Addr)(H:Hp):Prop where
 top:H L=some (.lst ((List.range n).map λi=>V.ref (r i)))
 row:∀i,i < n->H (r i)=some (.lst ((List.range n).map λj=>V.bl (M i j)))
 inj:∀i j,i < n->j < n->r i=r j->i=j
 ne:∀i,i < n->r i≠L
def zD {n x:Nat}(h:x < n):uW n (x:Int)=some x:=by
 unfold uW;rw[NG (by omega),NG (by omega)];simp
def DQ {α:Type}{xs:List α}{x:Nat}(h:x < xs.length):i4 xs (x:Int)=xs[x]?:=by
 unfold i4;rw[zD h];rfl
def gf {f:Nat->V}{n x:Nat}(h:x < n):i4 ((List.range n).map f) (x:Int)=some (f x):=by
 rw[DQ (by simpa using h),NP,OZ h];rfl
def sr {f:Nat->V}{n x:Nat}(h:x < n):uW ((List.range n).map f).length (x:Int)=some x:=by
 rw[NM,Qf];exact zD h
def BB {f:Nat->V}{n y:Nat}:((List.range n).map f).set y v=(List.range n).map λj=>if j=y then v else f j:=by
 apply QA
 intro i
 by_cases hi:i < n
 ·by_cases e:y=i
  ·subst e;simp[List.getElem?_set,hi]
  ·have e':¬i=y:=λz=>e z.symm
   simp[List.getElem?_set,hi,e,e']
 ·rw[Pg (by simp;omega),Pg (by simp;omega)]
section
variable {n:Nat}{M:OM.Tb}{L:Addr}{r:Nat->Addr}{H H':Hp}
def TabAt.set (T:TabAt n M L r H)(hx:x < n):TabAt n (M.set x y) L r (upd H (r x) (.lst (((List.range n).map λj=>V.bl (M x j)).set y (.bl true)))):=by
 refine⟨by rw[aB (T.ne x hx).symm];exact T.top,λi hi=>?_,T.inj,T.ne⟩
 by_cases e:i=x
 ·subst e
  rw[au,BB]
  refine congrArg _ (congrArg _ (OG λj _=>?_))
  unfold OM.Tb.set
  by_cases c:j=y
  ·simp[c]
  ·simp[c]
 ·rw[aB (λz=>e (T.inj i x hi hx z)),T.row i hi]
  refine congrArg _ (congrArg _ (OG λj _=>?_))
  unfold OM.Tb.set;simp[e]
def TabAt.same (T:TabAt n M L r H)(s:aw H H'):TabAt n M L r H':=⟨s _ _ T.top,λi hi=>s _ _ (T.row i hi),T.inj,T.ne⟩
end
def uM {n:Nat}(w:OM.Wn n ps)(h:p∈ps):∃u v:Nat,p=((u:Int),(v:Int))/\u < n/\v < n:=by
 obtain⟨x,y⟩:=p
 have q:=w _ h
 simp only at q
 exact⟨x.toNat,y.toNat,by rw[Int.toNat_of_nonneg q.1.1,Int.toNat_of_nonneg q.2.1],by omega,by omega⟩
def iE {M0 M:OM.Tb}{D D':Nat->Nat->Prop}(P:OM.Phase M0 M m D)(h:∀a b,D a b↔D' a b):OM.Phase M0 M m D':=λa b=>by rw[P a b,h a b]
def kW {l:List (Int×Int)}{u v a b:Nat}:(((a:Int),(b:Int))∈l\/(a=u/\b=v))↔((a:Int),(b:Int))∈l ++ [((u:Int),(v:Int))]:=by
 rw[N7,N9,Prod.mk.injEq]
 constructor
 ·rintro (h | ⟨h1,h2⟩)
  ·exact .inl h
  ·exact .inr ⟨by omega,by omega⟩
 ·rintro (h | ⟨h1,h2⟩)
  ·exact .inl h
  ·exact .inr ⟨by omega,by omega⟩
def Gf {M:OM.Tb}:M.set u v a b=true↔M a b=true\/(a=u/\b=v):=by
 unfold OM.Tb.set
 by_cases c:a=u/\b=v
 ·simp[c]
 ·rw[NL c];exact⟨.inl,λh=>h.resolve_right c⟩
def KQ (n:Nat)(x:V):(List.replicate n [x]).flatten=(List.range n).map λ_=>x:=by
 rw[List.flatten_replicate_singleton,List.map_const',Qf]
section
variable {P:Program}{w:World}{K:Frag}{mg:Str->Option Value}{base:Heap}
def DD (K:Frag):Sp:=λvs H Q _=>∃(n:Nat) (a:Addr) (xs:List V) (ps:List (Int×Int)),vs= [.int n,.ref a]/\1<=n/\n<=8/\(fj K H a xs\/dU K H a xs)/\aW K H xs ps/\OM.Wn n ps/\
 ∀H' t ws,aw H H'->H t=none->H' t=some (.tup ws)->aW K H' ws (OM.cu n (OM.Tr (OM.Mem ps)))->Q (.ref t) H'
def fW:aK ["many","pairs","corners","leads","a","b","middle"] ["many","pairs"] (av mj):=⟨rfl,rfl,rfl,by decide +kernel,rfl,by decide +kernel,by decide +kernel⟩
def JR:(["start","many"]:List Str).Nodup:=by decide +kernel
def Jx:(["a","b","leads"]:List Str).Nodup:=by decide +kernel
set_option maxHeartbeats 1000000 in
theorem AW {f g:Addr}{fd gd:FuncData}(F:Fn K mg "closed" mj ["many","pairs"] f fd)(G:Fn K mg "every_pair" jy ["many"] g gd)(GE:gj P w K mg base ye 1 g gd ["many"] (y1 K))(B:Bt mg):gj P w K mg base ye 2 f fd ["many","pairs"] (DD K):=by
 refine F.F.ok fW (λvs H Q E h=>?_) (λcdv A outer s H vs Q E hr h=>?_)
 ·obtain⟨n,a,xs,ps,rfl,_⟩:=h;rfl
 ·obtain⟨n,a,xs,ps,rfl,h1,h8,hq,hp,wn,k⟩:=h
  refine⟨_,cz (jt (i:=2) fW.nd rfl (Or.inl rfl) (pf GE hr rfl G.mg G.F.kp G.b .nil GG (ak (pv 0) aN)))
   (cz (jt (i:=3) fW.nd rfl (Or.inr rfl) (tE (NB:=["start","many"]) (own:=1) (ixs:=[0]) rfl (nQ (by kernel_rfl)) (lh rfl B.range (ak (pv 0) aN))
    (λC ex s3 H3 pn=>cP (i:=0) JR rfl (Or.inl rfl) (hf:=Or.inr rfl)) (λC ex s3 H3 pn=>tY) (λC ex s3 H3 pn=>oB DI (nU (ak sO aN)) (pv 1))))
   (cz (uQ PassesOwn.never rfl (HJ (pv 1)) (qj rfl (dA (cP (i:=4) fW.nd rfl (Or.inl rfl)) (dA (cP (i:=5) fW.nd rfl (Or.inl rfl)) mr)))
    (dE (qc sO (tw (ku fG (pv 3) (pv 4) (λ_ _=>rfl)) (pv 5) set_list))))
   (cz (uQ PassesOwn.never rfl (lh rfl B.range (ak (pv 0) aN)) (cP (i:=6) fW.nd rfl (Or.inl rfl))
    (dE (uQ PassesOwn.never rfl (zm (pv 2)) (qj rfl (dA (cP (i:=4) fW.nd rfl (Or.inl rfl)) (dA (cP (i:=5) fW.nd rfl (Or.inl rfl)) mr)))
     (dE (zO (PW.pt (CV (qG (ku fG (ku fG (pv 3) (pv 4) (λ_ _=>rfl)) (pv 6) (λ_ _=>rfl))) (zH (qG (ku fG (ku fG (pv 3) (pv 6) (λ_ _=>rfl)) (pv 5) (λ_ _=>rfl))))))
      (dE (qc sO (tw (ku fG (pv 3) (pv 4) (λ_ _=>rfl)) (pv 5) set_list))) o7)))))
   (dE (i0 (gZ fS rfl B.tuple (by decide +kernel) (ak (tE (NB:=["a","b","leads"]) (own:=2) (ixs:=[3]) rfl (nQ (by kernel_rfl)) (zm (pv 2))
    (λC ex s3 H3 pn=>Jp K 0 1 Jx rfl rfl rfl rfl rfl rfl)
    (λC ex s3 H3 pn=>yY (qG (ku (Na K) (ku (Na K) (pv 2) (pv 0) (λ_ _=>rfl)) (pv 1) (λ_ _=>rfl)))) (λC ex s3 H3 pn=>x8 (ak (pv 0) (ak (pv 1) aN)))) aN))))))),?_⟩
  have hn:=M5 h8
  have hn0:(0:Int)<=(n:Int):=by omega
  refine⟨_,rfl,n,rfl,h1,h8,λH1 c ws s1 hc0 hc hw=>?_⟩
  have hwl:ws.length=n * n:=by rw[hw.len,jf]
  have gw:OM.Wn n (OM.gG n):=λp hp=>OM.gc.mp hp
  refine xD ?_
  refine⟨_,rfl,n,rfl,by omega,by omega,λD hD=>?_⟩
  rw[Oa]
  refine wH (λi σ' H'=>(∃v,σ'= [v,some (.int n)])/\aw H1 H'/\∃r:Nat->Addr,H' D=some (.lst ((List.range i).map λk=>V.ref (r k)))/\
   (∀k,k < i->H' (r k)=some (.lst ((List.range n).map λ_=>V.bl false))/\H1 (r k)=none/\r k≠D)/\∀j k,j < i->k < i->r j=r k->j=k)
   ?_ ?_ ?_
  ·exact⟨⟨none,rfl⟩,(aw.refl H1).put hD,λ_=>0,au,λk hk=>absurd hk (Nat.not_lt_zero _),λj k hj=>absurd hj (Nat.not_lt_zero _)⟩
  ·rintro i σ' H' hi ⟨⟨v,rfl⟩,s2,r,hr0,hr1,hr2⟩
   refine va ⟨by show 1<=sizeLine;rw[N8];omega,λp hp0=>⟨_,rfl,p,n,[.bl false],rfl,rfl,au,by omega,by omega,by show 1 * (n:Int).toNat<=sizeLine;rw[N8];omega,λq hq0=>?_⟩⟩
   have hqp:q≠p:=by intro e;subst e;rw[au] at hq0;cases hq0
   have hq1:H' q=none:=by rw[aB hqp] at hq0;exact hq0
   have hDp:D≠p:=aL hr0 hp0
   have hDq:D≠q:=aL hr0 hq1
   rw[Oa,KQ]
   refine⟨_,by rw[aB hDq,aB hDp];exact hr0,by rw[NM,Qf,N8];omega,⟨_,rfl⟩,((s2.put (s2.free hp0)).put (s2.free hq1)).put hD,λk=>if k=i then q else r k,?_,λk hk=>?_,λj k hj hk e=>?_⟩
   ·have e:(List.range i).map (λk=>V.ref (r k))=(List.range i).map (λk=>V.ref (if k=i then q else r k)):=OG λk hk=>by
     have:=N6.mp hk
     rw[NL (by omega)]
    rw[au,List.range_succ,OO,e]
    simp
   ·dsimp only
    by_cases e:k=i
    ·rw[NG e]
     exact⟨by rw[aB hDq.symm,au],s2.free hq1,hDq.symm⟩
    ·rw[NL e]
     obtain⟨a1,a2,a3⟩:=hr1 k (by omega)
     exact⟨by rw[aB a3,aB (aL a1 hq1),aB (aL a1 hp0)];exact a1,a2,a3⟩
   ·dsimp only at e
    by_cases ej:j=i
    ·by_cases ek:k=i
     ·omega
     ·rw[NG ej,NL ek] at e
      exact absurd e.symm (aL (hr1 k (by omega)).1 hq1)
    ·by_cases ek:k=i
     ·rw[NL ej,NG ek] at e
      exact absurd e (aL (hr1 j (by omega)).1 hq1)
     ·rw[NL ej,NL ek] at e
      exact hr2 j k (by omega) (by omega) e
  rintro σ2 H2 ⟨_,s2,r,hr0,hr1,hr2⟩
  refine⟨⟨_,hr0⟩,?_⟩
  have sep:∀i,i < n->H1 (r i)=none:=λi hi=>(hr1 i hi).2.1
  have T0:TabAt n (λ_ _=>false) D r H2:=⟨hr0,λi hi=>(hr1 i hi).1,hr2,λi hi=>(hr1 i hi).2.2⟩
  refine⟨_,rfl,a,xs,rfl,E4 (H1:=H1) (EH s1 hq) (λi σ' H'=>(∃x y,σ'= [some (.int n),some (.ref a),some (.ref c),some (.ref D),x,y,none])/\aw H1 H'/\∃M,TabAt n M D r H'/\∀u v:Nat,M u v=true↔((u:Int),(v:Int))∈ps.take i)
   ⟨⟨none,none,rfl⟩,s2,_,T0,λu v=>by simp⟩ (λi σ' H' q=>q.2.1) ?_ ?_⟩
  ·rintro i x σ' H' hx ⟨⟨_,_,rfl⟩,s3,M,T,hM⟩
   obtain⟨p,hpi,b,rfl,hb⟩:=(hp.same (s1.trans s3)).at hx
   obtain⟨u,v,rfl,hu,hv⟩:=uM wn (NU hpi)
   refine B6 hb ?_
   refine⟨_,rfl,_,rfl,D,_,u,_,rfl,rfl,.inl (.inl T.top),gf hu,_,rfl,r u,_,v,v,rfl,rfl,T.row u hu,sr hv,⟨_,_,rfl⟩,s3.put (sep u hu),_,T.set hu,λx y=>?_⟩
   rw[take_snoc hpi,<-kW,Gf,hM]
  rintro σ3 H3 ⟨⟨x3,y3,rfl⟩,s3,M3,T3,hM3⟩
  rw[hp.len,take_all] at hM3
  refine⟨_,rfl,n,rfl,by omega,by omega,?_⟩
  rw[Oa]
  refine AQ (λm σ' H'=>(∃x y z,σ'= [some (.int n),some (.ref a),some (.ref c),some (.ref D),x,y,z])/\aw H1 H'/\∃M,TabAt n M D r H'/\OM.Tab n ps M/\OM.EA M m)
   ⟨⟨_,_,_,rfl⟩,s3,M3,T3,⟨λa b h=>by have:=wn _ ((hM3 a b).mp h);simp only at this;omega,λa b h=>(hM3 a b).mpr h,λa b h=>.one ((hM3 a b).mp h)⟩,λk a b hk=>absurd hk (Nat.not_lt_zero _)⟩ ?_ ?_
  ·rintro m σ' H' hm ⟨⟨_,_,_,rfl⟩,s4,M,T,TT,Th⟩
   rw[P5]
   refine⟨_,rfl,c,rfl,⟨ws,.inl (.inl (s4 _ _ hc))⟩,vg (xs:=ws) (λi σ' H'=>(∃x y,σ'= [some (.int n),some (.ref a),some (.ref c),some (.ref D),x,y,some (.int m)])/\aw H1 H'/\∃M',TabAt n M' D r H'/\OM.Phase M M' m λu v=>((u:Int),(v:Int))∈(OM.gG n).take i)
    ⟨⟨_,_,rfl⟩,s4,M,T,iE (OM.Phase.start M m) λa b=>by simp⟩ (λi σ' H' _ q=>.inl (.inl (q.2.1 _ _ hc))) ?_ ?_⟩
   ·rintro i x σ' H' hx ⟨⟨_,_,rfl⟩,s5,M',T',Ph⟩
    obtain⟨p,hpi,b,rfl,hb⟩:=(hw.same s5).at hx
    obtain⟨u,v,rfl,hu,hv⟩:=uM gw (NU hpi)
    refine B6 hb ?_
    have st:=Ph.step u v
    refine⟨_,rfl,_,rfl,D,_,u,_,rfl,rfl,.inl (.inl T'.top),gf hu,_,rfl,r u,_,m,_,rfl,rfl,.inl (.inl (T'.row u hu)),gf hm,_,rfl,?_⟩
    by_cases c1:M' u m=true
    ·refine MS c1 ?_
     refine⟨_,rfl,_,rfl,D,_,m,_,rfl,rfl,.inl (.inl T'.top),gf hm,_,rfl,r m,_,v,_,rfl,rfl,.inl (.inl (T'.row m hm)),gf hv,_,rfl,?_⟩
     by_cases c2:M' m v=true
     ·refine MS c2 ?_
      rw[NG ⟨c1,c2⟩] at st
      refine⟨_,rfl,_,rfl,D,_,u,_,rfl,rfl,.inl (.inl T'.top),gf hu,_,rfl,r u,_,v,v,rfl,rfl,T'.row u hu,sr hv,⟨_,_,rfl⟩,s5.put (sep u hu),_,T'.set hu,iE st λa b=>?_⟩
      rw[take_snoc hpi];exact kW
     ·refine MJ c2 ?_
      rw[NL λz=>c2 z.2] at st
      refine⟨⟨_,_,rfl⟩,s5,_,T',iE st λa b=>?_⟩
      rw[take_snoc hpi];exact kW
    ·refine MJ c1 ?_
     rw[NL λz=>c1 z.1] at st
     refine qL ⟨⟨_,_,rfl⟩,s5,_,T',iE st λa b=>?_⟩
     rw[take_snoc hpi];exact kW
   ·rintro σ' H' ⟨⟨_,_,rfl⟩,s5,M',T',Ph⟩
    rw[hw.len,take_all] at Ph
    have dn:=Ph.done (n:=n) (λa b ha hb=>OM.gc.mpr ⟨⟨by simp,by simp;omega⟩,by simp,by simp;omega⟩) TT.inn Th
    exact⟨⟨_,_,_,rfl⟩,s5,M',T',TT.phase Ph,dn.1⟩
  rintro σ4 H4 ⟨⟨x4,y4,z4,rfl⟩,s4,M,T,TT,Th⟩
  refine xD ⟨_,rfl,c,rfl,⟨ws,.inl (.inl (s4 _ _ hc))⟩,λD' hD'=>FD (xs:=ws) (λi σ' H'=>(∃x y,σ'= [x,y,some (.ref D)])/\aw H4 H'/\∃vs,H' D'=some (.lst vs)/\aW K H' vs (((OM.gG n).take i).filter λp=>M p.1.toNat p.2.toNat))
   ⟨⟨_,_,rfl⟩,(aw.refl H4).put hD',[],au,.nil⟩ (λi σ' H' _ q=>.inl (.inl (q.2.1 _ _ (s4 _ _ hc)))) ?_ ?_⟩
  ·rintro i x σ' H' hx ⟨⟨_,_,rfl⟩,s5,vs,hv,hpv⟩
   obtain⟨p,hpi,b,rfl,hb⟩:=(hw.same (s4.trans s5)).at hx
   obtain⟨u,v,rfl,hu,hv'⟩:=uM gw (NU hpi)
   refine B6 hb ?_
   have T':=T.same s5
   refine⟨_,rfl,_,rfl,D,_,u,_,rfl,rfl,.inl (.inl T'.top),gf hu,_,rfl,r u,_,v,_,rfl,rfl,.inl (.inl (T'.row u hu)),gf hv',_,rfl,?_⟩
   by_cases c1:M u v=true
   ·refine MS c1 ?_
    refine⟨_,rfl,_,rfl,by show 2<=sizeLine;rw[N8];omega,λp hp0=>?_⟩
    have hpD:D'≠p:=aL hv hp0
    refine⟨vs,by rw[aB hpD];exact hv,?_,⟨_,_,rfl⟩,(s5.put (s5.free hp0)).put hD',_,au,?_⟩
    ·rw[hpv.len]
     refine Nat.lt_of_le_of_lt (PK ..) ?_
     rw[OP,jf,N8];omega
    ·rw[take_snoc hpi,List.filter_append,List.filter_cons_of_pos (by simpa using c1),List.filter_nil]
     have g1:iA H' (upd H' p (.tup [.int u,.int v])):=iA.new hp0
     have g2:∀o,iA (upd H' p (.tup [.int u,.int v])) (upd (upd H' p (.tup [.int u,.int v])) D' o):=λo=>iA.list (by rw[aB hpD];exact hv)
     refine aW.snoc ?_ (hpv.grow (g1.trans (g2 _)))
     exact dU.grow (.inl (.inl au)) (g2 _)
   ·refine MJ c1 ?_
    refine⟨⟨_,_,rfl⟩,s5,vs,hv,?_⟩
    rw[take_snoc hpi,List.filter_append,List.filter_cons_of_neg (by simpa using c1),List.filter_nil,PH]
    exact hpv
  ·rintro σ' H' ⟨_,s5,vs,hv,hpv⟩
   rw[hw.len,take_all] at hpv
   refine⟨⟨_,hv⟩,D',vs,rfl,.inl ⟨.inl (.inl hv),λt ht=>?_⟩⟩
   have sA:aw H H':=(s1.trans s4).trans s5
   refine k _ t vs (sA.put (sA.free ht)) (sA.free ht) au ?_
   have e:((OM.gG n).filter λp=>M p.1.toNat p.2.toNat)=OM.cu n (OM.Tr (OM.Mem ps)):=by
    unfold OM.cu
    refine List.filter_congr λp hp=>?_
    obtain⟨u,v,rfl,hu,hv⟩:=uM gw hp
    have:=TT.all wn Th u v
    simp only[Oa]
    rw[Ox,this]
    simp
   rw[e] at hpv
   exact hpv.grow (iA.new ht)
end
end RO
namespace RO
open PySem L2 RM
section
variable {P:Program}{w:World}{K:Frag}{mg:Str->Option Value}{base:Heap}{ca:Str->Addr}
def Ni (F:gj P w K mg base ye k f fd ps sp):gj P w K mg base (me P w) k f fd ps sp:=
 ⟨F.len,λA outer s H args us vs Q E hr he hb hv hs=>Pz (F.run A outer s H args us vs Q E hr he hb hv hs) λr s' h=>by
  cases r with
  |ok x=>cases x <;> exact h
  |error e=>exact h.elim⟩
def yT (s:aw G H)(h:aW K H ws ps):aW K (ml G H) ws ps:=Paired.mapP h λv p ⟨a,e,q⟩=>⟨a,e,qQ s q⟩
def qt (h:cV ds≠.bad):∃(n:Nat) (d:D) (ps:List Pr),ds= [.int n,d]/\j9 d=some (ps.map aY)/\1<=n/\n<=8/\OM.Wn n ps/\cV ds=.ok (.tuple ((OM.cu n (OM.Tr (OM.Mem ps))).map aY)) false:=by
 unfold cV at h
 split at h
 ·rename_i n d
  cases q:j9 d with
  |none=>rw[q] at h;exact absurd rfl h
  |some es=>
   rw[q] at h
   dsimp only at h
   cases q2:gx es with
   |none=>rw[q2] at h;exact absurd rfl h
   |some ps=>
    rw[q2] at h
    dsimp only at h
    by_cases c:1<=n/\n<=8/\OM.Wn n.toNat ps
    ·have e:((n.toNat:Nat):Int)=n:=by omega
     refine⟨n.toNat,d,ps,by rw[e],by rw[q,kO q2],by omega,by omega,c.2.2,?_⟩
     unfold cV
     dsimp only
     rw[q]
     dsimp only
     rw[q2]
     dsimp only
     rw[NG c]
    ·rw[NL c] at h;exact absurd rfl h
 ·exact absurd rfl h
def xW (F:jJ K mg "closed" mj ["many","pairs"] f fd)(E:jJ K mg "every_pair" jy ["many"] g gd)(B:j4 mg):cK P w K mg base ca "closed" ["many","pairs"] 3 cV:=by
 refine⟨⟨f,fd,F.mg,F.F.kp,F.b,((Ni (AW F E (DM E B) B)).mono (by decide)).imp ?_⟩,λds h=>?_⟩
 ·rintro vs H Q X ⟨G,ds,s,hl,r,h⟩
  have hb:cV ds≠.bad:=λz=>by rw[z] at h;exact h
  obtain⟨n,d,ps,rfl,hd,h1,h8,wn,e⟩:=qt hb
  rw[e] at h
  cases r with
  |cons r1 r=>
   cases r with
   |cons r2 r=>
    cases r
    cases r1
    obtain⟨a,xs,rfl,hq,hr⟩:=(lW.seq (B:=none) (G:=G) (H:=G) (.inl r2) hd (aw.refl _))
    refine⟨n,a,xs,ps,rfl,h1,h8,hq.elim (λq=>.inl (s.seq q)) (λq=>.inr (q.grow s.grow)),(hr.pairs).grow s.grow,wn,λH' t ws hh ht ht' hp=>?_⟩
    have s2:=s.trans hh
    refine h (.ref t) (ml G H') H' hh sd (vS s2) (λb m hb=>by rw[Ab hh m];exact hb) ?_
    exact .tup (qQ s2 (.inl (.inl ht'))) (aW.rps (yT s2 hp))
 ·obtain⟨n,d,ps,rfl,_⟩:=qt h
  rfl
end
end RO
namespace RO
open PySem L2
def strsOf:List Expr->Option (List Str)
 | []=>some []
 | .Constant (.str i) _ _ :: es=>(strsOf es).map λr=>i :: r
 |_=>none
theorem za :∀{es:List Expr} {ns:List Str},strsOf es=some ns->PA X es λ_ H Q=>Q (ns.map V.str) H
 | [],ns,h=>by
  have e:ns= []:=by unfold strsOf at h;exact (Option.some.inj h).symm
  subst e
  exact aN
 |e :: es,ns,h=>by
  unfold strsOf at h
  split at h
  ·cases ‹_ :: _= []›
  ·next i a b es' heq=>
   cases heq
   cases q:strsOf es with
   |none=>rw[q] at h;cases h
   |some r=>
    rw[q] at h
    have e2:i :: r=ns:=Option.some.inj h
    subst e2
    exact ak qI (za q) rfl
  ·cases h
open RM (jR)
structure Er (mg:Str->Option Value)(R c0 c1 c2 c3 c4 c5 c6 c7 c8 c9 c10 c11:Addr):Prop where
 mR:mg "RankError"=some (.ref R)
 m0:mg "NoOrder"=some (.ref c0)
 m1:mg "NoMany"=some (.ref c1)
 m2:mg "NoPairs"=some (.ref c2)
 m3:mg "Ring"=some (.ref c3)
 m4:mg "NoThing"=some (.ref c4)
 m5:mg "NoRow"=some (.ref c5)
 m6:mg "NoRows"=some (.ref c6)
 m7:mg "NoNumber"=some (.ref c7)
 m8:mg "NoChain"=some (.ref c8)
 m9:mg "NoTurns"=some (.ref c9)
 m10:mg "NoPoints"=some (.ref c10)
 m11:mg "NoText"=some (.ref c11)
structure Cg (K:Frag)(D R c0 c1 c2 c3 c4 c5 c6 c7 c8 c9 c10 c11:Addr)(j:Nat):Prop where
 ex:vV K D
 R:PySem.W.kitOne K (.ref D) (.ref R)=some true
 V:PySem.W.kitOne K (.ref D) (.type "ValueError")=some true
 k0:PySem.W.kitOne K (.ref D) (.ref c0)=some (decide (0=j))
 k1:PySem.W.kitOne K (.ref D) (.ref c1)=some (decide (1=j))
 k2:PySem.W.kitOne K (.ref D) (.ref c2)=some (decide (2=j))
 k3:PySem.W.kitOne K (.ref D) (.ref c3)=some (decide (3=j))
 k4:PySem.W.kitOne K (.ref D) (.ref c4)=some (decide (4=j))
 k5:PySem.W.kitOne K (.ref D) (.ref c5)=some (decide (5=j))
 k6:PySem.W.kitOne K (.ref D) (.ref c6)=some (decide (6=j))
 k7:PySem.W.kitOne K (.ref D) (.ref c7)=some (decide (7=j))
 k8:PySem.W.kitOne K (.ref D) (.ref c8)=some (decide (8=j))
 k9:PySem.W.kitOne K (.ref D) (.ref c9)=some (decide (9=j))
 k10:PySem.W.kitOne K (.ref D) (.ref c10)=some (decide (10=j))
 k11:PySem.W.kitOne K (.ref D) (.ref c11)=some (decide (11=j))
 j12:j < 12
section
variable {P:Program}{w:World}{K:Frag}{mg:Str->Option Value}{base:Heap}
def y7 (K:Frag)(R c0 c1 c2 c3 c4 c5 c6 c7 c8 c9 c10 c11:Addr):Sp:=λvs H Q _=>∃(ea D:Addr) (j:Nat),vs= [.ref ea]/\H ea=some (.ext (ja ea (.ref D)))/\Cg K D R c0 c1 c2 c3 c4 c5 c6 c7 c8 c9 c10 c11 j/\∀H',aw H H'->Q (.str (jR.getD j "")) H'
def mJ:aK ["e","found","words"] ["e"] (av kI):=⟨rfl,rfl,rfl,by decide +kernel,rfl,by decide +kernel,by decide +kernel⟩
def vK:∃(es:List Expr) (p1 p2 p3:Pos),bX kI=(bX kI).take 5 ++ .Assign [.Name "words" p1] (.List es p2) p3 :: (bX kI).drop 6/\strsOf es=some jR:=⟨_,_,_,_,rfl,by kernel_rfl⟩
def BV (j:Nat):List Bool:=[decide (0=j),decide (1=j),decide (2=j),decide (3=j),decide (4=j),decide (5=j),decide (6=j),decide (7=j),decide (8=j),decide (9=j),decide (10=j),decide (11=j)]
def BW:∀j,j < 12->(BV j).count true=1:=by decide +kernel
def Jv:∀j,j < 12->(BV j).idxOf true=j:=by decide +kernel
def IF:∀j,j < 12->true∈BV j:=by decide +kernel
def Cn (j:Nat)(h:j < 12):i4 (jR.map V.str) (j:Int)=some (.str (jR.getD j "")):=by
 have:j=0\/j=1\/j=2\/j=3\/j=4\/j=5\/j=6\/j=7\/j=8\/j=9\/j=10\/j=11:=by omega
 rcases this with rfl |rfl |rfl |rfl |rfl |rfl |rfl |rfl |rfl |rfl |rfl |rfl <;> rfl
def fu (h:n<=100):n<=sizeLine:=by rw[N8];omega
set_option maxHeartbeats 2000000 in
theorem C3 {f R c0 c1 c2 c3 c4 c5 c6 c7 c8 c9 c10 c11:Addr}(F:Fn K mg "_law_marks" kI ["e"] f fd)(e:Er mg R c0 c1 c2 c3 c4 c5 c6 c7 c8 c9 c10 c11)(B:Bt mg)(hv:mg "ValueError"=none):r6 P w K mg base ye 1 f fd ["e"] (y7 K R c0 c1 c2 c3 c4 c5 c6 c7 c8 c9 c10 c11):=by
 refine F.F.okH mJ (λvs H Q E h=>?_) (λcdv A outer s H vs Q E hr h=>?_)
 ·obtain⟨ea,D,j,rfl,_⟩:=h;rfl
 ·obtain⟨ea,D,j,rfl,hx,kt,k⟩:=h
  obtain⟨es,p1,p2,p3,hb,hes⟩:=vK
  rw[hb]
  refine⟨_,cz (zO (PW.pt (Hl (xh (qG (bu bL rfl B.isinstance (by decide +kernel) (ak (pv 0) (ak (cO rfl e.mR (show RelV (.ref R) _ from rfl)) aN))) λ_=>rfl)) (Es (xh (qG (bu bL rfl B.isinstance (by decide +kernel) (ak (pv 0) (ak (zr rfl hv (by decide +kernel) (show RelV (.ty "ValueError") _ from rfl)) aN))) λ_=>rfl))))) (dE (i0 qI)) o7)
   (cz (jt (i:=1) mJ.nd rfl (Or.inl rfl) (nU (ak (bu bL rfl B.isinstance (by decide +kernel) (ak (pv 0) (ak (cO rfl e.m0 (show RelV (.ref c0) _ from rfl)) aN))) (ak (bu bL rfl B.isinstance (by decide +kernel) (ak (pv 0) (ak (cO rfl e.m1 (show RelV (.ref c1) _ from rfl)) aN))) (ak (bu bL rfl B.isinstance (by decide +kernel) (ak (pv 0) (ak (cO rfl e.m2 (show RelV (.ref c2) _ from rfl)) aN))) (ak (bu bL rfl B.isinstance (by decide +kernel) (ak (pv 0) (ak (cO rfl e.m3 (show RelV (.ref c3) _ from rfl)) aN))) aN))))))
   (cz (jt (i:=1) mJ.nd rfl (Or.inl rfl) (oB CU (pv 1) (nU (ak (bu bL rfl B.isinstance (by decide +kernel) (ak (pv 0) (ak (cO rfl e.m4 (show RelV (.ref c4) _ from rfl)) aN))) (ak (bu bL rfl B.isinstance (by decide +kernel) (ak (pv 0) (ak (cO rfl e.m5 (show RelV (.ref c5) _ from rfl)) aN))) (ak (bu bL rfl B.isinstance (by decide +kernel) (ak (pv 0) (ak (cO rfl e.m6 (show RelV (.ref c6) _ from rfl)) aN))) (ak (bu bL rfl B.isinstance (by decide +kernel) (ak (pv 0) (ak (cO rfl e.m7 (show RelV (.ref c7) _ from rfl)) aN))) aN)))))))
   (cz (jt (i:=1) mJ.nd rfl (Or.inl rfl) (oB CU (pv 1) (nU (ak (bu bL rfl B.isinstance (by decide +kernel) (ak (pv 0) (ak (cO rfl e.m8 (show RelV (.ref c8) _ from rfl)) aN))) (ak (bu bL rfl B.isinstance (by decide +kernel) (ak (pv 0) (ak (cO rfl e.m9 (show RelV (.ref c9) _ from rfl)) aN))) (ak (bu bL rfl B.isinstance (by decide +kernel) (ak (pv 0) (ak (cO rfl e.m10 (show RelV (.ref c10) _ from rfl)) aN))) (ak (bu bL rfl B.isinstance (by decide +kernel) (ak (pv 0) (ak (cO rfl e.m11 (show RelV (.ref c11) _ from rfl)) aN))) aN)))))))
   (cz (zO (zw Kb (wK Pw PySem.F.slot_list_count PySem.F.type_list_count AO (pv 1) (ak sO aN)) pY (bw _)) (dE (i0 qI)) o7)
   (cz (jt (i:=2) mJ.nd rfl (Or.inl rfl) (nU (za hes)))
   (dE (i0 (ku fG (pv 2) (wK Pw PySem.F.slot_list_index PySem.F.type_list_index A5 (pv 1) (ak sO aN)) (λ_ _=>rfl))))))))),?_⟩
  refine⟨_,rfl,ea,D,_,_,true,rfl,λu r=>r,hx,kt.ex,kt.R,_,rfl,qL ?_⟩
  refine⟨_,rfl,ea,D,_,_,true,rfl,λu r=>r,hx,kt.ex,kt.V,_,rfl,qL ?_⟩
  refine⟨_,rfl,ea,D,_,_,_,rfl,λu r=>r,hx,kt.ex,kt.k0,_,rfl,ea,D,_,_,_,rfl,λu r=>r,hx,kt.ex,kt.k1,_,rfl,ea,D,_,_,_,rfl,λu r=>r,hx,kt.ex,kt.k2,_,rfl,ea,D,_,_,_,rfl,λu r=>r,hx,kt.ex,kt.k3,fu (by show 4<=100;omega),λq1 h1=>?_⟩
  have s1:=aw.new (o:=.lst [.bl (decide (0=j)),.bl (decide (1=j)),.bl (decide (2=j)),.bl (decide (3=j))]) h1
  refine⟨_,rfl,_,rfl,ea,D,_,_,_,rfl,λu r=>r,s1 _ _ hx,kt.ex,kt.k4,_,rfl,ea,D,_,_,_,rfl,λu r=>r,s1 _ _ hx,kt.ex,kt.k5,_,rfl,ea,D,_,_,_,rfl,λu r=>r,s1 _ _ hx,kt.ex,kt.k6,_,rfl,ea,D,_,_,_,rfl,λu r=>r,s1 _ _ hx,kt.ex,kt.k7,fu (by show 4<=100;omega),λq2 h2=>?_⟩
  refine⟨q1,q2,_,_,rfl,rfl,aw.new h2 _ _ au,au,fu (by show 8<=100;omega),λq3 h3=>?_⟩
  have s2:=s1.trans (aw.new (o:=.lst [.bl (decide (4=j)),.bl (decide (5=j)),.bl (decide (6=j)),.bl (decide (7=j))]) h2)
  have s3:=s2.trans (aw.new (o:=.lst ([.bl (decide (0=j)),.bl (decide (1=j)),.bl (decide (2=j)),.bl (decide (3=j))] ++ [.bl (decide (4=j)),.bl (decide (5=j)),.bl (decide (6=j)),.bl (decide (7=j))])) h3)
  refine⟨_,rfl,_,rfl,ea,D,_,_,_,rfl,λu r=>r,s3 _ _ hx,kt.ex,kt.k8,_,rfl,ea,D,_,_,_,rfl,λu r=>r,s3 _ _ hx,kt.ex,kt.k9,_,rfl,ea,D,_,_,_,rfl,λu r=>r,s3 _ _ hx,kt.ex,kt.k10,_,rfl,ea,D,_,_,_,rfl,λu r=>r,s3 _ _ hx,kt.ex,kt.k11,fu (by show 4<=100;omega),λq4 h4=>?_⟩
  refine⟨q3,q4,_,_,rfl,rfl,aw.new h4 _ _ au,au,fu (by show 12<=100;omega),λq5 h5=>?_⟩
  have s5:=(s3.trans (aw.new (o:=.lst [.bl (decide (8=j)),.bl (decide (9=j)),.bl (decide (10=j)),.bl (decide (11=j))]) h4)).trans (aw.new (o:=.lst ([.bl (decide (0=j)),.bl (decide (1=j)),.bl (decide (2=j)),.bl (decide (3=j))] ++ [.bl (decide (4=j)),.bl (decide (5=j)),.bl (decide (6=j)),.bl (decide (7=j))] ++ [.bl (decide (8=j)),.bl (decide (9=j)),.bl (decide (10=j)),.bl (decide (11=j))])) h5)
  refine⟨_,rfl,.inl ⟨rfl,_,.inl (.inl au)⟩,q5,BV j,true,rfl,rfl,.inl (.inl au),?_⟩
  rw[BW j kt.j12]
  refine⟨rfl,_,rfl,qL ?_⟩
  refine⟨fu (by show 12<=100;decide),λq6 h6=>?_⟩
  have n56:q5≠q6:=aL au h6
  refine⟨_,rfl,_,rfl,.inl ⟨rfl,_,.inl (.inl ((aB n56).trans au))⟩,q5,BV j,true,rfl,rfl,.inl (.inl ((aB n56).trans au)),IF j kt.j12,?_⟩
  rw[Jv j kt.j12]
  exact⟨q6,_,_,_,rfl,rfl,.inl (.inl au),Cn j kt.j12,k _ (s5.trans (aw.new h6))⟩
end
def Ip {P:Program}{w:World}{K:Frag}{mg:Str->Option Value}{base:Heap}{ca:Str->Addr}{f R c0 c1 c2 c3 c4 c5 c6 c7 c8 c9 c10 c11:Addr}{tbl:List (Str×Nat)}(F:jJ K mg "_law_marks" kI ["e"] f fd)(e:Er mg R c0 c1 c2 c3 c4 c5 c6 c7 c8 c9 c10 c11)(B:j4 mg)(hv:mg "ValueError"=none)
  (ha:∀c j,tbl.lookup c=some j->Mt K (.ref (ca c)) R/\Cg K (ca c) R c0 c1 c2 c3 c4 c5 c6 c7 c8 c9 c10 c11 j):Fc P w K mg base ca "RankError" "_law_marks" (RM.vp tbl):=by
 have O:r6 P w K mg base ye 1 f fd ["e"] (y7 K R c0 c1 c2 c3 c4 c5 c6 c7 c8 c9 c10 c11):=C3 F e B hv
 refine⟨f,R,fd,λD x=>∃j,Cg K D R c0 c1 c2 c3 c4 c5 c6 c7 c8 c9 c10 c11 j/\x=jR.getD j "",?_,F.mg,F.F.kp,F.b,e.mR,λc z h=>?_⟩
 ·exact⟨λvs H Q E q=>by obtain⟨ea,D,x,rfl,_⟩:=q;rfl,λA outer s H args us vs Q E hr he hb hv' hs=>O.run A outer s H args us vs Q E hr he hb hv' (by
   obtain⟨ea,D,x,rfl,hx,⟨j,kj,rfl⟩,q⟩:=hs
   exact⟨ea,D,j,rfl,hx,kj,q⟩)⟩
 ·unfold RM.vp at h
  cases q:tbl.lookup c with
  |none=>rw[q] at h;cases h
  |some j=>
   rw[q] at h
   cases h
   exact⟨(ha c j q).1,j,(ha c j q).2,rfl⟩
end RO
namespace HD
open PySem PySem.W
noncomputable abbrev CQ:=@PySem.W.Fast.tw10156331382660048174
noncomputable abbrev HV:=@PySem.W.Fast.tw11892475500146522536
noncomputable abbrev MA:=@PySem.W.Fast.tw6613529449190102663
noncomputable abbrev JG:=@PySem.W.Fast.tw14364793385576792824
noncomputable abbrev GH:=@PySem.W.Fast.tw17154629097778926822
noncomputable abbrev Eo:=@PySem.W.Fast.tw12822647523644345616
noncomputable def Dm (p:Program):Thread:=
 ⟨do
  let code <-GH p.main
  let frame <-Eo code mainNs mainNs
  let _ <-run (.body (behindTheImports p) {scope:=p.main.scope,locals:=mainNs,globals:=mainNs,cells:=[],code,frame:=some frame})
  ret .none,
  .builtin "claim.caller" {},default,[]⟩
def C0 (p:Program):topStub p=Dm p:=by
 unfold topStub Dm GH Eo
 rw[<-PySem.W.Fast.te17154629097778926822,<-PySem.W.Fast.te12822647523644345616]
noncomputable def pk (p:Program)(w:World)(n₀:Nat)(ann:Option Value):Nat->SharedT->Thread->Option SharedT
 | 0,_,_=>none
 |n + 1,s,t=>match through t with
  |true=>some s
  |false=>match MA n₀ ann t with
   |false=>none
   |true=>match CQ (HV JG) p w s t with
    |some (s',t')=>pk p w n₀ ann n s' t'
    |none=>none
theorem sU :∀{n:Nat} {s s':SharedT} {t:Thread},pk p w n₀ ann n s t=some s'->topRun treeTable p w n₀ ann n s.abs t=some s'.abs
 | 0,_,_,_,h=>by cases h
 |n + 1,s,s',t,h=>by
  unfold pk at h
  unfold topRun
  cases ht:through t with
  |true=>rw[ht] at h;cases h;rfl
  |false=>
   rw[ht] at h
   have hq:MA n₀ ann t=stepOk n₀ ann t:=by unfold MA;rw[<-PySem.W.Fast.te6613529449190102663]
   dsimp only at h
   rw[hq] at h
   cases hk:stepOk n₀ ann t with
   |false=>rw[hk] at h;cases h
   |true=>
    rw[hk] at h
    have hq:CQ (HV JG) p w s t=stepT (denote treeTable) p w s t:=by unfold CQ HV JG;rw[<-PySem.W.Fast.te10156331382660048174,<-PySem.W.Fast.te11892475500146522536,<-PySem.W.Fast.te14364793385576792824]
    dsimp only at h
    rw[hq] at h
    cases hs:stepT (denote treeTable) p w s t with
    |none=>rw[hs] at h;cases h
    |some r=>obtain⟨s₂,t₂⟩:=r;rw[hs] at h;rw[stepT_spec hs];exact sU h
def treeOf (l:List Obj):BT:=(l.foldl (λ(x:BT×Nat) o=>(x.1.ins x.2 o,x.2 + 1)) (.nil,0)).1
noncomputable def Cv (P:Params):BT:=treeOf (boot_heap P).objs.toList
abbrev wA:Nat:=11
abbrev DN:Life:={}
def boot_abs (P:Params):absHeap (Cv P) wA DN=boot_heap P:=by kernel_rfl
def AS (w:World):((boot_heap w.params).isNs mainGlobals && (Array.mk ([]:List GenState)).size == 0,(boot_heap w.params).objs.size,(boot_heap w.params).nsMap mainGlobals "__annotations__")=(true,wA,some (.ref 6)):=by kernel_rfl
noncomputable def DF (w:World)(os:OsState):SharedT:=⟨Cv w.params,wA,DN,Array.mk [],boot_drawn,boot_toks,os⟩
noncomputable def Hf (p:Program)(w:World)(s:Shared):Bool:=staticsOk (importedModules p.main.body) (boot_heap w.params) s.heap && namesBound p s.heap && gensDone s && laidKept (boot_heap w.params) s.heap
def FY {p q:Program}{loose:List Str}{Xt:Shared->Bool}{α:Type}{Yf:Shared->α}{Ya:World->α}{N:Nat}{g0:Bool}
  (e:opening p=plainProg p.main.scope.names) (hN:Nat.ble 600 N=true) (f:∀s,fenceModules? p s=some s)
  (run:∀(w:World) (os:OsState),(pk p w wA (some (.ref 6)) N (DF w os) (Dm p)).map (λs=>(Hf p w s.abs,openSeen q loose (importedModules p.main.body) Xt g0 s.abs,Yf s.abs))=some (true,openGood q loose,Ya w)):LeftO p q loose Xt Yf Ya N g0:=λw=>by
 obtain⟨⟨h,gs,d,k,os⟩,e,e'⟩:=Option.map_eq_some_iff.mp (boot_open e hN f w)
 obtain⟨rfl,rfl,rfl,rfl⟩:h=boot_heap w.params/\gs=Array.mk []/\d=boot_drawn/\k=boot_toks:=by simpa using e'
 obtain⟨z1,z2,z3⟩:_/\_/\_:=by simpa only [Prod.mk.injEq] using AS w
 obtain⟨s',r,ls⟩:=Option.map_eq_some_iff.mp (run w os)
 obtain⟨l1,l2,l3⟩:_/\_/\_:=by simpa only [Prod.mk.injEq] using ls
 have r:=sU r
 have ha:(DF w os).abs=⟨boot_heap w.params,Array.mk [],boot_drawn,boot_toks,os⟩:=by
  show Shared.mk (absHeap (Cv w.params) wA DN) _ _ _ _=_
  rw[boot_abs]
  rfl
 rw[ha,<-C0] at r
 have t:topFrom treeTable p w N ⟨boot_heap w.params,Array.mk [],boot_drawn,boot_toks,os⟩=some s'.abs:=by
  unfold topFrom
  dsimp only
  rw[z1,z2,z3,r]
  show (match Hf p w s'.abs with |true=>_ |false=>_)=_
  rw[l1]
 unfold openEnds
 rw[e]
 show (topFrom treeTable p w N _).map _=_
 rw[t]
 exact congrArg some (Prod.ext l2 l3)
end HD
section
namespace RO
open PySem L2 RM
def zF (K:Frag):Sp:=λvs H Q _=>∃(a:Addr) (ns:List Int),vs= [.ref a]/\fj K H a (ns.map V.int)/\∀H',aw H H'->Q (.bl true) H'
def Ih {K:Frag}{ca:Str->Addr}(vs:List V)(H:Hp)(Q:VK)(E:XK)(h:zF K vs H Q E):Ez K ca 1 IL vs H Q E:=by
 obtain⟨a,ns,rfl,hS,q⟩:=h
 refine⟨H,[cg ns],aw.refl _,rfl,.cons (.scr hS) .nil,?_⟩
 rw[JS]
 intro v G' H' s1 s2 s3 s4 fv
 have fv:Rp K G' v (.bool true):=fv
 cases fv
 exact q H' s1
def tP:bc "_law_marks" kI ["e"]:=λ_ _ _ _ _ _=>xA λ_=>rfl
def yb:bc "is_whole" RQ.jP ["thing"]:=λ_ _ _ _ _ _=>xA λ_=>rfl
def xQ:bc "is_below" RQ.jK ["thing","bound"]:=λ_ _ _ _ _ _=>ln2 λ_ _=>rfl
def Bw:bc "is_many" RQ.kS ["thing"]:=λ_ _ _ _ _ _=>xA λ_=>rfl
def BD:bc "is_pair" RQ.kN ["thing","many"]:=λ_ _ _ _ _ _=>ln2 λ_ _=>rfl
def Ah:bc "is_line" RQ.kX ["thing","many"]:=λ_ _ _ _ _ _=>ln2 λ_ _=>rfl
def uH:bc "every_pair" RQ.eH ["many"]:=λ_ _ _ _ _ _=>xA λ_=>rfl
def DJ:bc "closed" mj ["many","pairs"]:=λ_ _ _ _ _ _=>ln2 λ_ _=>rfl
def x9:bc "has_ring" RQ.jA ["pairs"]:=λ_ _ _ _ _ _=>xA λ_=>rfl
def yt:bc "is_order" RQ.jX ["thing"]:=λ_ _ _ _ _ _=>xA λ_=>rfl
def uz:bc "need_order" RQ.gL ["thing"]:=λ_ _ _ _ _ _=>xA λ_=>rfl
def Ds:bc "places" RQ.my ["row"]:=λ_ _ _ _ _ _=>xA λ_=>rfl
def rH:bc "keeps_order" RQ.fR ["thing","order"]:=λ_ _ _ _ _ _=>ln2 λ_ _=>rfl
def uC:bc "with_thing" RQ.gH ["placed","thing"]:=λ_ _ _ _ _ _=>ln2 λ_ _=>rfl
def rN:bc "free_things" RQ.fJ ["masks","placed"]:=λ_ _ _ _ _ _=>ln2 λ_ _=>rfl
def Ae:bc "ways_on" RQ.kT ["masks"]:=λ_ _ _ _ _ _=>xA λ_=>rfl
def rn:bc "masks_ahead" RQ.fP ["order"]:=λ_ _ _ _ _ _=>xA λ_=>rfl
def wb:bc "rows_many" RQ.iF ["order"]:=λ_ _ _ _ _ _=>xA λ_=>rfl
def D4:bc "choose" RQ.ni ["masks","ways","placed","left"]:=λ_ _ _ _ _ _=>Nr λ_ _ _ _=>rfl
def AR:bc "nth_row" RQ.lb ["order","number"]:=λ_ _ _ _ _ _=>ln2 λ_ _=>rfl
def Ax:bc "rank_of" RQ.lj ["order","row"]:=λ_ _ _ _ _ _=>ln2 λ_ _=>rfl
def vd:bc "_law_cell" RQ.iL ["script","k"]:=λ_ _ _ _ _ _=>ln2 λ_ _=>rfl
def xF:bc "_law_mix" RQ.fC ["cell","k"]:=λ_ _ _ _ _ _=>ln2 λ_ _=>rfl
def ya:bc "_law_box" RQ.jv ["script","k"]:=λ_ _ _ _ _ _=>ln2 λ_ _=>rfl
def wW:bc "_law_take" RQ.iH ["box","many"]:=λ_ _ _ _ _ _=>ln2 λ_ _=>rfl
def tx:bc "_law_whole" RQ.gJ ["thing"]:=λ_ _ _ _ _ _=>xA λ_=>rfl
def yg:bc "_law_odd" RQ.jY ["box"]:=λ_ _ _ _ _ _=>xA λ_=>rfl
def oV:bc "_law_mixed_up" RQ.dF ["box","some"]:=λ_ _ _ _ _ _=>ln2 λ_ _=>rfl
def qW:bc "_law_closed" RQ.fM ["pairs"]:=λ_ _ _ _ _ _=>xA λ_=>rfl
def tS:bc "_law_order" RQ.gN ["box","most"]:=λ_ _ _ _ _ _=>ln2 λ_ _=>rfl
def wB:bc "_law_fits" RQ.iI ["order","row"]:=λ_ _ _ _ _ _=>ln2 λ_ _=>rfl
def yw:bc "_law_row" RQ.jU ["box","order"]:=λ_ _ _ _ _ _=>ln2 λ_ _=>rfl
def rE:bc "_law_is_row" RQ.fH ["thing","many"]:=λ_ _ _ _ _ _=>ln2 λ_ _=>rfl
def wm:bc "_law_said" RQ.iC ["kind","order","thing"]:=λ_ _ _ _ _ _=>Nw λ_ _ _=>rfl
def all_mk {l:PySem.W.OpenLaw}{w:World}{K:Frag}{h:Heap}{mg:Str->Option Value}{fa f35 R q0 q1 q2 q3 q4 q5 q6 q7 q8 q9 q10 q11:Addr}(X:K.In h)(G:h.Ns mainGlobals mg)(hfa:mg "law"=some (.ref fa))
  {od35 an35:Option Addr} {sl35:Array (Option Value)} {oc35 kV35 dc35 pm35 cd35 ct35:Value} {tMOST_THINGS:Tok}
  (F1:Fo K mg "_law_marks" kI ["e"])
  (F2:Fo K mg "is_whole" RQ.jP ["thing"])
  (F3:Fo K mg "is_below" RQ.jK ["thing","bound"])
  (F4:Fo K mg "is_many" RQ.kS ["thing"])
  (F5:Fo K mg "is_pair" RQ.kN ["thing","many"])
  (F6:Fo K mg "is_line" RQ.kX ["thing","many"])
  (F7:Fo K mg "every_pair" RQ.eH ["many"])
  (F8:Fo K mg "closed" mj ["many","pairs"])
  (F9:Fo K mg "has_ring" RQ.jA ["pairs"])
  (F10:Fo K mg "is_order" RQ.jX ["thing"])
  (F11:Fo K mg "need_order" RQ.gL ["thing"])
  (F12:Fo K mg "places" RQ.my ["row"])
  (F13:Fo K mg "keeps_order" RQ.fR ["thing","order"])
  (F14:Fo K mg "with_thing" RQ.gH ["placed","thing"])
  (F15:Fo K mg "free_things" RQ.fJ ["masks","placed"])
  (F16:Fo K mg "ways_on" RQ.kT ["masks"])
  (F17:Fo K mg "masks_ahead" RQ.fP ["order"])
  (F18:Fo K mg "rows_many" RQ.iF ["order"])
  (F19:Fo K mg "choose" RQ.ni ["masks","ways","placed","left"])
  (F20:Fo K mg "nth_row" RQ.lb ["order","number"])
  (F21:Fo K mg "rank_of" RQ.lj ["order","row"])
  (F22:Fo K mg "_law_cell" RQ.iL ["script","k"])
  (F23:Fo K mg "_law_mix" RQ.fC ["cell","k"])
  (F24:Fo K mg "_law_box" RQ.jv ["script","k"])
  (F25:Fo K mg "_law_take" RQ.iH ["box","many"])
  (F26:Fo K mg "_law_whole" RQ.gJ ["thing"])
  (F27:Fo K mg "_law_odd" RQ.jY ["box"])
  (F28:Fo K mg "_law_mixed_up" RQ.dF ["box","some"])
  (F29:Fo K mg "_law_closed" RQ.fM ["pairs"])
  (F30:Fo K mg "_law_order" RQ.gN ["box","most"])
  (F31:Fo K mg "_law_fits" RQ.iI ["order","row"])
  (F32:Fo K mg "_law_row" RQ.jU ["box","order"])
  (F33:Fo K mg "_law_is_row" RQ.fH ["thing","many"])
  (F34:Fo K mg "_law_said" RQ.iC ["kind","order","thing"])
  (a35:PySem.W.nsIn K mainGlobals "law"=some (some (.ref f35))) (l35:K.lookup f35=some ⟨oc35,od35,.func (PySem.W.fnOf "law" "law" (iJ RQ.lD) (bX RQ.lD) (av RQ.lD) .none kV35 dc35 pm35 an35 cd35 ct35),sl35⟩) (c35:PySem.W.codeIn K cd35 "law"=true) (k35:PySem.W.keepIn K (.ref f35)=true)
  (zB:L4 K=true)
  (yMOST_THINGS:PySem.W.nsIn K mainGlobals "MOST_THINGS"=some (some (.int 8 tMOST_THINGS)))
  (mR:PySem.W.nsIn K mainGlobals "RankError"=some (some (.ref R)))
  (n0:PySem.W.nsIn K mainGlobals "NoOrder"=some (some (.ref q0)))
  (n1:PySem.W.nsIn K mainGlobals "NoMany"=some (some (.ref q1)))
  (n2:PySem.W.nsIn K mainGlobals "NoPairs"=some (some (.ref q2)))
  (n3:PySem.W.nsIn K mainGlobals "Ring"=some (some (.ref q3)))
  (n4:PySem.W.nsIn K mainGlobals "NoThing"=some (some (.ref q4)))
  (n5:PySem.W.nsIn K mainGlobals "NoRow"=some (some (.ref q5)))
  (n6:PySem.W.nsIn K mainGlobals "NoRows"=some (some (.ref q6)))
  (n7:PySem.W.nsIn K mainGlobals "NoNumber"=some (some (.ref q7)))
  (n8:PySem.W.nsIn K mainGlobals "NoChain"=some (some (.ref q8)))
  (n9:PySem.W.nsIn K mainGlobals "NoTurns"=some (some (.ref q9)))
  (n10:PySem.W.nsIn K mainGlobals "NoPoints"=some (some (.ref q10)))
  (n11:PySem.W.nsIn K mainGlobals "NoText"=some (some (.ref q11)))
  (zV:PySem.W.nsIn K mainGlobals "ValueError"=some none)
  (eR:PySem.W.excIn K R [.type "ValueError",.type "Exception",.type "BaseException",.type "object"] "ValueError.__new__"=true)
  (e0:PySem.W.excIn K q7 [.type "ValueError",.type "Exception",.type "BaseException",.type "object"] "ValueError.__new__"=true)
  (e1:PySem.W.excIn K q0 [.type "ValueError",.type "Exception",.type "BaseException",.type "object"] "ValueError.__new__"=true)
  (e2:PySem.W.excIn K q5 [.type "ValueError",.type "Exception",.type "BaseException",.type "object"] "ValueError.__new__"=true)
  (up5:(L2.mroIn K q5).contains (.ref R)=true)
  (g1_5:(PySem.W.clsIn K q5).isSome=true)
  (g2_5:PySem.W.findIn K (.ref q5) "__getattribute__"=some (some (.builtin "BaseException.__getattribute__")))
  (g3_5:PySem.W.findIn K (.ref q5) "__getattr__"=some none)
  (g4_5:PySem.W.findIn K (.ref q5) "__class__"=some (some (.builtin "object.__class__")))
  (g7_5:PySem.W.mroIn K q5 (.type "object")=some true)
  (g8_5:PySem.W.mroIn K q5 (.type "BaseException")=some true)
  (kR5:PySem.W.kitOne K (.ref q5) (.ref R)=some true)
  (kV5:PySem.W.kitOne K (.ref q5) (.type "ValueError")=some true)
  (kt5_0:PySem.W.kitOne K (.ref q5) (.ref q0)=some false)
  (kt5_1:PySem.W.kitOne K (.ref q5) (.ref q1)=some false)
  (kt5_2:PySem.W.kitOne K (.ref q5) (.ref q2)=some false)
  (kt5_3:PySem.W.kitOne K (.ref q5) (.ref q3)=some false)
  (kt5_4:PySem.W.kitOne K (.ref q5) (.ref q4)=some false)
  (kt5_5:PySem.W.kitOne K (.ref q5) (.ref q5)=some true)
  (kt5_6:PySem.W.kitOne K (.ref q5) (.ref q6)=some false)
  (kt5_7:PySem.W.kitOne K (.ref q5) (.ref q7)=some false)
  (kt5_8:PySem.W.kitOne K (.ref q5) (.ref q8)=some false)
  (kt5_9:PySem.W.kitOne K (.ref q5) (.ref q9)=some false)
  (kt5_10:PySem.W.kitOne K (.ref q5) (.ref q10)=some false)
  (kt5_11:PySem.W.kitOne K (.ref q5) (.ref q11)=some false)
  (up7:(L2.mroIn K q7).contains (.ref R)=true)
  (g1_7:(PySem.W.clsIn K q7).isSome=true)
  (g2_7:PySem.W.findIn K (.ref q7) "__getattribute__"=some (some (.builtin "BaseException.__getattribute__")))
  (g3_7:PySem.W.findIn K (.ref q7) "__getattr__"=some none)
  (g4_7:PySem.W.findIn K (.ref q7) "__class__"=some (some (.builtin "object.__class__")))
  (g7_7:PySem.W.mroIn K q7 (.type "object")=some true)
  (g8_7:PySem.W.mroIn K q7 (.type "BaseException")=some true)
  (kR7:PySem.W.kitOne K (.ref q7) (.ref R)=some true)
  (kV7:PySem.W.kitOne K (.ref q7) (.type "ValueError")=some true)
  (kt7_0:PySem.W.kitOne K (.ref q7) (.ref q0)=some false)
  (kt7_1:PySem.W.kitOne K (.ref q7) (.ref q1)=some false)
  (kt7_2:PySem.W.kitOne K (.ref q7) (.ref q2)=some false)
  (kt7_3:PySem.W.kitOne K (.ref q7) (.ref q3)=some false)
  (kt7_4:PySem.W.kitOne K (.ref q7) (.ref q4)=some false)
  (kt7_5:PySem.W.kitOne K (.ref q7) (.ref q5)=some false)
  (kt7_6:PySem.W.kitOne K (.ref q7) (.ref q6)=some false)
  (kt7_7:PySem.W.kitOne K (.ref q7) (.ref q7)=some true)
  (kt7_8:PySem.W.kitOne K (.ref q7) (.ref q8)=some false)
  (kt7_9:PySem.W.kitOne K (.ref q7) (.ref q9)=some false)
  (kt7_10:PySem.W.kitOne K (.ref q7) (.ref q10)=some false)
  (kt7_11:PySem.W.kitOne K (.ref q7) (.ref q11)=some false)
  (g5:PySem.W.specialIn K (.builtin "object.__class__") "__get__"=some (some (.builtin "getset_descriptor.__get__")))
  (g6:PySem.W.takesIn K (.builtin "object.__class__")=some true)
  :∃fd:FuncData,(∀(s:Shared) (v:Value),BindsTo s fd ⟨[v],[]⟩ [("script",v)])/\∀base:Heap,K.In base->base.Ns mainGlobals mg->gj l.prog w K mg base (me l.prog w) 8 fa fd ["script"] (zF K):=by
 have e:=hfa.symm.trans (Ov X G a35)
 cases e
 have B:j4 mg:=J5 X G zB
 have iP:=Ov X G yMOST_THINGS
 obtain⟨f1,d1,uE⟩:=F1.ex
 obtain⟨f2,d2,bW⟩:=F2.ex
 obtain⟨f3,d3,bg⟩:=F3.ex
 obtain⟨f4,d4,g7⟩:=F4.ex
 obtain⟨f5,d5,gW⟩:=F5.ex
 obtain⟨f6,d6,gP⟩:=F6.ex
 obtain⟨f7,d7,l8⟩:=F7.ex
 obtain⟨f8,d8,jc⟩:=F8.ex
 obtain⟨f9,d9,fk⟩:=F9.ex
 obtain⟨f10,d10,fA⟩:=F10.ex
 obtain⟨f11,d11,aU⟩:=F11.ex
 obtain⟨f12,d12,i8⟩:=F12.ex
 obtain⟨f13,d13,cL⟩:=F13.ex
 obtain⟨f14,d14,ay⟩:=F14.ex
 obtain⟨f15,d15,aQ⟩:=F15.ex
 obtain⟨f16,d16,bB⟩:=F16.ex
 obtain⟨f17,d17,aR⟩:=F17.ex
 obtain⟨f18,d18,dR⟩:=F18.ex
 obtain⟨f19,d19,i9⟩:=F19.ex
 obtain⟨f20,d20,g9⟩:=F20.ex
 obtain⟨f21,d21,gQ⟩:=F21.ex
 obtain⟨f22,d22,dO⟩:=F22.ex
 obtain⟨f23,d23,fm⟩:=F23.ex
 obtain⟨f24,d24,eZ⟩:=F24.ex
 obtain⟨f25,d25,aG⟩:=F25.ex
 obtain⟨f26,d26,cY⟩:=F26.ex
 obtain⟨f27,d27,fE⟩:=F27.ex
 obtain⟨f28,d28,aZ⟩:=F28.ex
 obtain⟨f29,d29,cM⟩:=F29.ex
 obtain⟨f30,d30,df⟩:=F30.ex
 obtain⟨f31,d31,dS⟩:=F31.ex
 obtain⟨f32,d32,fB⟩:=F32.ex
 obtain⟨f33,d33,cJ⟩:=F33.ex
 obtain⟨f34,d34,b7⟩:=F34.ex
 have U35:=yQ (st:=RQ.lD) l35 c35 k35
 have K8:jJ K mg "law" RQ.lD ["script"] fa _:=⟨Ov X G a35,U35,U35.binds (ps:=["script"]) λ_ _ _ _ _ _=>xA λ_=>rfl⟩
 obtain⟨ca,hca⟩:∃ca:Str->Addr,ca "NoNumber"=q7/\ca "NoOrder"=q0/\ca "NoRow"=q5:=⟨λs=>if s="NoNumber" then q7 else if s="NoOrder" then q0 else if s="NoRow" then q5 else 0,by first |rfl |decide |simp,by first |rfl |decide |simp,by first |rfl |decide |simp⟩
 have ip:Exc K mg ca "NoNumber":=⟨by rw[hca.1];exact Ov X G n7,by rw[hca.1];exact e0⟩
 have jq:Exc K mg ca "NoOrder":=⟨by rw[hca.2.1];exact Ov X G n0,by rw[hca.2.1];exact e1⟩
 have mH:Exc K mg ca "NoRow":=⟨by rw[hca.2.2];exact Ov X G n5,by rw[hca.2.2];exact e2⟩
 refine⟨PySem.W.fnOf "law" "law" (iJ RQ.lD) (bX RQ.lD) (av RQ.lD) .none kV35 dc35 pm35 an35 cd35 ct35,λs v=>.of_eq rfl,λbase _ _=>?_⟩
 have er:Er mg R q0 q1 q2 q3 q4 q5 q6 q7 q8 q9 q10 q11:=⟨Ov X G mR,Ov X G n0,Ov X G n1,Ov X G n2,Ov X G n3,Ov X G n4,Ov X G n5,Ov X G n6,Ov X G n7,Ov X G n8,Ov X G n9,Ov X G n10,Ov X G n11⟩
 have kt5:Cg K q5 R q0 q1 q2 q3 q4 q5 q6 q7 q8 q9 q10 q11 5:=⟨⟨g1_5,g2_5,g3_5,g4_5,g5,g6,g7_5,g8_5⟩,kR5,kV5,kt5_0,kt5_1,kt5_2,kt5_3,kt5_4,kt5_5,kt5_6,kt5_7,kt5_8,kt5_9,kt5_10,kt5_11,by decide⟩
 have mt5:Mt K (.ref q5) R:=GV e2 eR (by decide) up5
 have kt7:Cg K q7 R q0 q1 q2 q3 q4 q5 q6 q7 q8 q9 q10 q11 7:=⟨⟨g1_7,g2_7,g3_7,g4_7,g5,g6,g7_7,g8_7⟩,kR7,kV7,kt7_0,kt7_1,kt7_2,kt7_3,kt7_4,kt7_5,kt7_6,kt7_7,kt7_8,kt7_9,kt7_10,kt7_11,by decide⟩
 have mt7:Mt K (.ref q7) R:=GV e0 eR (by decide) up7
 have MK:Fc l.prog w K mg base ca "RankError" "_law_marks" (RM.vp yd):=by
  refine Ip uE er B (PySem.W.mg_none_of X G zV) λc j h=>?_
  unfold yd at h
  by_cases z5:c="NoRow"
  ·subst z5
   cases h
   rw[hca.2.2];exact⟨mt5,kt5⟩
  by_cases z7:c="NoNumber"
  ·subst z7
   cases h
   rw[hca.1];exact⟨mt7,kt7⟩
  simp only[P4,List.lookup_nil,beq_false_of_ne z5,beq_false_of_ne z7] at h
  cases h
 have fy:=(RQ.uG (P:=l.prog) (w:=w) (base:=base) (ca:=ca) bW B).imp yV
 have cn:=(RQ.ui (P:=l.prog) (w:=w) (base:=base) (ca:=ca) bg B fy).imp Fi
 have nO:=(RQ.v8 (P:=l.prog) (w:=w) (base:=base) (ca:=ca) g7 B fy iP).imp Hz
 have nZ:=(RQ.vR (P:=l.prog) (w:=w) (base:=base) (ca:=ca) gW B cn).imp I0
 have oh:=RQ.vn (P:=l.prog) (w:=w) (base:=base) (ca:=ca) gP B cn
 have Gm:=RQ.qk (P:=l.prog) (w:=w) (base:=base) (ca:=ca) l8 B
 have p9:=xW (P:=l.prog) (w:=w) (base:=base) (ca:=ca) jc l8 B
 have lK:=(RQ.uD (P:=l.prog) (w:=w) (base:=base) (ca:=ca) fk B).imp IB
 have lN:=(RQ.tX (P:=l.prog) (w:=w) (base:=base) (ca:=ca) fA B nO nZ p9 lK).imp yE
 have bQ:=(RQ.qR (P:=l.prog) (w:=w) (base:=base) (ca:=ca) aU B lN jq).imp Gy
 have qz:=RQ.xM (P:=l.prog) (w:=w) (base:=base) (ca:=ca) i8 B
 have iY:=RQ.oU (P:=l.prog) (w:=w) (base:=base) (ca:=ca) cL B oh qz
 have aM:=RQ.qF (P:=l.prog) (w:=w) (base:=base) (ca:=ca) ay B
 have bH:=RQ.o4 (P:=l.prog) (w:=w) (base:=base) (ca:=ca) aQ B aM
 have de:=RQ.v7 (P:=l.prog) (w:=w) (base:=base) (ca:=ca) bB B bH aM
 have bG:=RQ.oX (P:=l.prog) (w:=w) (base:=base) (ca:=ca) aR B aM
 have kr:=RQ.rb (P:=l.prog) (w:=w) (base:=base) (ca:=ca) dR B bQ de bG
 have pZ:=RQ.xJ (P:=l.prog) (w:=w) (base:=base) (ca:=ca) i9 B bH aM
 have nG:=RQ.wO (P:=l.prog) (w:=w) (base:=base) (ca:=ca) g9 B bQ bG de cn pZ aM ip
 have nP:=RQ.wo (P:=l.prog) (w:=w) (base:=base) (ca:=ca) gQ B bQ iY bG de bH aM mH
 have kz:=RQ.rM (P:=l.prog) (w:=w) (base:=base) (ca:=ca) dO B
 have lM:=RQ.um (P:=l.prog) (w:=w) (base:=base) (ca:=ca) fm B
 have lU:=RQ.uN (P:=l.prog) (w:=w) (base:=base) (ca:=ca) eZ B kz lM
 have aS:=RQ.qY (P:=l.prog) (w:=w) (base:=base) aG B
 have jD:=RQ.qq (P:=l.prog) (w:=w) (base:=base) (ca:=ca) cY B
 have lP:=RQ.ub (P:=l.prog) (w:=w) (base:=base) fE B aS
 have b4:=RQ.mL (P:=l.prog) (w:=w) (base:=base) aZ B aS
 have iR:=RQ.oR (P:=l.prog) (w:=w) (base:=base) (ca:=ca) cM B
 have jw:=RQ.qy (P:=l.prog) (w:=w) (base:=base) (ca:=ca) df B iR aS b4
 have ki:=RQ.rf (P:=l.prog) (w:=w) (base:=base) (ca:=ca) dS B
 have lX:=RQ.uK (P:=l.prog) (w:=w) (base:=base) fB B aS
 have i3:=RQ.oZ (P:=l.prog) (w:=w) (base:=base) (ca:=ca) cJ B jD
 have dM:=RQ.rJ (P:=l.prog) (w:=w) (base:=base) (ca:=ca) b7 B nG nP MK
 have JX:=RQ.FX (P:=l.prog) (w:=w) (base:=base) (ca:=ca) K8 B lU kr dM i3 ki jw aS lX b4 lP
 exact gj.imp (sp:=Ez K ca 1 IL) JX Ih
def walk {l:PySem.W.OpenLaw}{q:Program}{loose:List Str}{XP:(Str->Option Value)->Heap->Prop}{YP:World->Heap->Prop}{d:DefRec}{K:Params->Frag}(hn:l.most=some 63)(hdf:d.params.defaults= [])(hi:PyProof.Rows.importsNone q=true)
  (hY:∀(w:World) (h:Heap),YP w h->(K w.params).In h)
  (F:∀(w:World) (mg:Str->Option Value) (fa:Addr) (h:Heap),(K w.params).In h->h.Ns mainGlobals mg->mg d.name=some (.ref fa)->
   ∃fd:FuncData,(∀(s:Shared) (u:Value),BindsTo s fd ⟨[u],[]⟩ [("script",u)])/\∀base:Heap,(K w.params).In base->base.Ns mainGlobals mg->gj l.prog w (K w.params) mg base (me l.prog w) 8 fa fd ["script"] (zF (K w.params))) :
  PySem.W.WalkO q loose XP YP l.row.toRowW d [] (λf vs=>PySem.call f vs):=
 L2.Gw (n:=63) (k:=8) (x:="script") (CX:=λw=>me l.prog w) (sp:=λw=>zF (K w.params)) hn (by decide) hdf hi ⟨rfl,by decide,by decide,rfl⟩ hY F (λ_ _ a ns hl _ hS=>⟨a,ns,rfl,hS,λ_ _=>rfl⟩) λ_ _ _ _ _ z=>by
  obtain⟨_,_,_,_,_,_,_,_,_,z⟩:=z
  exact z
end RO
namespace HD
noncomputable def vw:PySem.Program:=PySem.W.view PySem.Challenge.pw_rowsorder_k10_no_numbers_no_rows [1,2,3,4,5,6,7,9,10,11,12,13,14,15,16,17,18,19,20,21,23,24,25,26,28,29,30,31,32,33,34,35,36,37,39,40,41,42,43,44,45,46,47,48,49,50,51,52,53]
def Kf:PySem.Challenge.rw_rowsorder_k10_no_numbers_no_rows.wellSaid=true:=by kernel_rfl
end HD
local macro_rules | `(tactic|o_head $H)=>`(tactic| (
 refine PySem.W.holds_open (q:=HD.vw) (loose:=[]) (Xt:=λs=>PySem.W.xlAt HD.vw [] s && PySem.W.recOk (PySem.W.RowW.records _) s) (XP:=PySem.W.XL HD.vw []) (Yf:=PySem.W.Hook.obs $H) (Ya:=PySem.W.Hook.val $H) (YP:=PySem.W.Hook.says $H) (N:=7864) ?hl (PySem.W.Hook.of $H) (PySem.W.Hook.keeps $H) (λs e=>PySem.W.xl_of s (Bool.and_eq_true_iff.mp e).1) PySem.W.XL.keeps (by rfl) (by rfl) (by rfl) (λs e=>PySem.W.recFacts_of (Bool.and_eq_true_iff.mp e).2) (by rfl) (by first |assumption |decide +kernel) (by decide +kernel) ⟨rfl,rfl,rfl,rfl,rfl,by decide +kernel⟩ ?hw ?hc
 case hl=>exact HD.FY (by kernel_rfl) (by kernel_rfl) (λs=>by kernel_rfl) (λw os=>by kernel_rfl)))
open PySem PySem.W PyProof.Rows L2
set_option maxRecDepth 100000 in
set_option maxHeartbeats 0 in
theorem PySem.Challenge.cw_rowsorder_k10_no_numbers_no_rows_holds : PySem.Challenge.rw_rowsorder_k10_no_numbers_no_rows.Holds := by
 w_on;(refine holds_law HD.Kf λKf=>?_);k_head;(case hw=>w_witness2)
 k_fill
 refine RO.walk (l:=PySem.Challenge.rw_rowsorder_k10_no_numbers_no_rows) rfl rfl ?hi (λw h Y=>PySem.W.kIn_of Y) ?F
 case hi=>kernel_rfl
 case F=>
  intro w mg fa h KX G hmg
  refine' RO.all_mk KX G hmg ?F1 ?F2 ?F3 ?F4 ?F5 ?F6 ?F7 ?F8 ?F9 ?F10 ?F11 ?F12 ?F13 ?F14 ?F15 ?F16 ?F17 ?F18 ?F19 ?F20 ?F21 ?F22 ?F23 ?F24 ?F25 ?F26 ?F27 ?F28 ?F29 ?F30 ?F31 ?F32 ?F33 ?F34 ?a35 ?l35 ?c35 ?k35 ?zB ?yMOST_THINGS ?mR ?n0 ?n1 ?n2 ?n3 ?n4 ?n5 ?n6 ?n7 ?n8 ?n9 ?n10 ?n11 ?zV ?eR ?e0 ?e1 ?e2 ?up5 ?g1_5 ?g2_5 ?g3_5 ?g4_5 ?g7_5 ?g8_5 ?kR5 ?kV5 ?kt5_0 ?kt5_1 ?kt5_2 ?kt5_3 ?kt5_4 ?kt5_5 ?kt5_6 ?kt5_7 ?kt5_8 ?kt5_9 ?kt5_10 ?kt5_11 ?up7 ?g1_7 ?g2_7 ?g3_7 ?g4_7 ?g7_7 ?g8_7 ?kR7 ?kV7 ?kt7_0 ?kt7_1 ?kt7_2 ?kt7_3 ?kt7_4 ?kt7_5 ?kt7_6 ?kt7_7 ?kt7_8 ?kt7_9 ?kt7_10 ?kt7_11 ?g5 ?g6
  case F1=>refine' bK KX G RO.tP ?a ?l ?c ?k;(case a=>k_is);(case l=>k_is);(case c=>k_is);(case k=>k_is)
  case F2=>refine' bK KX G RO.yb ?a ?l ?c ?k;(case a=>k_is);(case l=>k_is);(case c=>k_is);(case k=>k_is)
  case F3=>refine' bK KX G RO.xQ ?a ?l ?c ?k;(case a=>k_is);(case l=>k_is);(case c=>k_is);(case k=>k_is)
  case F4=>refine' bK KX G RO.Bw ?a ?l ?c ?k;(case a=>k_is);(case l=>k_is);(case c=>k_is);(case k=>k_is)
  case F5=>refine' bK KX G RO.BD ?a ?l ?c ?k;(case a=>k_is);(case l=>k_is);(case c=>k_is);(case k=>k_is)
  case F6=>refine' bK KX G RO.Ah ?a ?l ?c ?k;(case a=>k_is);(case l=>k_is);(case c=>k_is);(case k=>k_is)
  case F7=>refine' bK KX G RO.uH ?a ?l ?c ?k;(case a=>k_is);(case l=>k_is);(case c=>k_is);(case k=>k_is)
  case F8=>refine' bK KX G RO.DJ ?a ?l ?c ?k;(case a=>k_is);(case l=>k_is);(case c=>k_is);(case k=>k_is)
  case F9=>refine' bK KX G RO.x9 ?a ?l ?c ?k;(case a=>k_is);(case l=>k_is);(case c=>k_is);(case k=>k_is)
  case F10=>refine' bK KX G RO.yt ?a ?l ?c ?k;(case a=>k_is);(case l=>k_is);(case c=>k_is);(case k=>k_is)
  case F11=>refine' bK KX G RO.uz ?a ?l ?c ?k;(case a=>k_is);(case l=>k_is);(case c=>k_is);(case k=>k_is)
  case F12=>refine' bK KX G RO.Ds ?a ?l ?c ?k;(case a=>k_is);(case l=>k_is);(case c=>k_is);(case k=>k_is)
  case F13=>refine' bK KX G RO.rH ?a ?l ?c ?k;(case a=>k_is);(case l=>k_is);(case c=>k_is);(case k=>k_is)
  case F14=>refine' bK KX G RO.uC ?a ?l ?c ?k;(case a=>k_is);(case l=>k_is);(case c=>k_is);(case k=>k_is)
  case F15=>refine' bK KX G RO.rN ?a ?l ?c ?k;(case a=>k_is);(case l=>k_is);(case c=>k_is);(case k=>k_is)
  case F16=>refine' bK KX G RO.Ae ?a ?l ?c ?k;(case a=>k_is);(case l=>k_is);(case c=>k_is);(case k=>k_is)
  case F17=>refine' bK KX G RO.rn ?a ?l ?c ?k;(case a=>k_is);(case l=>k_is);(case c=>k_is);(case k=>k_is)
  case F18=>refine' bK KX G RO.wb ?a ?l ?c ?k;(case a=>k_is);(case l=>k_is);(case c=>k_is);(case k=>k_is)
  case F19=>refine' bK KX G RO.D4 ?a ?l ?c ?k;(case a=>k_is);(case l=>k_is);(case c=>k_is);(case k=>k_is)
  case F20=>refine' bK KX G RO.AR ?a ?l ?c ?k;(case a=>k_is);(case l=>k_is);(case c=>k_is);(case k=>k_is)
  case F21=>refine' bK KX G RO.Ax ?a ?l ?c ?k;(case a=>k_is);(case l=>k_is);(case c=>k_is);(case k=>k_is)
  case F22=>refine' bK KX G RO.vd ?a ?l ?c ?k;(case a=>k_is);(case l=>k_is);(case c=>k_is);(case k=>k_is)
  case F23=>refine' bK KX G RO.xF ?a ?l ?c ?k;(case a=>k_is);(case l=>k_is);(case c=>k_is);(case k=>k_is)
  case F24=>refine' bK KX G RO.ya ?a ?l ?c ?k;(case a=>k_is);(case l=>k_is);(case c=>k_is);(case k=>k_is)
  case F25=>refine' bK KX G RO.wW ?a ?l ?c ?k;(case a=>k_is);(case l=>k_is);(case c=>k_is);(case k=>k_is)
  case F26=>refine' bK KX G RO.tx ?a ?l ?c ?k;(case a=>k_is);(case l=>k_is);(case c=>k_is);(case k=>k_is)
  case F27=>refine' bK KX G RO.yg ?a ?l ?c ?k;(case a=>k_is);(case l=>k_is);(case c=>k_is);(case k=>k_is)
  case F28=>refine' bK KX G RO.oV ?a ?l ?c ?k;(case a=>k_is);(case l=>k_is);(case c=>k_is);(case k=>k_is)
  case F29=>refine' bK KX G RO.qW ?a ?l ?c ?k;(case a=>k_is);(case l=>k_is);(case c=>k_is);(case k=>k_is)
  case F30=>refine' bK KX G RO.tS ?a ?l ?c ?k;(case a=>k_is);(case l=>k_is);(case c=>k_is);(case k=>k_is)
  case F31=>refine' bK KX G RO.wB ?a ?l ?c ?k;(case a=>k_is);(case l=>k_is);(case c=>k_is);(case k=>k_is)
  case F32=>refine' bK KX G RO.yw ?a ?l ?c ?k;(case a=>k_is);(case l=>k_is);(case c=>k_is);(case k=>k_is)
  case F33=>refine' bK KX G RO.rE ?a ?l ?c ?k;(case a=>k_is);(case l=>k_is);(case c=>k_is);(case k=>k_is)
  case F34=>refine' bK KX G RO.wm ?a ?l ?c ?k;(case a=>k_is);(case l=>k_is);(case c=>k_is);(case k=>k_is)
  case a35=>k_is
  case l35=>k_is
  case c35=>k_is
  case k35=>k_is
  case zB=>kernel_rfl
  case yMOST_THINGS=>k_is
  case mR=>k_is
  case n0=>k_is
  case n1=>k_is
  case n2=>k_is
  case n3=>k_is
  case n4=>k_is
  case n5=>k_is
  case n6=>k_is
  case n7=>k_is
  case n8=>k_is
  case n9=>k_is
  case n10=>k_is
  case n11=>k_is
  case zV=>k_is
  case eR=>kernel_rfl
  case e0=>kernel_rfl
  case e1=>kernel_rfl
  case e2=>kernel_rfl
  case up5=>kernel_rfl
  case g1_5=>kernel_rfl
  case g2_5=>kernel_rfl
  case g3_5=>kernel_rfl
  case g4_5=>kernel_rfl
  case g7_5=>kernel_rfl
  case g8_5=>kernel_rfl
  case kR5=>kit_is
  case kV5=>kit_is
  case kt5_0=>kit_is
  case kt5_1=>kit_is
  case kt5_2=>kit_is
  case kt5_3=>kit_is
  case kt5_4=>kit_is
  case kt5_5=>kit_is
  case kt5_6=>kit_is
  case kt5_7=>kit_is
  case kt5_8=>kit_is
  case kt5_9=>kit_is
  case kt5_10=>kit_is
  case kt5_11=>kit_is
  case up7=>kernel_rfl
  case g1_7=>kernel_rfl
  case g2_7=>kernel_rfl
  case g3_7=>kernel_rfl
  case g4_7=>kernel_rfl
  case g7_7=>kernel_rfl
  case g8_7=>kernel_rfl
  case kR7=>kit_is
  case kV7=>kit_is
  case kt7_0=>kit_is
  case kt7_1=>kit_is
  case kt7_2=>kit_is
  case kt7_3=>kit_is
  case kt7_4=>kit_is
  case kt7_5=>kit_is
  case kt7_6=>kit_is
  case kt7_7=>kit_is
  case kt7_8=>kit_is
  case kt7_9=>kit_is
  case kt7_10=>kit_is
  case kt7_11=>kit_is
  case g5=>kernel_rfl
  case g6=>kernel_rfl
end
