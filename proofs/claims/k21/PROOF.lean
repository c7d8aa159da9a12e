import PyProof.Rows.All
import Wide.All
import OpenK.AllK
import Wide.FinOn
import Lean
import PyProof.EqAt
import PyProof.EqKinds
import PyProof.TupleCall
import PySem.SetOps
import PyProof.SetKind
import PyProof.TupleKey
import PyProof.DictKinds
import PyProof.Rows.SetFrom
import PyProof.WalksMore
import KE.KSortTup
import PyProof.CollectWalk
import PyProof.ExcArgsOwn
import PyProof.Rows.CountFlat
import PyProof.Rows.SeqMore2
import PyProof.Rows.FStr
import PyProof.Rows.StrWeight2
import PyProof.Rows.StrNews
import PyProof.StrLawsTight
import PyProof.ExcBaseAll.ValueError
import PyProof.ZipIter
import PyProof.CallFns
import PyProof.Draws
import PyProof.EnumMake
import PyProof.SetRoads
import PyProof.Rows.SortWalk
import PyProof.SeqI3
import PyProof.Rows.SortShell
import PyProof.Rows.Range3
import KE.KStateDown
import PyProof.Rows.SumAny
import PyProof.ListRange
import PyProof.Rows.BitMore
import PyProof.MaxThree
import PyProof.IsiH_list
import PyProof.RaisesAny
import KE.KDictOf
import PySem.Challenge.RW_rowsorder_k21_whole_rows_by_chains
set_option Elab.async false
set_option linter.all false
set_option maxRecDepth 100000
set_option maxHeartbeats 1000000
def NV:=@PySem.wpAny_bind
def NW:=@List.getElem?_eq_getElem
def NX:=@List.mem_cons
def NY:=@PySem.Heap.get?_push_of_some
def NZ:=@List.length_map
def N0:=@List.mem_cons_self
def N1:=@if_pos
def N2:=@PySem.wpAny_pure
def N3:=@decide_eq_true
def N4:=@Nat.le_refl
def N5:=@List.mem_cons_of_mem
def N6:=@List.mem_singleton
def N7:=@List.mem_map
def N8:=@if_neg
def N9:=@List.getElem?_eq_some_iff
def Oa:=@List.getElem?_map
def Ob:=@List.mem_of_getElem?
def Oc:=@PySem.Heap.lt_size
def Od:=@PySem.Heap.get?_push_size
def Oe:=@decide_eq_false
def Of:=@List.mem_append
def Og:=@List.mem_range
def Oh:=@List.size_toArray
def Oi:=@List.mem_filter
def Oj:=@Bool.false_eq_true
def Ol:=@List.length_cons
def Om:=@Bool.and_eq_true
def Oo:=@PySem.sizeLine_eq
def Oq:=@decide_eq_true_eq
def Ot:=@List.all_eq_true
def Ou:=@List.getElem?_set_ne
def Ov:=@List.nodup_cons
def Ow:=@List.length_append
def Ox:=@List.mem_append_right
def Oy:=@List.getElem?_set_self
def Oz:=@Nat.ne_of_lt
def OA:=@List.map_append
def OB:=@Int.toNat_natCast
def OC:=@List.not_mem_nil
def OD:=@Array.getElem?_eq_getElem
def OE:=@PySem.boot_len
def OF:=@Nat.lt_of_lt_of_le
def OG:=@Bool.false_ne_true
def OH:=@List.Pairwise.imp_of_mem
def OI:=@PySem.F.called_set
def OJ:=@Nat.zero_le
def OK:=@List.getElem?_append_right
def OL:=@List.map_cons
def ON:=@List.mem_iff_getElem
def OO:=@Nat.lt_irrefl
def OP:=@List.pairwise_map
def OQ:=@Array.getD_eq_getD_getElem?
def OR:=@if_false
def OS:=@of_decide_eq_true
def OT:=@PySem.Heap.get?_update_self
def OU:=@List.getElem?_append_left
def OV:=@List.replicate_succ
def OW:=@Nat.lt_or_ge
def OX:=@List.length_take
def OY:=@PySem.wpAny_setState_of
def OZ:=@PyProof.Rows.F.plain_set_update_loop
def O0:=@PySem.W.kia_one
def O1:=@List.map_map
def O2:=@List.pairwise_iff_getElem
def O3:=@PySem.wpAny_holding
def O4:=@List.toList_toArray
def O5:=@List.length_filter_le
def O6:=@List.length_range
def O7:=@if_true
def O8:=@Array.getElem?_eq_some_iff
def O9:=@PySem.Heap.size_push
def Pa:=@List.mem_append_left
def Pb:=@PySem.codeAny_builtin
def Pc:=@Bool.eq_iff_iff
def Pe:=@PySem.Heap.get?_update_other
def Pf:=@List.map_congr_left
def Pg:=@List.flatten_cons
def Pj:=@List.take_add_one
def Pk:=@Bool.not_eq_true'
def Pl:=@Nat.le_trans
def Pn:=@Nat.zero_add
def Po:=@or_false
def Pp:=@List.idxOf_lt_length_iff
def Pq:=@PyProof.Rows.callWith_type1
def Pt:=@decide_eq_false_iff_not
def Pu:=@List.getElem_mem
def Pw:=@List.getElem?_of_mem
def Px:=@List.getD_eq_getElem?_getD
def Py:=@List.take_of_length_le
def Pz:=@List.append_assoc
def PB:=@List.take_append_drop
def PD:=@PyProof.Rows.F.entry_set_update_loop
def PF:=@List.pairwise_append
def PH:=@PySem.Around.under_plainId
def PJ:=@List.mem_of_mem_take
def PK:=@Nat.mul_le_mul
def PL:=@List.getElem?_replicate
def PM:=@PySem.wpAny_truthy_bool
def PN:=@PySem.SeqAt.canLay_of_shaped
def PQ:=@Option.map_eq_some_iff
def PR:=@PySem.wpAny_mono
def PU:=@List.any_cons
def PV:=@List.nodup_iff_pairwise_ne
def PX:=@List.nodup_range
def PY:=@PySem.wpAny_call_entry
def PZ:=@decide_eq_decide
def P0:=@Array.getElem?_toList
def P4:=@List.getElem?_toArray
def P5:=@List.nodup_nil
def P6:=@PySem.codeAny_mono
def P7:=@List.set_eq_of_length_le
def P8:=@PySem.Value.isInt_shape
def P9:=@Nat.lt_trichotomy
def Qa:=@PySem.wpAny_newObj_type
def Qb:=@List.filter_cons_of_pos
def Qc:=@List.filter_cons_of_neg
def Qd:=@PySem.mem_of_lookup
def Qe:=@List.filter_sublist
def Qf:=@List.getElem?_range
def Qg:=@PySem.wpAny_setField
def Qh:=@Nat.le_succ
def Qi:=@List.pairwise_cons
def Qj:=@PySem.wpAny_passesOwn
def Qk:=@List.length_nil
def Ql:=@List.length_replicate
def Qm:=@List.length_set
def Qn:=@List.take_sublist
def Qo:=@List.idxOf_append
def Qp:=@Array.mem_toList_iff
def Qq:=@List.getElem?_eq_none_iff
def Qr:=@Int.zero_add
def Qs:=@Array.length_toList
def Qt:=@Int.toNat_of_nonneg
def Qu:=@List.length_eq_zero_iff
def Qv:=@PySem.F.plainAttrs_list
def Qw:=@List.pairwise_singleton
def Qx:=@Bool.not_true
def Qy:=@List.mem_filterMap
def Qz:=@List.append_nil
def QA:=@PySem.wpAny_pyIter_tuple
def QB:=@decide_eq_true_iff
def QC:=@List.pairwise_lt_range
def QD:=@Array.getElem?_eq_none
def QE:=@PySem.wpAny_pyIter_list
def QF:=@List.any_eq_false
def QG:=@List.ext_getElem?
def QH:=@Nat.lt_succ_of_lt
def QI:=@PySem.Heap.get?_push_ne
def QJ:=@PySem.wpAny_pyIter_enum
def QK:=@List.Perm.append_left
def QL:=@List.getElem?_eq_none
def QM:=@List.dropLast_concat_getLast
def QN:=@PySem.wpAny_askSetting
def QO:=@List.getElem?_mapIdx
def QP:=@List.ext_getElem
def QQ:=@PySem.wpAny_newList
def QR:=@List.filterMap_cons
def QS:=@List.foldl_cons
def QT:=@PySem.Calls.call_function_entry
def QU:=@Bool.or_eq_true
def QV:=@List.exists_mem_of_ne_nil
def QW:=@Nat.ne_of_gt
def QX:=@List.getElem?_take_of_lt
def QY:=@List.length_erase_of_mem
def QZ:=@List.getElem_range
def Q0:=@PySem.putSet_of
def Q4:=@PySem.Code.quiet_builtin
def Q5:=@List.all_map
def Q6:=@PySem.Obj.data_mapFields
def Q7:=@List.eq_of_mem_replicate
def Q8:=@List.getElem_idxOf
def Q9:=@PySem.AutoSeq1.wpAny_loadPart'
def Ra:=@List.filter_append
def Rb:=@Nat.lt_of_le_of_lt
def Rf:=@PySem.isSubtype_type
def Rg:=@PySem.wpAny_runValue
def Rh:=@Array.getElem_mem
def Ri:=@PySem.wpAny_storeSet_of
def Rj:=@List.nodup_append
open List (length_drop map_take map_drop lookup_cons all_cons set_set)
open PySem.W (Frag)
open PySem.PyData (int)
section
set_option Elab.async false
namespace L2
open PySem PySem.Spec PyProof.Rows
abbrev Key:=Sum Int Str
def Hj:Key->Value->Bool
 | .inl k,v=>Value.isInt k v
 | .inr x,v=>Value.isStrOf x v
def M1 (w:World):Key->Int
 | .inl k=>hashInt k
 | .inr x=>hashStr w x
theorem cv:∀{k:Key} {v:Value},Hj k v=true->(∃i t,k=Sum.inl i/\v=Value.int i t)\/(∃x t,k=Sum.inr x/\v=Value.str x t)
 | .inl i,v,h=>by
  obtain⟨t,e⟩:=P8 (k:=i) (v:=v) h
  exact .inl ⟨i,t,rfl,e⟩
 | .inr x,v,h=>by
  obtain⟨t,e⟩:=Value.isStrOf_shape (x:=x) (v:=v) h
  exact .inr ⟨x,t,rfl,e⟩
def Jn (a b:Int):decide ((Sum.inl a:Key)=Sum.inl b)=(a == b):=by
 by_cases e:a=b
 ·subst e;simp
 ·have h:¬(Sum.inl a:Key)=Sum.inl b:=λq=>e (Sum.inl.inj q)
  rw[Oe h]
  exact (beq_eq_false_iff_ne.mpr e).symm
def JQ (a b:Str):decide ((Sum.inr a:Key)=Sum.inr b)=decide (a=b):=by
 by_cases e:a=b
 ·subst e;simp
 ·have h:¬(Sum.inr a:Key)=Sum.inr b:=λq=>e (Sum.inr.inj q)
  rw[Oe h,Oe e]
def JO (a:Int)(b:Str):decide ((Sum.inl a:Key)=Sum.inr b)=false:=Oe (λq=>nomatch q)
def HK (a:Str)(b:Int):decide ((Sum.inr a:Key)=Sum.inl b)=false:=Oe (λq=>nomatch q)
def uq (prog:Program)(w:World):PySem.KeyKind prog w Key where
 is:=Hj
 hash:=M1 w
 inj:=λv a b ha hb=>by
  rcases cv ha with⟨i,t,rfl,rfl⟩ | ⟨x,t,rfl,rfl⟩
  ·rcases cv hb with⟨j,u,rfl,e⟩ | ⟨y,u,rfl,e⟩
   ·injection e with e1 _;rw[e1]
   ·exact nomatch e
  ·rcases cv hb with⟨j,u,rfl,e⟩ | ⟨y,u,rfl,e⟩
   ·exact nomatch e
   ·injection e with e1 _;rw[e1]
 byValue:=λk v h=>by
  rcases cv h with⟨i,t,rfl,rfl⟩ | ⟨x,t,rfl,rfl⟩ <;> rfl
 pyHash:=λhv h=>by
  rcases cv hv with⟨i,t,rfl,rfl⟩ | ⟨x,t,rfl,rfl⟩
  ·exact wpAny_pyHash_int h
  ·exact wpAny_pyHash_str h
 eqBool:=λhu hv h=>by
  rcases cv hu with⟨i,t,rfl,rfl⟩ | ⟨x,t,rfl,rfl⟩
  ·rcases cv hv with⟨j,u,rfl,rfl⟩ | ⟨y,u,rfl,rfl⟩
   ·rw[Jn] at h;exact wpAny_eqBool_int h
   ·rw[JO] at h;exact SeqAt.EqAt.int_str i t y u _ _ _ _ h
  ·rcases cv hv with⟨j,u,rfl,rfl⟩ | ⟨y,u,rfl,rfl⟩
   ·rw[HK] at h;exact SeqAt.EqAt.str_int x t j u _ _ _ _ h
   ·rw[JQ] at h;exact wpAny_eqBool_str h
 «strs»:=λk x t v h=>by
  rcases cv h with⟨i,u,rfl,e⟩ | ⟨y,u,rfl,e⟩
  ·exact nomatch e
  ·injection e with e1 _
   subst e1
   cases v <;> rfl
inductive V where
 |non |bl (b:Bool) |int (i:Int) |str (x:Str) |byt (b:Array UInt8) |flt (b:UInt64) |ref (a:Addr) |ty (n:String)
 deriving DecidableEq
def RelV:V->Value->Prop
 | .non,u=>u=Value.none
 | .bl b,u=>u=Value.bool b
 | .int i,u=>∃t,u=Value.int i t
 | .str x,u=>∃t,u=Value.str x t
 | .byt b,u=>∃t,u=Value.bytes b t
 | .flt b,u=>∃t,u=Value.float b t
 | .ref a,u=>u=Value.ref a
 | .ty n,u=>u=Value.type n
abbrev Vals:List V->List Value->Prop:=Paired RelV
def Vals.length {xs:List V}{us:List Value}(r:Vals xs us):xs.length=us.length:=Paired.length r
theorem Vals.get:∀{xs:List V} {us:List Value} {i:Nat} {x:V},Vals xs us->xs[i]? =some x->∃u,us[i]? =some u/\RelV x u
 |_,_,_,_,.nil,e=>by simp at e
 |_,_,0,_,.cons r _,e=>by simp at e;subst e;exact⟨_,rfl,r⟩
 |_,_,i + 1,x,.cons _ t,e=>by
  obtain⟨u,h1,h2⟩:=Vals.get (i:=i) (x:=x) t (by simpa using e)
  exact⟨u,by simpa using h1,h2⟩
theorem Vals.set {x:V}{u:Value}(r:RelV x u):∀{xs:List V} {us:List Value} (i:Nat),Vals xs us->Vals (xs.set i x) (us.set i u)
 |_,_,_,.nil=>.nil
 |_,_,0,.cons _ t=>.cons r t
 |_,_,i + 1,.cons q t=>.cons q (Vals.set r i t)
theorem Vals.append:∀{xs ys:List V} {us ws:List Value},Vals xs us->Vals ys ws->Vals (xs ++ ys) (us ++ ws)
 |_,_,_,_,.nil,s=>s
 |_,_,_,_,.cons r t,s=>.cons r (Vals.append t s)
theorem Vals.take:∀{xs:List V} {us:List Value} (n:Nat),Vals xs us->Vals (xs.take n) (us.take n)
 |_,_,0,_=>.nil
 |_,_,_ + 1,.nil=>.nil
 |_,_,n + 1,.cons r t=>.cons r (Vals.take n t)
theorem Vals.drop:∀{xs:List V} {us:List Value} (n:Nat),Vals xs us->Vals (xs.drop n) (us.drop n)
 |_,_,0,r=>r
 |_,_,_ + 1,.nil=>.nil
 |_,_,n + 1,.cons _ t=>Vals.drop n t
def Iq:Option V->Option Value->Prop
 |some v,some u=>RelV v u
 |none,none=>True
 |_,_=>False
def KV {κ:Type}:List (κ×V)->List (κ×Value)->Prop:=Paired λ(p:κ×V) (q:κ×Value)=>p.1=q.1/\RelV p.2 q.2
def kV:Key->V
 | .inl i=>.int i
 | .inr x=>.str x
inductive HO where
 |lst (xs:List V)
 |tup (xs:List V)
 |dK (kvs:List (Key×V)) |dT (kvs:List (List Key×V))
 |set (S:Int->Bool) (n:Nat)
 |ins (C dx:Addr) (fs:List (Str×V))
 |own (x:Addr)
 |xd (fs:List (Str×V))
 |met (f x:Addr)
 |du (lo hi:Int)
 |bp (o:Obj) (u:HO)
 |tbl (ps:Array Value)
 |ext (φ:Heap->Prop)
abbrev Hp:=Addr->Option HO
def upd (H:Hp)(a:Addr)(o:HO):Hp:=λb=>if b=a then some o else H b
def aA {H:Hp}{a:Addr}{o:HO}:upd H a o a=some o:=by unfold upd;rw[N1 rfl]
def aC {H:Hp}{a b:Addr}{o:HO}(h:b≠a):upd H a o b=H b:=by unfold upd;rw[N8 h]
def He {H:Hp}{a b:Addr}{o u:HO}(h:H a=some o)(h':H b=some u)(d:o≠u):a≠b:=by
 intro e;subst e;rw[h] at h';exact d (Option.some.inj h')
def aK {H:Hp}{a b:Addr}{o:HO}(h:H a=some o)(h':H b=none):a≠b:=by
 intro e;subst e;rw[h] at h';cases h'
section
variable (P:Program)(w:World)
def r6 (h:Heap)(a:Addr)(items:Array Value):Prop:=∃o,h.get? a=some o/\o.cls=.type "tuple"/\∃n,o.data=.seq items n/\o.dict=none
def r6.isTup {h:Heap}{a:Addr}{items:Array Value}(x:r6 h a items):IsTup h a items:=let ⟨o,e,c,n,d,_⟩:=x;⟨o,e,c,n,d⟩
def r6.new (h:Heap)(items:Array Value):r6 (h.push {cls:=.type "tuple",data:=.seq items}) h.objs.size items:=⟨_,Od _ rfl,rfl,_,rfl,rfl⟩
def cx (H:Hp)(h:Heap)(a:Addr):HO->Prop
 | .lst xs=>xs.length<=sizeLine/\∃(its:List Value) (n:Nat),Vals xs its/\h.get? a=some {cls:=.type "list",data:=.seq its.toArray n}
 | .tup xs=>xs.length<=sizeLine/\∃its:List Value,Vals xs its/\r6 h a its.toArray
 | .dK kvs=>kvs.length<=sizeLine/\(a == sysModules)=false/\∃vs,KV kvs vs/\h.DictOf (uq P w) a vs
 | .dT kvs=>kvs.length<=sizeLine/\(a == sysModules)=false/\∃xs:List (List Key×Addr×Value),
   Paired (λ(p:List Key×V) (q:List Key×Addr×Value)=>p.1=q.1/\(H q.2.1=some (.tup (p.1.map kV))\/∃o,H q.2.1=some (.bp o (.tup (p.1.map kV))))/\RelV p.2 q.2.2) kvs xs/\
   ∃o es ep,h.get? a=some o/\o.ExactDict/\o.data=.dict es ep/\es.toList=xs.map (entryOfKey (tupleKind (uq P w)))/\(xs.map (·.1)).Nodup
 | .set S n=>h.SetOf (intKind P w) a S n
 | .ins C dx fs=>H dx=some (.own a)/\fs.length<=1000/\dx≠a/\h.get? a=some (PySem.W.instObj C dx)/\
   ∃mA,h.Ns1 dx mA/\(∀f,Iq (fs.lookup f) (mA f))/\PySem.Within mA (fs.map (·.1))
 | .own _=>∃o,h.get? a=some o
 | .xd fs=>∃mA,h.Ns1 a mA/\∀f,Iq (fs.lookup f) (mA f)
 | .du lo hi=>∃t u v,h.get? a=some {cls:=.type "range",data:=.fields #[.int lo t,.int hi u,.int 1 v]}
 | .bp o u=>h.get? a=some o/\cx H h a u
 | .tbl ps=>h.get? a=some {cls:=.none,data:=.fields ps}
 | .met f x=>h.get? a=some (PySem.W.methodObj (.ref f) (.ref x))
 | .ext φ=>φ h/\(∃o,h.get? a=some o)/\∀h1 h2:Heap,φ h1->(∀o,h1.get? a=some o->h2.get? a=some o)->φ h2
def nD (H:Hp)(h:Heap):Prop:=∀a o,H a=some o->cx P w H h a o
end
section
variable {P:Program}{w:World}{H H':Hp}{h h':Heap}{a:Addr}{o:HO}
theorem cx.lt (x:cx P w H h a o):a < h.objs.size:=by
 cases o with
 |lst xs=>obtain⟨_,_,_,_,e⟩:=x;exact Oc e
 |tup xs=>obtain⟨_,_,_,p⟩:=x;exact p.isTup.lt
 |dK kvs=>obtain⟨_,_,_,_,o,_,_,e,_⟩:=x;exact Oc e
 |dT kvs=>obtain⟨_,_,_,_,o,_,_,e,_⟩:=x;exact Oc e
 |set S n=>obtain⟨o,_,_,_,e,_⟩:=x;exact Oc e
 |ins C dx fs=>obtain⟨_,_,_,e,_⟩:=x;exact Oc e
 |own y=>obtain⟨_,e⟩:=x;exact Oc e
 |xd fs=>obtain⟨_,⟨_,_,_,e,_⟩,_⟩:=x;exact Oc e
 |du lo hi=>obtain⟨_,_,_,e⟩:=x;exact Oc e
 |bp ob u=>obtain⟨e,_⟩:=x;exact Oc e
 |tbl ps=>exact Oc (show h.get? a=some _ from x)
 |met f y=>exact Oc (show h.get? a=some _ from x)
 |ext φ=>obtain⟨_,⟨_,e⟩,_⟩:=x;exact Oc e
theorem Paired.mapP {α β:Type}{F G:α->β->Prop}:∀{l₁:List α} {l₂:List β},Paired F l₁ l₂->(∀a b,F a b->G a b)->Paired G l₁ l₂
 |_,_,.nil,_=>.nil
 |_,_,.cons r t,f=>.cons (f _ _ r) (Paired.mapP t f)
theorem cx.stay (x:cx P w H h a o)(k:∀b u,(b=a\/H b=some (.own a))->h.get? b=some u->h'.get? b=some u)
  (ho:∀b,H b=some (.own a)->H' b=some (.own a)) (ht:∀b xs,(H b=some (.tup xs)\/∃o,H b=some (.bp o (.tup xs)))->(H' b=some (.tup xs)\/∃o,H' b=some (.bp o (.tup xs)))):cx P w H' h' a o:=by
 induction o with
 |lst xs=>obtain⟨z,its,n,r,e⟩:=x;exact⟨z,its,n,r,k _ _ (.inl rfl) e⟩
 |tup xs=>obtain⟨z,its,r,ob,e,c⟩:=x;exact⟨z,its,r,ob,k _ _ (.inl rfl) e,c⟩
 |dK kvs=>obtain⟨z,y,vs,r,ob,es,ep,e,c⟩:=x;exact⟨z,y,vs,r,ob,es,ep,k _ _ (.inl rfl) e,c⟩
 |dT kvs=>
  obtain⟨z,y,xs,r,ob,es,ep,e,c⟩:=x
  exact⟨z,y,xs,Paired.mapP r λp q z=>⟨z.1,ht _ _ z.2.1,z.2.2⟩,ob,es,ep,k _ _ (.inl rfl) e,c⟩
 |set S n=>obtain⟨ob,es,ep,t,e,c⟩:=x;exact⟨ob,es,ep,t,k _ _ (.inl rfl) e,c⟩
 |ins C dx fs=>
  obtain⟨d,z,ne,e,mA,⟨od,es,ep,e2,c⟩,r⟩:=x
  exact⟨ho _ d,z,ne,k _ _ (.inl rfl) e,mA,⟨od,es,ep,k _ _ (.inr d) e2,c⟩,r⟩
 |own y=>obtain⟨ob,e⟩:=x;exact⟨ob,k _ _ (.inl rfl) e⟩
 |xd fs=>obtain⟨mA,⟨od,es,ep,e,c⟩,r⟩:=x;exact⟨mA,⟨od,es,ep,k _ _ (.inl rfl) e,c⟩,r⟩
 |du lo hi=>obtain⟨t,u,v,e⟩:=x;exact⟨t,u,v,k _ _ (.inl rfl) e⟩
 |bp ob u ih=>obtain⟨e,q⟩:=x;exact⟨k _ _ (.inl rfl) e,ih q⟩
 |tbl ps=>
  have e:h.get? a=some {cls:=.none,data:=.fields ps}:=x
  show h'.get? a=some {cls:=.none,data:=.fields ps}
  exact k a _ (.inl rfl) e
 |met f y=>
  have e:h.get? a=some (PySem.W.methodObj (.ref f) (.ref y)):=x
  show h'.get? a=some (PySem.W.methodObj (.ref f) (.ref y))
  exact k a _ (.inl rfl) e
 |ext φ=>obtain⟨p,⟨o,e⟩,st⟩:=x;exact⟨st _ _ p λo q=>k _ _ (.inl rfl) q,⟨o,k _ _ (.inl rfl) e⟩,st⟩
def nD.lt (x:nD P w H h)(e:H a=some o):a < h.objs.size:=(x a o e).lt
theorem nD.fresh (x:nD P w H h)(e:h.objs.size<=a):H a=none:=by
 cases q:H a with
 |none=>rfl
 |some u=>exact absurd (OF (x.lt q) e) (OO _)
def nD.kept (x:nD P w H h)(k:∀b u,h.get? b=some u->h'.get? b=some u):nD P w H h':=λa o e=>
 (x a o e).stay (λb u _ q=>k b u q) (λ_ q=>q) λ_ _ q=>q
def nD.laid (x:nD P w H h)(k:∀b u,h.get? b=some u->h'.get? b=some u)(hp:h.objs.size<=a)(new:cx P w (upd H a o) h' a o):nD P w (upd H a o) h':=λb u e=>by
 have hn:=x.fresh hp
 by_cases hb:b=a
 ·subst hb;rw[aA] at e;cases e;exact new
 ·rw[aC hb] at e
  exact (x b u e).stay (λc v _ q=>k c v q) (λc q=>by rw[aC (aK q hn)];exact q) λc xs q=>q.imp (λq=>by rw[aC (aK q hn)];exact q) λ⟨o,q⟩=>⟨o,by rw[aC (aK q hn)];exact q⟩
end
def Rd (H:Hp)(a:Addr)(u:HO):Prop:=H a=some u\/∃o,H a=some (.bp o u)
def Rd.ok {P:Program}{w:World}{H:Hp}{h:Heap}{a:Addr}{u:HO}(r:Rd H a u)(x:nD P w H h):cx P w H h a u:=by
 rcases r with r | ⟨o,r⟩
 ·exact x a u r
 ·obtain⟨_,q⟩:=x a _ r
  exact q
def L5:Option HO->Prop
 |some (.lst _)=>True
 |some (.dK _)=>True
 |some (.dT _)=>True
 |some (.set _ _)=>True
 |some (.ins _ _ _)=>True
 |some (.ext _)=>True
 |_=>False
section
variable {P:Program}{w:World}{H:Hp}{h h':Heap}{x e:Addr}{o':HO}
def nD.write (ok:nD P w H h)(mu:L5 (H x))(he:e=x\/H e=some (.own x))(k:∀b u,b≠e->h.get? b=some u->h'.get? b=some u)(heo:∃u,h'.get? e=some u)
  (new:cx P w (upd H x o') h' x o'):nD P w (upd H x o') h':=λb u q=>by
 have nown:∀c y,H c=some (.own y)->c≠x:=λc y r z=>by subst z;rw[r] at mu;exact mu
 have ntup:∀c xs,H c=some (.tup xs)->c≠x:=λc xs r z=>by subst z;rw[r] at mu;exact mu
 by_cases hb:b=x
 ·subst hb;rw[aA] at q;cases q;exact new
 ·rw[aC hb] at q
  by_cases hbe:b=e
  ·have q':H b=some (.own x):=by
    rcases he with z |z
    ·exact absurd (hbe.trans z) hb
    ·rw[hbe];exact z
   rw[q] at q';cases q'
   obtain⟨v,hv⟩:=heo
   exact⟨v,by rw[hbe];exact hv⟩
  ·refine (ok b u q).stay (λc v hc r=>k c v ?_ r) (λc r=>by rw[aC (nown c b r)];exact r) λc xs r=>r.imp (λr=>by rw[aC (ntup c xs r)];exact r) λ⟨o,r⟩=>⟨o,by rw[aC (λz=>by subst z;rw[r] at mu;exact mu)];exact r⟩
   rcases hc with rfl |hc
   ·exact hbe
   ·rintro rfl
    rcases he with z |z
    ·exact nown c b hc z
    ·rw[hc] at z;cases z;exact hb rfl
end
structure Un (fs ex:List Addr)(H H':Hp)(h h':Heap):Prop where
 keep:∀b o,h.get? b=some o->H b=none->b∉fs->b∉ex->h'.get? b=some o
 slot:∀b o,h.get? b=some o->H b=none->b∈fs->b∉ex->∃sl,h'.get? b=some {o with slots:=sl}
 free:∀b o,h.get? b=some o->H b=none->b∉ex->H' b=none
 there:∀b o,h.get? b=some o->b∉ex->∃o',h'.get? b=some o'
 tups:∀b xs,H b=some (.tup xs)->H' b=some (.tup xs)
 frzs:∀b o u,H b=some (.bp o u)->H' b=some (.bp o u)
 tbls:∀b ps,H b=some (.tbl ps)->∃more,H' b=some (.tbl (ps ++ more))
section
variable {fs fs' ex ex':List Addr}{H H1 H2:Hp}{h h1 h2 h':Heap}{a x e:Addr}{o:HO}
def Un.any (u:Un fs ex H H1 h h1){b:Addr}{ob:Obj}(q:h.get? b=some ob)(n:H b=none)(hx:b∉ex):∃sl,h1.get? b=some {ob with slots:=sl}:=by
 by_cases hb:b∈fs
 ·exact u.slot b ob q n hb hx
 ·exact⟨ob.slots,u.keep b ob q n hb hx⟩
def Un.kept (k:∀b u,h.get? b=some u->h'.get? b=some u):Un fs ex H H h h':=
 ⟨λb ob q _ _ _=>k b ob q,λb ob q _ _ _=>⟨ob.slots,k b ob q⟩,λ_ _ _ n _=>n,λb ob q _=>⟨ob,k b ob q⟩,λ_ _ q=>q,λ_ _ _ q=>q,λ_ ps q=>⟨#[],by rw[q];simp⟩⟩
def Un.refl:Un fs ex H H h h:=Un.kept λ_ _ q=>q
def Un.laid (k:∀b u,h.get? b=some u->h'.get? b=some u)(hp:h.objs.size<=a)(hn:H a=none):Un fs ex H (upd H a o) h h' where
 keep:=λb u q _ _ _=>k b u q
 slot:=λb u q _ _ _=>⟨u.slots,k b u q⟩
 free:=λb u q n _=>by rw[aC (Oz (OF (Oc q) hp))];exact n
 there:=λb u q _=>⟨u,k b u q⟩
 tups:=λb xs q=>by rw[aC (aK q hn)];exact q
 frzs:=λb u xs q=>by rw[aC (aK q hn)];exact q
 tbls:=λb ps q=>⟨#[],by rw[aC (aK q hn),q];simp⟩
def Un.write (mu:L5 (H x))(he:e=x\/H e=some (.own x))(k:∀b u,b≠e->h.get? b=some u->h'.get? b=some u)(heo:∃u,h'.get? e=some u):Un fs ex H (upd H x o) h h':=by
 have hx:∀b,H b=none->b≠x:=λb n z=>by subst z;rw[n] at mu;exact mu
 have hb:∀b,H b=none->b≠e:=λb n z=>by
  subst z
  rcases he with r |r
  ·exact hx b n r
  ·rw[n] at r;cases r
 have hm:∀b u,H b=some u->¬L5 (some u)->b≠x:=λb u q nm z=>by subst z;rw[q] at mu;exact nm mu
 refine⟨λb u q n _ _=>k b u (hb b n) q,λb u q n _ _=>⟨u.slots,k b u (hb b n) q⟩,λb u q n _=>by rw[aC (hx b n)];exact n,λb u q _=>?_,
  λb xs q=>by rw[aC (hm b _ q λz=>z)];exact q,λb u xs q=>by rw[aC (hm b _ q λz=>z)];exact q,λb ps q=>⟨#[],by rw[aC (hm b _ q λz=>z),q];simp⟩⟩
 by_cases hbe:b=e
 ·subst hbe;exact heo
 ·exact⟨u,k b u hbe q⟩
end
def LZ (h:Heap)(H:Hp):List Addr:=(List.range h.objs.size).filter λa=>(H a).isSome
def uM (h:Heap)(H:Hp):Heap:=PySem.W.hideAll h (LZ h H)
def AW (h:Heap)(H:Hp):(uM h H).objs.size=h.objs.size:=PySem.W.hideAll_size _ _
def CT {h:Heap}{H:Hp}{b:Addr}{o:Obj}(e:h.get? b=some o)(n:H b=none):(uM h H).get? b=some o:=
 PySem.W.hideAll_get _ e λhm=>by
  have q:(H b).isSome=true:=(Oi.mp hm).2
  rw[n] at q;simp at q
theorem Fv {h:Heap}{H:Hp}{b:Addr}{o:Obj}(e:(uM h H).get? b=some o):h.get? b=some o/\H b=none:=by
 have e':h.get? b=some o:=PySem.W.of_hideAll (LZ h H) e
 refine⟨e',?_⟩
 cases q:H b with
 |none=>rfl
 |some x=>
  have hm:b∈LZ h H:=Oi.mpr ⟨Og.mpr (Oc e'),by simp[q]⟩
  have z:(uM h H).get? b=none:=PySem.W.hideAll_none (LZ h H) hm
  rw[z] at e;cases e
def FP (g h:Heap)(L:Addr):List (Addr×Obj):=(List.range h.objs.size).filterMap λa=>if a=L\/(g.get? a).isSome=true then none else (h.get? a).map λo=>(a,o)
def rest (g h:Heap)(L d:Addr):List (Addr×Obj):=(FP g h L).filter λp=>decide (p.1≠d)
structure Mod (K:Frag)(mg:Str->Option Value)(base:Heap):Prop where
 kin:K.In base
 glob:base.Ns mainGlobals mg
 blt:∃mb,base.Ns builtinsNs mb/\∀x:Str,x≠"__name__"->mb x=bootBuiltins x
 nolimit:base.NoLimit
 sys:∃mm,base.Ns sysModules mm
structure Cx where
 prog:Program
 w:World
 K:Frag
 mg:Str->Option Value
 base:Heap
 A:Around
 N:List Str
 s₀:Shared
 H₀:Hp
 env:Env
 outer:List Env
 stack:List Env
 ex:List Addr
 fn:Str->Bool
 calm:Bool
 pn:List (Addr×Obj)
 xe:Value->Shared->Prop
def mK (l:List Env):List Addr:=l.filterMap (·.frame)
abbrev Cx.fs (X:Cx):List Addr:=mK X.outer
def AL (sc:Scope)(x:Str):Prop:=sc.names.lookup x=some .local\/sc.names.lookup x=some .cell\/sc.names.lookup x=some .free
def Loc (sc:Scope)(x:Str):Prop:=sc.names.lookup x=some .local\/sc.names.lookup x=some .cell
def Look (env:Env)(h:Heap)(m:Str->Option Value)(x:Str)(u:Value):Prop:=
 (env.kindOf x=some .local/\m x=some u)\/((env.kindOf x=some .cell\/env.kindOf x=some .free)/\∃c,env.cells.lookup x=some c/\h.IsCell c (some u))
structure Cx.Ok (X:Cx):Prop where
 mod:Mod X.K X.mg X.base
 kind:X.env.scope.kind=.function
 glob:X.env.globals=mainGlobals
 blt:X.env.builtins=builtinsNs
 above:X.s₀.heap.objs.size<=X.env.locals
 inj:∀x y c,X.env.cells.lookup x=some c->X.env.cells.lookup y=some c->x=y
 has:∀x,(X.env.kindOf x=some .cell\/X.env.kindOf x=some .free)->∃c,X.env.cells.lookup x=some c
 cab:∀x c,X.fn x=true->X.env.cells.lookup x=some c->X.s₀.heap.objs.size<=c
 hd:X.calm=true->X.A.handled=none
 frames:X.A.frames=some X.stack
 stk:X.stack=X.outer\/(X.stack=X.env :: X.outer/\X.env.frame=some X.env.locals)
 exf:∀b∈X.ex,b≠X.env.locals/\∀x c,X.env.cells.lookup x=some c->c≠b
 bs:∀b o,X.base.get? b=some o->X.s₀.heap.get? b=some o/\X.H₀ b=none
 bsz:X.base.objs.size<=X.s₀.heap.objs.size
 noex:∀b o,X.base.get? b=some o->b∉X.ex
 exfs:∀b∈X.ex,b∉X.fs
 funs:X.s₀.heap.FunFrames X.base X.outer
 frf:∀b∈X.fs,X.H₀ b=none
structure Inv (X:Cx)(pins:List (Addr×Obj))(σ:List (Option V))(H:Hp)(s:Shared):Prop where
 ok:X.Ok
 os:s.os=X.s₀.os
 bare:AllBare s.gens
 base:Un X.fs X.ex X.H₀ H X.s₀.heap s.heap
 loc:∃m,s.heap.Ns X.env.locals m/\∀(i:Nat) (x:Str) (v:V),X.N[i]? =some x->σ[i]? =some (some v)->AL X.env.scope x->∃u,RelV v u/\Look X.env s.heap m x u
 cell:∀x c,X.env.cells.lookup x=some c->∃v,s.heap.IsCell c v
 free:H X.env.locals=none
 freeC:∀x c,X.env.cells.lookup x=some c->H c=none
 pin:∀p∈X.pn ++ pins,s.heap.get? p.1=some p.2/\H p.1=none/\p.1≠X.env.locals/\p.1∉X.fs/\∀v,p.2.data≠.cell v
 hok:nD X.prog X.w H s.heap
 len:σ.length=X.N.length
section
variable {X:Cx}{pins:List (Addr×Obj)}{σ:List (Option V)}{H H':Hp}{s:Shared}{h':Heap}
def Cx.Ok.nofr (ok:X.Ok){b:Addr}{o:Obj}(e:X.base.get? b=some o):b∉X.fs:=λhb=>by
 have:=(ok.funs.mem hb).1
 rw[e] at this;cases this
def Inv.bs (I:Inv X pins σ H s):∀b o,X.base.get? b=some o->s.heap.get? b=some o/\H b=none:=λb o e=>
 ⟨I.base.keep b o (I.ok.bs b o e).1 (I.ok.bs b o e).2 (I.ok.nofr e) (I.ok.noex b o e),I.base.free b o (I.ok.bs b o e).1 (I.ok.bs b o e).2 (I.ok.noex b o e)⟩
def Inv.bk (I:Inv X pins σ H s):∀b o,X.base.get? b=some o->s.heap.get? b=some o:=λb o e=>(I.bs b o e).1
def Inv.mod (I:Inv X pins σ H s):Mod X.K X.mg X.base:=I.ok.mod
def Inv.kIn (I:Inv X pins σ H s):X.K.In s.heap:=I.ok.mod.kin.keeps I.bk
def Inv.lt (I:Inv X pins σ H s):X.env.locals < s.heap.objs.size:=let ⟨_,hn,_⟩:=I.loc;hn.lt
def Inv.sz (I:Inv X pins σ H s):X.s₀.heap.objs.size<=s.heap.objs.size:=Pl I.ok.above (Nat.le_of_lt I.lt)
def Inv.nofs (I:Inv X pins σ H s){a:Addr}(h:s.heap.objs.size<=a):a∉X.fs:=λhb=>by
 obtain⟨_,o,ho,_⟩:=I.ok.funs.mem hb
 exact absurd (OF (Oc ho) (Pl I.sz h)) (OO _)
def Inv.cne (I:Inv X pins σ H s):∀x c,X.env.cells.lookup x=some c->c≠X.env.locals:=λx c e z=>by
 obtain⟨v,o,ho,hd⟩:=I.cell x c e
 obtain⟨m,⟨o',es,ep,ho',hd',_⟩,_⟩:=I.loc
 rw[z,ho'] at ho;cases ho;rw[hd'] at hd;cases hd
def Inv.funs (I:Inv X pins σ H s):s.heap.FunFrames X.base X.outer:=by
 have all:∀(l:List Env),(∀b∈mK l,b∈X.fs)->X.s₀.heap.FunFrames X.base l->s.heap.FunFrames X.base l:=by
  intro l
  induction l with
  |nil=>intro _ _;trivial
  |cons env r ih=>
   intro hs hl
   obtain⟨hk,⟨L,o,hf,hn,ho,hd⟩,hr⟩:=hl
   have hL:L∈X.fs:=hs L (by unfold mK;rw[QR,hf];exact N0)
   obtain⟨sl,e⟩:=I.base.slot L o ho (I.ok.frf L hL) hL λz=>I.ok.exfs L z hL
   exact⟨hk,⟨L,_,hf,hn,e,hd⟩,ih (λb hb=>hs b (by unfold mK;rw[QR,hf];exact N5 _ hb)) hr⟩
 exact all X.outer (λ_ hb=>hb) I.ok.funs
def Inv.stack (I:Inv X pins σ H s):s.heap.FunFrames X.base X.stack:=by
 rcases I.ok.stk with e | ⟨e,hf⟩
 ·rw[e];exact I.funs
 ·rw[e]
  obtain⟨m,hn,_⟩:=I.loc
  refine .cons (by rw[I.ok.kind];decide) hf hn ?_ I.funs
  exact Heap.get?_none_of_le (Pl I.ok.bsz I.ok.above)
def Inv.stkSub (I:Inv X pins σ H s):∀b∈mK X.stack,b∈X.env.locals :: X.fs:=λb hb=>by
 rcases I.ok.stk with e | ⟨e,hf⟩
 ·rw[e] at hb;exact N5 _ hb
 ·rw[e] at hb
  unfold mK at hb
  rw[QR,hf] at hb
  exact hb
def Inv.stkFree (I:Inv X pins σ H s):∀b∈mK X.stack,H b=none:=λb hb=>by
 rcases NX.mp (I.stkSub b hb) with e |hb
 ·rw[e];exact I.free
 ·obtain⟨_,o,ho,_⟩:=I.ok.funs.mem hb
  exact I.base.free b o ho (I.ok.frf b hb) λz=>I.ok.exfs b z hb
def Inv.step {g':Array GenState}{t':Nat}{d':Drawn}{ch:List Addr}(I:Inv X pins σ H s)
  (hch:∀b∈ch,(b∈X.ex\/X.s₀.heap.objs.size<=b)/\b≠X.env.locals/\(∀x c,X.env.cells.lookup x=some c->c≠b)/\∀p∈X.pn ++ pins,p.1≠b)
  (keep:∀b o,b≠X.env.locals->b∉X.fs->b∉ch->s.heap.get? b=some o->H b=none->h'.get? b=some o)
  (slot:∀b o,b≠X.env.locals->b∈X.fs->b∉ch->s.heap.get? b=some o->H b=none->∃sl,h'.get? b=some {o with slots:=sl}) (free:∀b o,b∉ch->s.heap.get? b=some o->H b=none->H' b=none)
  (there:∀b o,b∉ch->s.heap.get? b=some o->∃o',h'.get? b=some o')
  (tups:∀b xs,H b=some (.tup xs)->H' b=some (.tup xs)) (frzs:∀b o u,H b=some (.bp o u)->H' b=some (.bp o u)) (tbls:∀b ps,H b=some (.tbl ps)->∃more,H' b=some (.tbl (ps ++ more)))
  (ns:∀m,s.heap.Ns X.env.locals m->h'.Ns X.env.locals m) (hok:nD X.prog X.w H' h') (hg:AllBare g') :
  Inv X pins σ H' {s with heap:=h',gens:=g',drawn:=d',toks:=t'}:=by
 have neL:∀b o,X.s₀.heap.get? b=some o->b≠X.env.locals:=λb o e=>Oz (OF (Oc e) I.ok.above)
 have neC:∀b o,X.s₀.heap.get? b=some o->b∉X.ex->b∉ch:=λb o e hx hb=>by
  rcases (hch b hb).1 with z |z
  ·exact hx z
  ·exact absurd (OF (Oc e) z) (OO _)
 have cellK:∀x c,X.env.cells.lookup x=some c->∀v,s.heap.IsCell c v->h'.IsCell c v:=λx c e v ⟨o,ho,hd⟩=>by
  have nch:c∉ch:=λz=>(hch c z).2.2.1 x c e rfl
  by_cases hc:c∈X.fs
  ·obtain⟨sl,q⟩:=slot c o (I.cne x c e) hc nch ho (I.freeC x c e)
   exact⟨_,q,hd⟩
  ·exact⟨o,keep c o (I.cne x c e) hc nch ho (I.freeC x c e),hd⟩
 refine⟨I.ok,I.os,hg,⟨λb o e n hb hx=>?_,λb o e n hb hx=>?_,λb o e n hx=>?_,λb o e hx=>?_,λb xs e=>tups b xs (I.base.tups b xs e),λb o xs e=>frzs b o xs (I.base.frzs b o xs e),λb ps e=>?_⟩,?_,λx c e=>?_,?_,λx c e=>?_,λp hp=>?_,hok,I.len⟩
 ·exact keep b o (neL b o e) hb (neC b o e hx) (I.base.keep b o e n hb hx) (I.base.free b o e n hx)
 ·obtain⟨sl,e1⟩:=I.base.slot b o e n hb hx
  obtain⟨sl',e2⟩:=slot b _ (neL b o e) hb (neC b o e hx) e1 (I.base.free b o e n hx)
  exact⟨sl',e2⟩
 ·obtain⟨o',e1⟩:=I.base.there b o e hx
  exact free b o' (neC b o e hx) e1 (I.base.free b o e n hx)
 ·obtain⟨o',e1⟩:=I.base.there b o e hx
  exact there b o' (neC b o e hx) e1
 ·obtain⟨m1,e1⟩:=I.base.tbls b ps e
  obtain⟨m2,e2⟩:=tbls b _ e1
  exact⟨m1 ++ m2,by rw[e2,Array.append_assoc]⟩
 ·obtain⟨m,hn,hl⟩:=I.loc
  refine⟨m,ns m hn,λi x v e1 e2 e3=>?_⟩
  obtain⟨u,r,l⟩:=hl i x v e1 e2 e3
  refine⟨u,r,?_⟩
  rcases l with l | ⟨k,c,e,z⟩
  ·exact .inl l
  ·exact .inr ⟨k,c,e,cellK x c e _ z⟩
 ·obtain⟨v,z⟩:=I.cell x c e
  exact⟨v,cellK x c e v z⟩
 ·obtain⟨m,⟨o,_,_,ho,_⟩,_⟩:=I.loc
  exact free _ o (λz=>(hch _ z).2.1 rfl) ho I.free
 ·obtain⟨v,o,ho,hd⟩:=I.cell x c e
  exact free c o (λz=>(hch c z).2.2.1 x c e rfl) ho (I.freeC x c e)
 ·obtain⟨e,n,ne,nf,d⟩:=I.pin p hp
  have nch:p.1∉ch:=λz=>(hch p.1 z).2.2.2 p hp rfl
  exact⟨keep p.1 p.2 ne nf nch e n,free p.1 p.2 nch e n,ne,nf,d⟩
def Inv.un {t':Nat}(I:Inv X pins σ H s)(u:Un X.fs [] H H' s.heap h')(hok:nD X.prog X.w H' h'):Inv X pins σ H' {s with heap:=h',toks:=t'}:=by
 obtain⟨m,⟨o,es,ep,ho,r⟩,_⟩:=id I.loc
 obtain⟨sl,hL⟩:=u.any ho I.free (by simp)
 exact I.step (g':=s.gens) (d':=s.drawn) (ch:=[]) (λ_ z=>nomatch z) (λb o _ hb _ e n=>u.keep b o e n hb (by simp)) (λb o _ hb _ e n=>u.slot b o e n hb (by simp)) (λb o _ e n=>u.free b o e n (by simp)) (λb o _ e=>u.there b o e (by simp)) u.tups u.frzs u.tbls (λm' hm=>by
  obtain⟨o',es',ep',ho',r'⟩:=hm
  rw[ho] at ho';cases ho'
  exact⟨_,es',ep',hL,r'⟩) hok I.bare
def Inv.call {g':Array GenState}{t':Nat}{d':Drawn}{ch:List Addr}(I:Inv X pins σ H s)(u:Un (mK X.stack) ch H H' s.heap h')(hok:nD X.prog X.w H' h')(hg:AllBare g')
  (hch:∀b∈ch,(b∈X.ex\/X.s₀.heap.objs.size<=b)/\b≠X.env.locals/\(∀x c,X.env.cells.lookup x=some c->c≠b)/\∀p∈X.pn ++ pins,p.1≠b) :
  Inv X pins σ H' {s with heap:=h',gens:=g',drawn:=d',toks:=t'}:=by
 obtain⟨m,⟨o,es,ep,ho,r⟩,_⟩:=id I.loc
 obtain⟨sl,hL⟩:=u.any ho I.free λz=>(hch _ z).2.1 rfl
 exact I.step (ch:=ch) hch (λb o hL hb hc e n=>u.keep b o e n (λz=>(NX.mp (I.stkSub b z)).elim hL hb) hc) (λb o _ _ hc e n=>u.any e n hc) (λb o hc e n=>u.free b o e n hc) (λb o hc e=>u.there b o e hc) u.tups u.frzs u.tbls (λm' hm=>by
  obtain⟨o',es',ep',ho',r'⟩:=hm
  rw[ho] at ho';cases ho'
  exact⟨_,es',ep',hL,r'⟩) hok hg
def Inv.turned {t':Nat}{it:Addr}(I:Inv X pins σ H s)(k:∀b o,b≠it->s.heap.get? b=some o->h'.get? b=some o)(hn:H it=none)(hL:it≠X.env.locals)
  (h1:it∈X.ex\/X.s₀.heap.objs.size<=it) (h2:∀x c,X.env.cells.lookup x=some c->c≠it) (h3:∀p∈X.pn ++ pins,p.1≠it):Inv X pins σ H {s with heap:=h',toks:=t'}:=by
 have nit:∀b u,H b=some u->b≠it:=λb u e z=>by rw[z,hn] at e;cases e
 refine I.step (g':=s.gens) (d':=s.drawn) (ch:=[it]) (λb hb=>?_) (λb o _ _ hc e _=>k b o (λz=>hc (by simp[z])) e) (λb o _ _ hc e _=>⟨o.slots,k b o (λz=>hc (by simp[z])) e⟩) (λ_ _ _ _ n=>n)
  (λb o hc e=>⟨o,k b o (λz=>hc (by simp[z])) e⟩) (λ_ _ e=>e) (λ_ _ _ e=>e) (λb ps e=>⟨#[],by rw[e];simp⟩) (λm hm=>?_) (λb u e=>?_) I.bare
 ·have e:b=it:=by simpa using hb
  subst e
  exact⟨h1,hL,h2,h3⟩
 ·obtain⟨o,es,ep,ho,r⟩:=hm
  exact⟨o,es,ep,k _ o (Ne.symm hL) ho,r⟩
 ·refine (I.hok b u e).stay (λc v hc q=>k c v ?_ q) (λ_ q=>q) λ_ _ q=>q
  rcases hc with z |z
  ·rw[z];exact nit b u e
  ·exact nit c _ z
def Inv.tok (I:Inv X pins σ H s)(t:Nat):Inv X pins σ H {s with toks:=t}:=I.un (h':=s.heap) (t':=t) Un.refl I.hok
def Inv.kept {t':Nat}(I:Inv X pins σ H s)(k:∀b u,s.heap.get? b=some u->h'.get? b=some u):Inv X pins σ H {s with heap:=h',toks:=t'}:=I.un (Un.kept k) (I.hok.kept k)
def Inv.laid {a:Addr}{o:HO}{t':Nat}(I:Inv X pins σ H s)(k:∀b u,s.heap.get? b=some u->h'.get? b=some u)(hp:s.heap.objs.size<=a)(new:cx X.prog X.w (upd H a o) h' a o) :
  Inv X pins σ (upd H a o) {s with heap:=h',toks:=t'}:=I.un (Un.laid k hp (I.hok.fresh hp)) (I.hok.laid k hp new)
def Inv.write {x e:Addr}{o:HO}{t':Nat}(I:Inv X pins σ H s)(mu:L5 (H x))(he:e=x\/H e=some (.own x))(k:∀b u,b≠e->s.heap.get? b=some u->h'.get? b=some u)(heo:∃u,h'.get? e=some u)
  (new:cx X.prog X.w (upd H x o) h' x o):Inv X pins σ (upd H x o) {s with heap:=h',toks:=t'}:=I.un (Un.write mu he k heo) (I.hok.write mu he k heo new)
def Inv.pins_of {pins':List (Addr×Obj)}(I:Inv X pins σ H s)(h:∀p∈pins',s.heap.get? p.1=some p.2/\H p.1=none/\p.1≠X.env.locals/\p.1∉X.fs/\∀v,p.2.data≠.cell v):Inv X pins' σ H s:=
 ⟨I.ok,I.os,I.bare,I.base,I.loc,I.cell,I.free,I.freeC,λp hp=>(Of.mp hp).elim (λz=>I.pin p (Pa _ z)) (h p),I.hok,I.len⟩
def wu {N:List Str}(hN:N.Nodup){i j:Nat}{x:Str}(a:N[i]? =some x)(b:N[j]? =some x):i=j:=by
 obtain⟨h1,e1⟩:=N9.mp a
 obtain⟨h2,e2⟩:=N9.mp b
 exact (List.getElem_inj hN).mp (e1.trans e2.symm)
def sx {M:Model}{A:Around}{E:Value->Shared->Prop}{i:Nat}{x:Str}{v:V}{u:Value}{Q:Unit->Shared->Prop}(I:Inv X pins σ H s)(hN:X.N.Nodup)(hi:X.N[i]? =some x)(hx:Loc X.env.scope x)(r:RelV v u)
  (h:∀s',Inv X pins (σ.set i (some v)) H s'->(∃a,Heap.SameBut a s.heap s'.heap/\(a=X.env.locals\/X.env.cells.lookup x=some a))->Q () s') (hf:X.fn x=true\/X.env.scope.names.lookup x=some .local:=by first |exact .inl rfl |exact .inr rfl |assumption):wpAny M A (storeName X.env x u) Q E s:=by
 obtain⟨m,hn,hl⟩:=id I.loc
 have hcls:(X.env.scope.kind == .class || (X.env.scope.kind == .module && X.env.locals != X.env.globals))=false:=by rw[I.ok.kind];rfl
 have hiσ:i < σ.length:=by rw[I.len];exact (N9.mp hi).1
 have cne:=I.cne
 have tracked:∀{a:Addr} {h':Heap},(∃o,s.heap.get? a=some o/\H a=none)->Heap.SameBut a s.heap h'->nD X.prog X.w H h':=λ{a h'} ha hs b ob e=>by
  obtain⟨_,_,hfree⟩:=ha
  refine (I.hok b ob e).stay (λc w' hc q=>(hs.2 c ?_).trans q) (λ_ q=>q) λ_ _ q=>q
  rintro rfl
  rcases hc with rfl |hc
  ·rw[hfree] at e;cases e
  ·rw[hfree] at hc;cases hc
 rcases hx with hk |hk
 ·refine wpAny_storeName_local hk hn (λh' hn' hs=>?_) hcls
  obtain⟨oL,_,_,hoL,_⟩:=id hn
  refine h _ ⟨I.ok,I.os,I.bare,⟨λb o e n hb hx=>?_,λb o e n hb hx=>?_,I.base.free,λb o e hx=>?_,I.base.tups,I.base.frzs,I.base.tbls⟩,⟨_,hn',λj y v' e1 e2 e3=>?_⟩,λy c e=>?_,I.free,I.freeC,λp hp=>?_,tracked ⟨oL,hoL,I.free⟩ hs,by simpa using I.len⟩ ⟨_,hs,.inl rfl⟩
  ·exact (hs.2 b (Oz (OF (Oc e) I.ok.above))).trans (I.base.keep b o e n hb hx)
  ·obtain⟨sl,e1⟩:=I.base.slot b o e n hb hx
   exact⟨sl,(hs.2 b (Oz (OF (Oc e) I.ok.above))).trans e1⟩
  ·obtain⟨o',e1⟩:=I.base.there b o e hx
   exact⟨o',(hs.2 b (Oz (OF (Oc e) I.ok.above))).trans e1⟩
  ·by_cases hj:j=i
   ·subst hj
    rw[hi] at e1;cases e1
    rw[Oy hiσ] at e2
    cases e2
    exact⟨u,r,.inl ⟨hk,by simp⟩⟩
   ·rw[Ou (Ne.symm hj)] at e2
    obtain⟨u',r',q⟩:=hl j y v' e1 e2 e3
    refine⟨u',r',?_⟩
    rcases q with⟨k,e⟩ | ⟨k,c,e,z⟩
    ·refine .inl ⟨k,?_⟩
     have:y≠x:=λe=>hj (wu hN e1 (e▸hi))
     simp[this,e]
    ·exact .inr ⟨k,c,e,z.sameBut hs (cne y c e)⟩
  ·obtain⟨w',z⟩:=I.cell y c e
   exact⟨w',z.sameBut hs (cne y c e)⟩
  ·obtain⟨e,n,ne,nf,d⟩:=I.pin p hp
   exact⟨(hs.2 p.1 ne).trans e,n,ne,nf,d⟩
 ·have hfn:X.fn x=true:=by
   rcases hf with z |z
   ·exact z
   ·rw[z] at hk;cases hk
  obtain⟨c,hc⟩:=I.ok.has x (.inl hk)
  obtain⟨w',z⟩:=I.cell x c hc
  refine wpAny_storeName_cell I.ok.kind hk hc z (λh' hc' hs=>?_)
  obtain⟨oc,hoc,hocd⟩:=id z
  refine h {s with heap:=h'} ⟨I.ok,I.os,I.bare,⟨λb o e n hb hx=>?_,λb o e n hb hx=>?_,I.base.free,λb o e hx=>?_,I.base.tups,I.base.frzs,I.base.tbls⟩,⟨m,hn.sameBut hs (Ne.symm (cne x c hc)),λj y v' e1 e2 e3=>?_⟩,λy c' e=>?_,I.free,I.freeC,λp hp=>?_,tracked ⟨oc,hoc,I.freeC x c hc⟩ hs,by simpa using I.len⟩ ⟨c,hs,.inr hc⟩
  ·exact (hs.2 b (Oz (OF (Oc e) (I.ok.cab x c hfn hc)))).trans (I.base.keep b o e n hb hx)
  ·obtain⟨sl,e1⟩:=I.base.slot b o e n hb hx
   exact⟨sl,(hs.2 b (Oz (OF (Oc e) (I.ok.cab x c hfn hc)))).trans e1⟩
  ·obtain⟨o',e1⟩:=I.base.there b o e hx
   exact⟨o',(hs.2 b (Oz (OF (Oc e) (I.ok.cab x c hfn hc)))).trans e1⟩
  ·by_cases hj:j=i
   ·subst hj
    rw[hi] at e1;cases e1
    rw[Oy hiσ] at e2
    cases e2
    exact⟨u,r,.inr ⟨.inl hk,c,hc,hc'⟩⟩
   ·rw[Ou (Ne.symm hj)] at e2
    obtain⟨u',r',q⟩:=hl j y v' e1 e2 e3
    refine⟨u',r',?_⟩
    rcases q with q | ⟨k,c',e,z'⟩
    ·exact .inl q
    ·refine .inr ⟨k,c',e,z'.sameBut hs ?_⟩
     rintro rfl
     exact hj (wu hN e1 (I.ok.inj _ _ _ e hc▸hi))
  ·by_cases hcc:c'=c
   ·subst hcc;exact⟨_,hc'⟩
   ·obtain⟨w2,z2⟩:=I.cell y c' e
    exact⟨w2,z2.sameBut hs hcc⟩
  ·obtain⟨e,n,ne,nf,d⟩:=I.pin p hp
   refine⟨(hs.2 p.1 ?_).trans e,n,ne,nf,d⟩
   intro q
   rw[q,hoc] at e
   have q':oc=p.2:=Option.some.inj e
   exact d w' (by rw[<-q'];exact hocd)
def w8 {M:Model}{A:Around}{E:Value->Shared->Prop}{i:Nat}{x:Str}{v:V}{u:Value}{Q:Unit->Shared->Prop}(I:Inv X pins σ H s)(hN:X.N.Nodup)(hi:X.N[i]? =some x)(hx:Loc X.env.scope x)(r:RelV v u)
  (h:∀s',Inv X pins (σ.set i (some v)) H s'->Q () s') (hf:X.fn x=true\/X.env.scope.names.lookup x=some .local:=by first |exact .inl rfl |exact .inr rfl |assumption):wpAny M A (storeName X.env x u) Q E s:=
 sx I hN hi hx r (λs' I' _=>h s' I') hf
def Inv.call' {s':Shared}{ch:List Addr}(I:Inv X pins σ H s)(ho:s'.os=s.os)(u:Un (mK X.stack) ch H H' s.heap s'.heap)(hok:nD X.prog X.w H' s'.heap)(hg:AllBare s'.gens)
  (hch:∀b∈ch,(b∈X.ex\/X.s₀.heap.objs.size<=b)/\b≠X.env.locals/\(∀x c,X.env.cells.lookup x=some c->c≠b)/\∀p∈X.pn ++ pins,p.1≠b):Inv X pins σ H' s':=by
 obtain⟨h',g',d',t',o'⟩:=s'
 have e:o'=s.os:=ho
 subst e
 exact I.call (g':=g') (t':=t') (d':=d') u hok hg hch
end
abbrev XK:=Value->Option Addr->Hp->Prop
abbrev St:=List (Option V)
abbrev VK:=V->Hp->Prop
abbrev TE:=St->Hp->VK->Prop
abbrev TT:=St->Hp->(Bool->Hp->Prop)->Prop
abbrev TA:=St->Hp->(List V->Hp->Prop)->Prop
structure Ends where
 nx:St->Hp->Prop
 rt:VK
 bk:St->Hp->Prop:=λ_ _=>False
 ct:St->Hp->Prop:=λ_ _=>False
abbrev TS:=Ends->St->Hp->Prop
def EP (X:Cx)(pins:List (Addr×Obj))(σ:St)(Q:VK)(u:Value)(s':Shared):Prop:=∃v H',Inv X pins σ H' s'/\RelV v u/\Q v H'
def TP (X:Cx)(pins:List (Addr×Obj))(σ:St)(Q:Bool->Hp->Prop)(b:Bool)(s':Shared):Prop:=∃H',Inv X pins σ H' s'/\Q b H'
def AP (X:Cx)(pins:List (Addr×Obj))(σ:St)(Q:List V->Hp->Prop)(us:List Value)(s':Shared):Prop:=∃vs H',Inv X pins σ H' s'/\Vals vs us/\Q vs H'
def SP (X:Cx)(pins:List (Addr×Obj))(D:Ends)(f:Flow)(s':Shared):Prop:=
 match f with
 | .next=>∃σ' H',Inv X pins σ' H' s'/\D.nx σ' H'
 | .brk=>∃σ' H',Inv X pins σ' H' s'/\D.bk σ' H'
 | .cont=>∃σ' H',Inv X pins σ' H' s'/\D.ct σ' H'
 | .ret u=>∃v σ' H',Inv X pins σ' H' s'/\RelV v u/\D.rt v H'
def PE (X:Cx)(e:Expr)(t:TE):Prop:=
 ∀(pins:List (Addr×Obj)) (s:Shared) (σ:St) (H:Hp) (Q:VK),Inv X pins σ H s->t σ H Q->wpAny (model X.prog X.w) X.A (eval e X.env) (EP X pins σ Q) X.xe s
def PT (X:Cx)(e:Expr)(t:TT):Prop:=
 ∀(pins:List (Addr×Obj)) (s:Shared) (σ:St) (H:Hp) (Q:Bool->Hp->Prop),Inv X pins σ H s->t σ H Q->wpAny (model X.prog X.w) X.A (isTrue e X.env (eval e X.env)) (TP X pins σ Q) X.xe s
def PW (X:Cx)(e:Expr)(t:TT):Prop:=
 ∀(whole:Sem Value) (pins:List (Addr×Obj)) (s:Shared) (σ:St) (H:Hp) (Q:Bool->Hp->Prop),Inv X pins σ H s->t σ H Q->wpAny (model X.prog X.w) X.A (isTrue e X.env whole) (TP X pins σ Q) X.xe s
def PW.pt {X:Cx}{e:Expr}{t:TT}(h:PW X e t):PT X e t:=h _
def PA (X:Cx)(es:List Expr)(t:TA):Prop:=
 ∀(pos:Pos) (pins:List (Addr×Obj)) (s:Shared) (σ:St) (H:Hp) (Q:List V->Hp->Prop),Inv X pins σ H s->t σ H Q->wpAny (model X.prog X.w) X.A (spliced (backTo pos (starEach es X.env))) (AP X pins σ Q) X.xe s
def PS (X:Cx)(st:Stmt)(t:TS):Prop:=
 ∀(pins:List (Addr×Obj)) (s:Shared) (σ:St) (H:Hp) (D:Ends),Inv X pins σ H s->t D σ H->wpAny (model X.prog X.w) X.A (exec st X.env) (SP X pins D) X.xe s
def sV (X:Cx)(st:List Stmt)(t:TS):Prop:=
 ∀(pins:List (Addr×Obj)) (s:Shared) (σ:St) (H:Hp) (D:Ends),Inv X pins σ H s->t D σ H->wpAny (model X.prog X.w) X.A (execs st X.env) (SP X pins D) X.xe s
def cR {α:Type}{t:Sem α}{Q Q':α->Shared->Prop}{M:Model}{A:Around}{E:Value->Shared->Prop}{s:Shared}(h:wpAny M A t Q E s)(hQ:∀a s,Q a s->Q' a s):wpAny M A t Q' E s:=PR h hQ λ_ _ x=>x
section
variable {X:Cx}
def bin {a b:Expr}{ta tb:TE}(ha:PE X a ta)(hb:PE X b tb){pins:List (Addr×Obj)}{s:Shared}{σ:St}{H:Hp}{R:V->V->Hp->Prop}(I:Inv X pins σ H s)(h:ta σ H λx H1=>tb σ H1 λy H2=>R x y H2)
  {α:Type} {Q:α->Shared->Prop} {f:Value->Value->Sem α}
  (hf:∀v u s2 x y H2,Inv X pins σ H2 s2->RelV x v->RelV y u->R x y H2->wpAny (model X.prog X.w) X.A (f v u) Q X.xe s2) :
  wpAny (model X.prog X.w) X.A (eval a X.env) (λv s₁=>wpAny (model X.prog X.w) X.A (eval b X.env) (λu s₂=>wpAny (model X.prog X.w) X.A (f v u) Q X.xe s₂) X.xe s₁) X.xe s:=by
 refine cR (ha pins s σ H _ I h) λv s1 ⟨x,H1,I1,r1,q1⟩=>?_
 refine cR (hb pins s1 σ H1 _ I1 q1) λu s2 ⟨y,H2,I2,r2,q2⟩=>?_
 exact hf v u s2 x y H2 I2 r1 r2 q2
def Fb (i:Nat):TE:=λσ H Q=>∃v,σ[i]? =some (some v)/\Q v H
def tC (v:V):TE:=λ_ H Q=>Q v H
def ju {i:Nat}{x:Str}{pos:Pos}(hN:X.N[i]? =some x)(hv:AL X.env.scope x)(hd:(x == ("__debug__":Str))=false:=by decide)(hcd:(x == ("__classdict__":Str))=false:=by decide):PE X (.Name x pos) (Fb i):=by
 intro pins s σ H Q I h
 obtain⟨v,e,h⟩:=h
 obtain⟨m,hn,hl⟩:=I.loc
 obtain⟨u,r,l⟩:=hl i x v hN e hv
 have fin:EP X pins σ Q u s:=⟨v,H,I,r,h⟩
 rcases l with⟨hk,hm⟩ | ⟨hk,c,hc,hcell⟩
 ·exact wpAny_Name (wpAny_loadName_local I.ok.kind hk hn hm fin) hd
 ·rcases hk with hk |hk
  ·exact wpAny_Name (wpAny_loadName_cell I.ok.kind hk hc hcell fin) hd
  ·exact wpAny_Name (wpAny_loadName_free I.ok.kind hk hc hcell fin hcd) hd
def uo {i j pos}:PE X (.Constant (.int i) j pos) (tC (.int i)):=λ_ _ _ H _ I h=>wpAny_Constant_int ⟨.int i,H,I.tok _,⟨_,rfl⟩,h⟩
def zm {b j pos}:PE X (.Constant (.bool b) j pos) (tC (.bl b)):=λ_ _ _ H _ I h=>Constant_bool ⟨.bl b,H,I,rfl,h⟩
def IZ {j pos}:PE X (.Constant .none j pos) (tC .non):=λ_ _ _ H _ I h=>Constant_none ⟨.non,H,I,rfl,h⟩
def Gl (X:Cx)(x:Str):Prop:=X.env.kindOf x=some .globalImplicit
def Af {E:Value->Shared->Prop}{pins:List (Addr×Obj)}{s:Shared}{σ:St}{H:Hp}{x:Str}{u:Value}{pos:Pos}{Q:Value->Shared->Prop}(I:Inv X pins σ H s)(hg:Gl X x)(hm:X.mg x=some u)(h:Q u s)
  (hd:(x == ("__debug__":Str))=false:=by decide):wpAny (model X.prog X.w) X.A (eval (.Name x pos) X.env) Q E s:=
 Calls.Name_function_global I.ok.kind hg (Calls.loadGlobal_global (by rw[I.ok.glob];exact I.mod.glob.keeps I.bk) hm h) hd
def lg {E:Value->Shared->Prop}{pins:List (Addr×Obj)}{s:Shared}{σ:St}{H:Hp}{x:Str}{u:Value}{pos:Pos}{Q:Value->Shared->Prop}(I:Inv X pins σ H s)(hg:Gl X x)(hm:X.mg x=none)(hv:bootBuiltins x=some u)(h:Q u s)
  (hn:x≠"__name__":=by decide) (hd:(x == ("__debug__":Str))=false:=by decide):wpAny (model X.prog X.w) X.A (eval (.Name x pos) X.env) Q E s:=by
 obtain⟨mb,h1,h2⟩:=I.mod.blt
 exact Calls.Name_function_global I.ok.kind hg (Calls.loadGlobal_builtin (by rw[I.ok.glob];exact I.mod.glob.keeps I.bk) hm (by rw[I.ok.blt];exact h1.keeps I.bk) ((h2 x hn).trans hv) h) hd
def Fw {x:Str}{v:V}{u:Value}{pos:Pos}(hg:Gl X x)(hm:X.mg x=some u)(r:RelV v u)(hd:(x == ("__debug__":Str))=false:=by decide):PE X (.Name x pos) (tC v):=
 λ_ _ _ H _ I h=>Af I hg hm ⟨v,H,I,r,h⟩ hd
def Gu {x:Str}{v:V}{u:Value}{pos:Pos}(hg:Gl X x)(hm:X.mg x=none)(hv:bootBuiltins x=some u)(r:RelV v u)(hn:x≠"__name__":=by decide)(hd:(x == ("__debug__":Str))=false:=by decide):PE X (.Name x pos) (tC v):=
 λ_ _ _ H _ I h=>lg I hg hm hv ⟨v,H,I,r,h⟩ hn hd
variable {a b:Expr}{ta tb:TE}{pos:Pos}
def PC (X:Cx)(op:CmpOp)(a b:Expr)(t:TE):Prop:=
 ∀(pins:List (Addr×Obj)) (s:Shared) (σ:St) (H:Hp) (Q:VK),Inv X pins σ H s->t σ H Q->
  wpAny (model X.prog X.w) X.A (eval a X.env) (λv s₁=>wpAny (model X.prog X.w) X.A (eval b X.env) (λu s₂=>wpAny (model X.prog X.w) X.A (compareOp op v u) (EP X pins σ Q) X.xe s₂) X.xe s₁) X.xe s
def Dj (b:Expr){op:CmpOp}(h:op≠.In)(h2:op≠.NotIn):behindInMarks op b=false:=by
 have e1:(op == CmpOp.In)=false:=by cases op <;> first |rfl |exact absurd rfl h
 have e2:(op == CmpOp.NotIn)=false:=by cases op <;> first |rfl |exact absurd rfl h2
 cases b <;> simp[behindInMarks,e1,e2]
def Ks (ta:TE):TE:=λσ H Q=>ta σ H λx H1=>Q (.bl (!decide (x=.non))) H1
theorem RelV.none_iff {x:V}{v:Value}(r:RelV x v):(v == Value.none)=decide (x=.non):=by
 cases x with
 |non=>cases r;rfl
 |bl _=>cases r;rfl
 |int _=>obtain⟨t,rfl⟩:=r;rfl
 |str _=>obtain⟨t,rfl⟩:=r;rfl
 |byt _=>obtain⟨t,rfl⟩:=r;rfl
 |flt _=>obtain⟨t,rfl⟩:=r;rfl
 |ref _=>cases r;rfl
 |ty _=>cases r;rfl
def E8 {j pos'}(ha:PE X a ta):PC X .IsNot a (.Constant .none j pos') (Ks ta):=by
 intro pins s σ H Q I h
 refine cR (ha pins s σ H _ I h) λv s1 ⟨x,H1,I1,r1,q1⟩=>?_
 exact Constant_none (isnot_none_gen ⟨.bl _,H1,I1,by rw[r1.none_iff];rfl,q1⟩)
def tB (t:TE):TT:=λσ H Q=>t σ H λx H1=>∃c,x=.bl c/\Q c H1
def I0 {op:CmpOp}{t:TE}(h:PC X op a b t)(h1:behindInMarks op b=false:=by first |exact Dj _ (by decide) (by decide) |rfl):PT X (.Compare a [op] [b] pos) (tB t):=by
 intro pins s σ H Q I hw
 refine wpAny_isTrue_Compare1 (cR (h pins s σ H _ I hw) λv s1 h1=>cR h1 λu s2 h2=>cR h2 λc s3 ⟨x,H1,I1,r1,q1⟩=>?_) h1
 obtain⟨d,rfl,q⟩:=q1
 cases r1
 exact PM ⟨H1,I1,q⟩
def x9 {e:Expr}{t:TE}(h:PE X e t)(he:∀whole,isTrue e X.env whole=(do let v <-whole;standAt e.pos;holding [v] (truthy v)):=by intro _;rfl):PT X e (tB t):=by
 intro pins s σ H Q I hw
 refine isTrue_plain (cR (h pins s σ H _ I hw) λv s1 ⟨x,H1,I1,r1,q1⟩=>?_) (he _)
 obtain⟨d,rfl,q⟩:=q1
 cases r1
 exact PM ⟨H1,I1,q⟩
variable {tA tB':TT}{rest:List Expr}
def MV (t u:TT):TT:=λσ H Q=>t σ H λc H1=>if c=true then u σ H1 Q else Q false H1
def NM (t u:TT):TT:=λσ H Q=>t σ H λc H1=>if c=true then Q true H1 else u σ H1 Q
def MT (t:TT):TT:=λσ H Q=>t σ H λc H1=>Q (!c) H1
theorem Ab (ha:PT X a tA):PW X (.BoolOp .And [a] pos) tA:=by
 intro wh pins s σ H Q I h
 refine isTrue_and (cR (ha pins s σ H Q I h) λc s1 e=>?_)
 cases c with
 |true=>exact isTrue_and_nil e
 |false=>exact e
theorem JB (ha:PT X a tA):PW X (.BoolOp .Or [a] pos) tA:=by
 intro wh pins s σ H Q I h
 refine isTrue_or (cR (ha pins s σ H Q I h) λc s1 e=>?_)
 cases c with
 |false=>exact isTrue_or_nil e
 |true=>exact e
theorem D3 (ha:PT X a tA)(hb:PW X (.BoolOp .And (b :: rest) pos) tB'):PW X (.BoolOp .And (a :: b :: rest) pos) (MV tA tB'):=by
 intro wh pins s σ H Q I h
 refine isTrue_and (cR (ha pins s σ H _ I h) λc s1 ⟨H1,I1,q1⟩=>?_)
 cases c with
 |true=>exact hb wh pins s1 σ H1 Q I1 q1
 |false=>exact⟨H1,I1,q1⟩
theorem Kw (ha:PT X a tA)(hb:PW X (.BoolOp .Or (b :: rest) pos) tB'):PW X (.BoolOp .Or (a :: b :: rest) pos) (NM tA tB'):=by
 intro wh pins s σ H Q I h
 refine isTrue_or (cR (ha pins s σ H _ I h) λc s1 ⟨H1,I1,q1⟩=>?_)
 cases c with
 |true=>exact⟨H1,I1,q1⟩
 |false=>exact hb wh pins s1 σ H1 Q I1 q1
def HN (ha:PT X a tA):PT X (.UnaryOp .Not a pos) (MT tA):=by
 intro pins s σ H Q I h
 exact isTrue_not (ha pins s σ H (λc H1=>Q (!c) H1) I h)
def Kg (ta tb:TE):TE:=λσ H Q=>ta σ H λx H1=>∃c,x=.bl c/\if c=true then tb σ H1 Q else Q (.bl false) H1
def LK (ta:TE):TE:=λσ H Q=>ta σ H λx H1=>∃c,x=.bl c/\Q (.bl (!c)) H1
def Ho {op}{t:TE}(h:PE X a t):PE X (.BoolOp op [a] pos) t:=λpins s σ H Q I hw=>BoolOp_one (h pins s σ H Q I hw)
theorem Js (ha:PE X a ta)(hb:PE X (.BoolOp .And (b :: rest) pos) tb):PE X (.BoolOp .And (a :: b :: rest) pos) (Kg ta tb):=by
 intro pins s σ H Q I h
 refine BoolOp_and (cR (ha pins s σ H _ I h) λv s1 ⟨x,H1,I1,r1,q1⟩=>?_)
 obtain⟨c,rfl,q1⟩:=q1
 cases r1
 refine PM ?_
 cases c with
 |true=>exact hb pins s1 σ H1 Q I1 q1
 |false=>exact⟨.bl false,H1,I1,rfl,q1⟩
def Ir (ha:PE X a ta):PE X (.UnaryOp .Not a pos) (LK ta):=by
 intro pins s σ H Q I h
 refine UnaryOp_ (cR (ha pins s σ H _ I h) λv s1 ⟨x,H1,I1,r1,q1⟩=>?_)
 obtain⟨c,rfl,q1⟩:=q1
 cases r1
 exact not_of (PM ⟨.bl (!c),H1,I1,rfl,q1⟩)
end
def gf (K:Frag)(H:Hp)(a:Addr)(xs:List V):Prop:=
 Rd H a (.lst xs)\/
  ∃(o:Obj) (its:Array Value) (n:Nat),K.lookup a=some o/\o.cls=.type "list"/\o.dict=none/\o.data=.seq its n/\its.size<=sizeLine/\Vals xs its.toList
def fO (K:Frag)(H:Hp)(a:Addr)(xs:List V):Prop:=
 Rd H a (.tup xs)\/
  ∃(o:Obj) (its:Array Value) (n:Nat),K.lookup a=some o/\o.cls=.type "tuple"/\o.data=.seq its n/\its.size<=sizeLine/\Vals xs its.toList/\o.dict=none
def Mr:Value->Option V
 | .none=>some .non
 | .bool b=>some (.bl b)
 | .int i _=>some (.int i)
 | .str x _=>some (.str x)
 | .bytes b _=>some (.byt b)
 | .float b _=>some (.flt b)
 | .ref a=>some (.ref a)
 | .type n=>some (.ty n)
 |_=>none
theorem RelV.abs {x:V}{u:Value}(r:RelV x u):Mr u=some x:=by
 cases x with
 |non=>cases r;rfl
 |bl _=>cases r;rfl
 |int _=>obtain⟨t,rfl⟩:=r;rfl
 |str _=>obtain⟨t,rfl⟩:=r;rfl
 |byt _=>obtain⟨t,rfl⟩:=r;rfl
 |flt _=>obtain⟨t,rfl⟩:=r;rfl
 |ref _=>cases r;rfl
 |ty _=>cases r;rfl
def RelV.inj {x y:V}{u:Value}(r:RelV x u)(q:RelV y u):x=y:=Option.some.inj (r.abs.symm.trans q.abs)
theorem Vals.inj:∀{xs ys:List V} {us:List Value},Vals xs us->Vals ys us->xs=ys
 |_,_,_,.nil,.nil=>rfl
 |_,_,_,.cons r t,.cons r' t'=>by rw[r.inj r',Vals.inj t t']
section
variable {X:Cx}{pins:List (Addr×Obj)}{σ:St}{H:Hp}{s:Shared}{a:Addr}{xs ys:List V}
def Inv.list (I:Inv X pins σ H s)(h:gf X.K H a xs):∃its:List Value,Vals xs its/\PlainL s.heap a its.toArray/\xs.length<=sizeLine:=by
 rcases h with h | ⟨o,its,n,hk,hc,hd,hs,hz,r⟩
 ·obtain⟨z,its,n,r,e⟩:=h.ok I.hok
  exact⟨its,r,⟨_,n,e,rfl,rfl,rfl⟩,z⟩
 ·refine⟨its.toList,r,⟨o,n,I.kIn a o hk,hc,hd,by simpa using hs⟩,?_⟩
  have e:=r.length
  simp only[Qs] at e
  omega
def Inv.tuple (I:Inv X pins σ H s)(h:fO X.K H a xs):∃its:List Value,Vals xs its/\IsTup s.heap a its.toArray/\xs.length<=sizeLine:=by
 rcases h with h | ⟨o,its,n,hk,hc,hs,hz,r,_⟩
 ·obtain⟨z,its,r,p⟩:=h.ok I.hok
  exact⟨its,r,p.isTup,z⟩
 ·refine⟨its.toList,r,⟨o,I.kIn a o hk,hc,n,by simpa using hs⟩,?_⟩
  have e:=r.length
  simp only[Qs] at e
  omega
def Inv.list_inj (I:Inv X pins σ H s)(h:gf X.K H a xs)(h':gf X.K H a ys):xs=ys:=by
 obtain⟨its,r,⟨o,n,e,_,_,d⟩,_⟩:=I.list h
 obtain⟨its',r',⟨o',n',e',_,_,d'⟩,_⟩:=I.list h'
 rw[e] at e';cases e'
 rw[d] at d'
 injection d' with d1 _
 have:its=its':=by simpa using congrArg Array.toList d1
 subst this
 exact r.inj r'
def Inv.tuple_inj (I:Inv X pins σ H s)(h:fO X.K H a xs)(h':fO X.K H a ys):xs=ys:=by
 obtain⟨its,r,⟨o,e,_,n,d⟩,_⟩:=I.tuple h
 obtain⟨its',r',⟨o',e',_,n',d'⟩,_⟩:=I.tuple h'
 rw[e] at e';cases e'
 rw[d] at d'
 injection d' with d1 _
 have:its=its':=by simpa using congrArg Array.toList d1
 subst this
 exact r.inj r'
end
abbrev Cx.wish (X:Cx)(E:Value->Shared->Prop):Cx:={X with xe:=E}
abbrev Cx.nox (X:Cx):Cx:=X.wish λ_ _=>False
def Cx.Ok.wish {X:Cx}(ok:X.Ok)(E:Value->Shared->Prop):(X.wish E).Ok:=
 ⟨ok.mod,ok.kind,ok.glob,ok.blt,ok.above,ok.inj,ok.has,ok.cab,ok.hd,ok.frames,ok.stk,ok.exf,ok.bs,ok.bsz,ok.noex,ok.exfs,ok.funs,ok.frf⟩
def Cx.Ok.unwish {X:Cx}{E:Value->Shared->Prop}(ok:(X.wish E).Ok):X.Ok:=
 ⟨ok.mod,ok.kind,ok.glob,ok.blt,ok.above,ok.inj,ok.has,ok.cab,ok.hd,ok.frames,ok.stk,ok.exf,ok.bs,ok.bsz,ok.noex,ok.exfs,ok.funs,ok.frf⟩
section
variable {X:Cx}{pins:List (Addr×Obj)}{σ:St}{H:Hp}{s:Shared}{E:Value->Shared->Prop}
def Inv.wish (I:Inv X pins σ H s)(E:Value->Shared->Prop):Inv (X.wish E) pins σ H s:=⟨I.ok.wish E,I.os,I.bare,I.base,I.loc,I.cell,I.free,I.freeC,I.pin,I.hok,I.len⟩
def Inv.unwish (I:Inv (X.wish E) pins σ H s):Inv X pins σ H s:=⟨I.ok.unwish,I.os,I.bare,I.base,I.loc,I.cell,I.free,I.freeC,I.pin,I.hok,I.len⟩
theorem SP.unwish {D:Ends}{f:Flow}{s':Shared}(h:SP (X.wish E) pins D f s'):SP X pins D f s':=by
 cases f with
 |next=>obtain⟨σ',H',I,q⟩:=h;exact⟨σ',H',I.unwish,q⟩
 |brk=>obtain⟨σ',H',I,q⟩:=h;exact⟨σ',H',I.unwish,q⟩
 |cont=>obtain⟨σ',H',I,q⟩:=h;exact⟨σ',H',I.unwish,q⟩
 |ret u=>obtain⟨v,σ',H',I,r,q⟩:=h;exact⟨v,σ',H',I.unwish,r,q⟩
def sV.nox {st:List Stmt}{t:TS}(h:sV X.nox st t):sV X st t:=λpins s σ H D I hw=>
 PR (h pins s σ H D (I.wish _) hw) (λ_ _ q=>q.unwish) λ_ _ z=>False.elim z
end
section
variable {X:Cx}{st:Stmt}{rest:List Stmt}{t u:TS}{e:Expr}{te:TE}{pos:Pos}
def Kd:TS:=λD σ H=>D.nx σ H
def MD (t u:TS):TS:=λD σ H=>t {D with nx:=u D} σ H
def zk:sV X [] Kd:=λ_ _ σ H _ I h=>wpAny_execs_nil ⟨σ,H,I,h⟩
theorem iL (h1:PS X st t)(h2:sV X rest u):sV X (st :: rest) (MD t u):=by
 intro pins s σ H D I h
 refine wpAny_execs_cons (cR (h1 pins s σ H {D with nx:=u D} I h) λf s1 q=>?_)
 cases f with
 |next=>
  obtain⟨σ',H',I',q⟩:=q
  exact h2 pins s1 σ' H' D I' q
 |ret v=>exact q
 |brk=>exact q
 |cont=>exact q
theorem jl (h1:PS X st t):sV X [st] t:=by
 intro pins s σ H D I h
 refine wpAny_execs_cons (cR (h1 pins s σ H D I h) λf s1 q=>?_)
 cases f with
 |next=>exact wpAny_execs_nil q
 |ret v=>exact q
 |brk=>exact q
 |cont=>exact q
def Inv.quiet {pins:List (Addr×Obj)}{σ:St}{H:Hp}{s:Shared}(I:Inv X pins σ H s):interactive X.env=false:=by simp[interactive,I.ok.kind]
def Kk (te:TE):TS:=λD σ H=>te σ H λ_ H1=>D.nx σ H1
def pA (he:PE X e te)(hs:swapsWith e none pos.line X.env=pure false:=by rfl):PS X (.Expr e pos) (Kk te):=by
 intro pins s σ H D I h
 exact wpAny_Expr_any (cR (he pins s σ H _ I h) λv s1 ⟨x,H1,I1,r1,q1⟩=>⟨σ,H1,I1,q1⟩) I.quiet hs
def ML (te:TE):TS:=λD σ H=>te σ H D.rt
def oA (he:PE X e te):PS X (.Return (some e) pos) (ML te):=by
 intro pins s σ H D I h
 exact wpAny_Return_some (cR (he pins s σ H _ I h) λv s1 ⟨x,H1,I1,r1,q1⟩=>⟨x,σ,H1,I1,r1,q1⟩)
def Nm (c:TT)(t u:TS):TS:=λD σ H=>c σ H λb H1=>if b=true then t D σ H1 else u D σ H1
theorem G8 {c:Expr}{a b:List Stmt}{tc:TT}(hc:PT X c tc)(ha:sV X a t)(hb:sV X b u):PS X (.If c a b pos) (Nm tc t u):=by
 intro pins s σ H D I h
 refine wpAny_If (cR (hc pins s σ H _ I h) λd s1 ⟨H1,I1,q1⟩=>?_)
 cases d with
 |true=>exact ha pins s1 σ H1 D I1 q1
 |false=>exact hb pins s1 σ H1 D I1 q1
end
abbrev TG:=V->St->Hp->(St->Hp->Prop)->Prop
abbrev HJ:=List V->St->Hp->(St->Hp->Prop)->Prop
def PG (X:Cx)(target:Expr)(t:TG):Prop:=
 ∀(pins:List (Addr×Obj)) (s:Shared) (σ:St) (H:Hp) (v:V) (u:Value) (Q:St->Hp->Prop),Inv X pins σ H s->RelV v u->t v σ H Q->
  wpAny (model X.prog X.w) X.A (assign target X.env u) (λ_ s'=>∃σ' H',Inv X pins σ' H' s'/\Q σ' H') X.xe s
def Mc (X:Cx)(ts:List Expr)(t:HJ):Prop:=
 ∀(pins:List (Addr×Obj)) (s:Shared) (σ:St) (H:Hp) (vs:List V) (us:List Value) (Q:St->Hp->Prop),Inv X pins σ H s->Vals vs us->t vs σ H Q->
  wpAny (model X.prog X.w) X.A (assignInOrder ((assignEach ts X.env).map (·.2)) us) (λ_ s'=>∃σ' H',Inv X pins σ' H' s'/\Q σ' H') X.xe s
abbrev JW:=V->V->V->Hp->(Hp->Prop)->Prop
def uk (X:Cx)(t:JW):Prop:=
 ∀(pins:List (Addr×Obj)) (s:Shared) (σ:St) (H:Hp) (o i v:V) (ov iv u:Value) (Q:Hp->Prop),Inv X pins σ H s->RelV o ov->RelV i iv->RelV v u->t o i v H Q->
  wpAny (model X.prog X.w) X.A (setItem ov iv u) (λ_ s'=>∃H',Inv X pins σ H' s'/\Q H') X.xe s
section
variable {X:Cx}{pos:Pos}
def l8 (i:Nat):TG:=λv σ H Q=>Q (σ.set i (some v)) H
def di {i:Nat}{x:Str}(hN:X.N.Nodup)(hi:X.N[i]? =some x)(hx:Loc X.env.scope x)(hf:X.fn x=true\/X.env.scope.names.lookup x=some .local:=by first |exact .inl rfl |exact .inr rfl |assumption):PG X (.Name x pos) (l8 i):=by
 intro pins s σ H v u Q I r h
 exact wpAny_assign_Name (w8 I hN hi hx r (λs' I'=>⟨_,H,I',h⟩) hf)
def Fc:HJ:=λvs σ H Q=>vs= []/\Q σ H
def qm (t:TG)(u:HJ):HJ:=λvs σ H Q=>∃v r,vs=v :: r/\t v σ H λσ' H'=>u r σ' H' Q
def nr:Mc X [] Fc:=by
 intro pins s σ H vs us Q I r h
 obtain⟨e,h⟩:=h
 subst e
 cases r
 exact assignInOrder_nil ⟨σ,H,I,h⟩
theorem dY {e:Expr}{es:List Expr}{t:TG}{u:HJ}(h1:PG X e t)(h2:Mc X es u)
  (hs:(assignEach (e :: es) X.env).map (·.2)=assign e X.env :: (assignEach es X.env).map (·.2):=by rfl):Mc X (e :: es) (qm t u):=by
 intro pins s σ H vs us Q I r h
 obtain⟨v,vr,e1,h⟩:=h
 subst e1
 cases r with
 |cons r rr=>
  rw[hs]
  refine assignInOrder_cons (cR (h1 pins s σ H _ _ _ I r h) λ_ s1 ⟨σ1,H1,I1,q1⟩=>?_)
  exact h2 pins s1 σ1 H1 _ _ Q I1 rr q1
def EX (K:Frag)(n:Nat)(t:HJ):TG:=λv σ H Q=>∃a xs,v=.ref a/\fO K H a xs/\xs.length=n/\t xs σ H Q
def rh {es:List Expr}{k:Nat}{t:HJ}{n:Nat}(hc:X.calm=true)(h:Mc X es t)
  (hn:(assignEach es X.env).length=n:=by rfl) (hst:(assignEach es X.env).findIdx? (·.1)=none:=by rfl):PG X (.Tuple es k pos) (EX X.K n t):=by
 intro pins s σ H v u Q I r hw
 obtain⟨a,xs,e1,hq,hl,hw⟩:=hw
 subst e1
 cases r
 obtain⟨its,rv,ht,hz⟩:=I.tuple hq
 refine assign_Tuple_tuple (I.ok.hd hc) ht (by simp[hn,<-hl,rv.length]) hst λh' hx=>?_
 have I1:Inv X pins σ H {s with heap:=h'}:=I.kept (t':=s.toks) λb o e=>hx b o (Oz (Oc e)) e
 exact h pins _ σ H xs _ Q I1 (by simpa using rv) hw
def Nk (to ti:TE)(t:JW):TG:=λv σ H Q=>to σ H λo H1=>ti σ H1 λi H2=>t o i v H2 λH3=>Q σ H3
def uF {o i:Expr}{to ti:TE}{t:JW}(ho:PE X o to)(hi:PE X i ti)(hs:uk X t)
  (ha:∀v,assign (.Subscript o i pos) X.env v=(do
   let ov <-holding [v] (eval o X.env)
   let iv <-holding [v,ov] (eval i X.env)
   standAt pos
   holding [v,ov,iv] (setItem ov iv v)
   release [v,ov,iv] []):=by intro _;rfl):PG X (.Subscript o i pos) (Nk to ti t):=by
 intro pins s σ H v u Q I r h
 rw[ha]
 refine NV (O3 (cR (ho pins s σ H _ I h) λov s1 ⟨x,H1,I1,r1,q1⟩=>?_))
 refine NV (O3 (cR (hi pins s1 σ H1 _ I1 q1) λiv s2 ⟨y,H2,I2,r2,q2⟩=>?_))
 refine NV (wpAny_standAt (NV (O3 (cR (hs pins s2 σ H2 x y v ov iv u _ I2 r1 r2 r q2) λ_ s3 ⟨H3,I3,q3⟩=>?_))))
 exact wpAny_release ⟨σ,H3,I3,q3⟩
def LI (te:TE)(g:TG):TS:=λD σ H=>te σ H λx H1=>g x σ H1 D.nx
def qZ {tg e:Expr}{te:TE}{g:TG}(he:PE X e te)(hg:PG X tg g)(hs:swapsWithSole [tg] e pos.line X.env=pure false:=by rfl)(hw:swappedStores [tg] e X.env=pure none:=by rfl)
  (h1:(assignEach [tg] X.env).map (·.2)= [assign tg X.env]:=by rfl):PS X (.Assign [tg] e pos) (LI te g):=by
 intro pins s σ H D I h
 refine wpAny_Assign_stores (cR (he pins s σ H _ I h) λv s1 ⟨x,H1,I1,r1,q1⟩=>?_) hs hw
 rw[h1]
 exact cR (hg pins s1 σ H1 x v _ I1 r1 q1) λ_ s2 q=>q
def uL {i:Nat}{x:Str}{e:Expr}{te:TE}{pos':Pos}(hN:X.N.Nodup)(hi:X.N[i]? =some x)(hx:Loc X.env.scope x)(he:PE X e te)(hs:swapsWith e (some (.Name x pos')) pos.line X.env=pure false:=by rfl)(hf:X.fn x=true\/X.env.scope.names.lookup x=some .local:=by first |exact .inl rfl |exact .inr rfl |assumption) :
  PS X (.Assign [.Name x pos'] e pos) (LI te (l8 i)):=by
 intro pins s σ H D I h
 refine wpAny_Assign_Name (cR (he pins s σ H _ I h) λv s1 ⟨y,H1,I1,r1,q1⟩=>?_) hs
 exact w8 I1 hN hi hx r1 (λs2 I2=>⟨_,H1,I2,q1⟩) hf
end
section
variable {X:Cx}{pos:Pos}
def Hq (c:TT)(tb:TS):TS:=λD σ H=>∃W:Nat->St->Hp->Prop,(∃m,W m σ H)/\∀m σ H,W m σ H->
 c σ H λb H1=>if b=true then ∃N:St->Hp->Prop,(∀σ' H',N σ' H'->∃m',m' < m/\W m' σ' H')/\tb {D with nx:=N,ct:=N,bk:=D.nx} σ H1 else D.nx σ H1
theorem DP {c:Expr}{body:List Stmt}{tc:TT}{tb:TS}(hp:PassesOwn (model X.prog X.w) X.A X.env X.xe)(hc:PT X c tc)(hb:sV X body tb):PS X (.While c body [] pos) (Hq tc tb):=by
 intro pins s σ H D I h
 obtain⟨W,⟨m0,w0⟩,turn⟩:=h
 refine wpAny_While (codeAny_whileLoop (λn s'=>∃σ' H',Inv X pins σ' H' s'/\W n σ' H') ?_ m0 ⟨σ,H,I,w0⟩)
 rintro n s1 ⟨σ1,H1,I1,w1⟩
 refine Qj hp (cR (hc pins s1 σ1 H1 _ I1 (turn n σ1 H1 w1)) λb s2 ⟨H2,I2,q2⟩=>?_)
 cases b with
 |true=>
  obtain⟨N,hN,q2⟩:=q2
  rw[N1 rfl]
  refine Qj hp (cR (hb pins s2 σ1 H2 _ I2 q2) λf s3 q3=>?_)
  cases f with
  |next=>
   obtain⟨σ3,H3,I3,n3⟩:=q3
   obtain⟨m',hm,w3⟩:=hN σ3 H3 n3
   exact⟨m',hm,σ3,H3,I3,w3⟩
  |cont=>
   obtain⟨σ3,H3,I3,n3⟩:=q3
   obtain⟨m',hm,w3⟩:=hN σ3 H3 n3
   exact⟨m',hm,σ3,H3,I3,w3⟩
  |brk=>exact q3
  |ret v=>exact q3
 |false=>
  rw[N8 OG]
  exact wpAny_execs_nil ⟨σ1,H2,I2,q2⟩
end
structure It where
 go:Nat->Hp->Prop
 yld:Nat->Hp->V->Hp->Prop
 stop:Nat->Hp->Prop
def mH (X:Cx)(pins:List (Addr×Obj))(H:Hp)(b:Addr):Prop:=
 H b=none/\b≠X.env.locals/\b∉X.fs/\(b∈X.ex\/X.s₀.heap.objs.size<=b)/\(∀x c,X.env.cells.lookup x=some c->c≠b)/\∀p∈X.pn ++ pins,p.1≠b
def Inv.fpOk {X:Cx}{pins:List (Addr×Obj)}{σ:St}{H H':Hp}{s:Shared}{b:Addr}(I:Inv X pins σ H s)(hb:s.heap.objs.size<=b)(hn:H' b=none):mH X pins H' b:=by
 refine⟨hn,QW (OF I.lt hb),I.nofs hb,.inr (Pl I.sz hb),λx c e z=>?_,λp hp z=>?_⟩
 ·obtain⟨v,q⟩:=I.cell x c e
  exact absurd (OF q.lt (by rw[z];exact hb)) (OO _)
 ·exact absurd (OF (Oc (I.pin p hp).1) (by rw[z];exact hb)) (OO _)
structure Turn (P:Program)(w:World)(K:Frag)(tg:Expr)(J:It)(fp:List Addr)(it:Addr)(tn:Nat->Heap->Prop):Prop where
 mem:it∈fp
 obj:∀i h,tn i h->∀b∈fp,∃o,h.get? b=some o/\∀v,o.data≠.cell v
 keep:∀i h h',tn i h->(∀b∈fp,∀o,h.get? b=some o->h'.get? b=some o)->tn i h'
 item:∀(X:Cx),X.prog=P->X.w=w->X.K=K->X.calm=true->∀(i:Nat) (pins:List (Addr×Obj)) (s:Shared) (σ:St) (H:Hp) (E:Value->Shared->Prop),Inv X pins σ H s->(∀b∈fp,mH X pins H b)->tn i s.heap->J.go i H->
  wpAny (model P w) X.A (pyNext (.ref it)) (λr s1=>∃u,r=some u/\
   wpAny (model P w) X.A (letOwnedTupleGo tg (.ref it) u) (λ_ s2=>∃x H',Inv X pins σ H' s2/\RelV x u/\J.yld i H x H'/\tn (i + 1) s2.heap/\∀b∈fp,H' b=none) E s1) E s
 done:∀(X:Cx),X.prog=P->X.w=w->X.K=K->X.calm=true->∀(i:Nat) (pins:List (Addr×Obj)) (s:Shared) (σ:St) (H:Hp) (E:Value->Shared->Prop),Inv X pins σ H s->(∀b∈fp,mH X pins H b)->tn i s.heap->J.stop i H->
  wpAny (model P w) X.A (pyNext (.ref it)) (λr s1=>r=none/\Inv X pins σ H s1) E s
 self:∀(A:Around) (i:Nat) (s:Shared) (Q:Value->Shared->Prop) (E:Value->Shared->Prop),tn i s.heap->Q (.ref it) s->wpAny (model P w) A (pyIter (.ref it)) Q E s
abbrev TI:=St->Hp->(It->Hp->Prop)->Prop
def Nq (X:Cx)(pins:List (Addr×Obj))(σ:St)(tg:Expr)(R:It->Hp->Prop)(itv:Value)(s2:Shared):Prop:=
 ∃(it:Addr) (fp:List Addr) (tn:Nat->Heap->Prop) (J:It) (H':Hp),itv=.ref it/\Inv X pins σ H' s2/\Turn X.prog X.w X.K tg J fp it tn/\tn 0 s2.heap/\(∀b∈fp,mH X pins H' b)/\R J H'
def PI (X:Cx)(tg iter:Expr)(wi:TI):Prop:=
 ∀(pins:List (Addr×Obj)) (s:Shared) (σ:St) (H:Hp) (R:It->Hp->Prop),Inv X pins σ H s->wi σ H R->
  wpAny (model X.prog X.w) X.A (eval iter X.env) (λv s1=>wpAny (model X.prog X.w) X.A (pyIter v) (Nq X pins σ tg R) X.xe s1) X.xe s
def CK {M:Model}{A:Around}{E:Value->Shared->Prop}{s:Shared}{tg:Expr}{it:Addr}{u:Value}{o:Obj}{n:String}{vs:Array Value}{Q:Unit->Shared->Prop}(ho:s.heap.get? it=some o)(hc:o.cls=.type n)(hd:o.data=.fields vs)
  (hn: ["enumerate","zip","dict_itemiterator","dict_reverseitemiterator","odict_iterator","itertools.zip_longest","itertools.pairwise"].contains n=false) (hQ:Q () s):wpAny M A (letOwnedTupleGo tg (.ref it) u) Q E s:=by
 unfold letOwnedTupleGo
 cases tg <;> first
  |exact N2 hQ
  | (cases u <;> first
    |exact N2 hQ
    | (refine NV (wpAny_load ho ?_)
       rw[hc,hd]
       show wpAny M A (if (["enumerate","zip","dict_itemiterator","dict_reverseitemiterator","odict_iterator","itertools.zip_longest","itertools.pairwise"].contains n && vs[0]? == some (rawInt _))=true then _ else _) Q E s
       rw[N8 (by intro h;rw[hn,Bool.false_and] at h;cases h)]
       exact N2 hQ))
def AQ (K:Frag)(a:Addr):It:=
 ⟨λi H=>∃xs x,gf K H a xs/\xs[i]? =some x,λi H x H'=>H'=H/\∀xs,gf K H a xs->xs[i]? =some x,λi H=>∃xs,gf K H a xs/\xs.length<=i⟩
def GL (K:Frag)(a:Addr):It:=
 ⟨λi H=>∃xs x,fO K H a xs/\xs[i]? =some x,λi H x H'=>H'=H/\∀xs,fO K H a xs->xs[i]? =some x,λi H=>∃xs,fO K H a xs/\xs.length<=i⟩
def AX (lo:Int)(n:Nat):It:=⟨λi _=>i < n,λi H x H'=>H'=H/\x=.int (lo + i),λi _=>n<=i⟩
def nR {P:Program}{w:World}{K:Frag}{tg:Expr}(a it:Addr):Turn P w K tg (AQ K a) [it] it (λi h=>h.IsListIter it a i) where
 mem:=by simp
 obj:=λi h st b hb=>by
  have e:b=it:=by simpa using hb
  subst e
  obtain⟨o,e,c,d⟩:=st
  exact⟨o,e,λv z=>by rw[d] at z;cases z⟩
 keep:=λi h h' st k=>st.at λo e=>k it (by simp) o e
 item:=by
  intro X hP hw hK hc i pins s σ H E I hf st hg
  subst hP hw hK
  obtain⟨xs,x,hq,hx⟩:=hg
  obtain⟨its,rv,p,hz⟩:=I.list hq
  obtain⟨u,hu,ru⟩:=rv.get hx
  obtain⟨f0,f1,f2,f3,f4,f5⟩:=hf it (by simp)
  refine wpAny_pyNext_list_item st p.isList (x:=u) (by simpa using hu) λh' st' sb=>?_
  have I1:Inv X pins σ H {s with heap:=h'}:=I.turned (t':=s.toks) (λb o hb e=>(sb.2 b hb).trans e) f0 f1 f3 f4 f5
  obtain⟨o,e,c,d⟩:=id st'
  exact⟨u,rfl,CK (s:={s with heap:=h'}) e c d (by decide) ⟨x,H,I1,ru,⟨rfl,λys hy=>by rw[I.list_inj hy hq];exact hx⟩,st',λb hb=>(hf b hb).1⟩⟩
 done:=by
  intro X hP hw hK hc i pins s σ H E I hf st hg
  subst hP hw hK
  obtain⟨xs,hq,hx⟩:=hg
  obtain⟨its,rv,p,hz⟩:=I.list hq
  obtain⟨f0,f1,f2,f3,f4,f5⟩:=hf it (by simp)
  have hl:=rv.length
  exact wpAny_pyNext_list_end (I.ok.hd hc) st p.isList (by simp;omega) λh' eb=>⟨rfl,I.turned (t':=s.toks) (λb o hb e=>eb b o hb e) f0 f1 f3 f4 f5⟩
 self:=λ_ _ _ _ _ st h=>wpAny_pyIter_listiter st h
def qS {P:Program}{w:World}{K:Frag}{tg:Expr}(a it:Addr):Turn P w K tg (GL K a) [it] it (λi h=>h.IsTupleIter it a i) where
 mem:=by simp
 obj:=λi h st b hb=>by
  have e:b=it:=by simpa using hb
  subst e
  obtain⟨o,e,c,d⟩:=st
  exact⟨o,e,λv z=>by rw[d] at z;cases z⟩
 keep:=λi h h' st k=>st.at λo e=>k it (by simp) o e
 item:=by
  intro X hP hw hK hc i pins s σ H E I hf st hg
  subst hP hw hK
  obtain⟨xs,x,hq,hx⟩:=hg
  obtain⟨its,rv,p,hz⟩:=I.tuple hq
  obtain⟨u,hu,ru⟩:=rv.get hx
  obtain⟨f0,f1,f2,f3,f4,f5⟩:=hf it (by simp)
  refine wpAny_pyNext_tuple_item st (show s.heap.IsTuple a its.toArray from p) (x:=u) (by simpa using hu) λh' st' sb=>?_
  have I1:Inv X pins σ H {s with heap:=h'}:=I.turned (t':=s.toks) (λb o hb e=>(sb.2 b hb).trans e) f0 f1 f3 f4 f5
  obtain⟨o,e,c,d⟩:=id st'
  exact⟨u,rfl,CK (s:={s with heap:=h'}) e c d (by decide) ⟨x,H,I1,ru,⟨rfl,λys hy=>by rw[I.tuple_inj hy hq];exact hx⟩,st',λb hb=>(hf b hb).1⟩⟩
 done:=by
  intro X hP hw hK hc i pins s σ H E I hf st hg
  subst hP hw hK
  obtain⟨xs,hq,hx⟩:=hg
  obtain⟨its,rv,p,hz⟩:=I.tuple hq
  obtain⟨f0,f1,f2,f3,f4,f5⟩:=hf it (by simp)
  have hl:=rv.length
  exact wpAny_pyNext_tuple_end (I.ok.hd hc) st (show s.heap.IsTuple a its.toArray from p) (by simp;omega) λh' eb=>⟨rfl,I.turned (t':=s.toks) (λb o hb e=>eb b o hb e) f0 f1 f3 f4 f5⟩
 self:=λ_ _ _ _ _ st h=>wpAny_pyIter_tupleiter st h
def yE {P:Program}{w:World}{K:Frag}{tg:Expr}(it:Addr)(lo:Int)(n:Nat):Turn P w K tg (AX lo n) [it] it (λi h=>IsRangeIter h it (lo + (i:Nat) * 1) ((n:Int) - (i:Nat)) 1) where
 mem:=by simp
 obj:=λi h st b hb=>by
  have e:b=it:=by simpa using hb
  subst e
  exact⟨_,st,λv z=>by
   have z':Data.fields _=Data.cell v:=z
   cases z'⟩
 keep:=λi h h' st k=>k it (by simp) _ st
 item:=by
  intro X hP hw hK hc i pins s σ H E I hf st hg
  subst hP hw hK
  obtain⟨f0,f1,f2,f3,f4,f5⟩:=hf it (by simp)
  have W:=Walks.range (prog:=X.prog) (w:=X.w) (I.ok.hd hc) it lo 1 n
  refine W.item i s _ _ hg st λv h' tk hv st' kk=>?_
  obtain⟨t,rfl⟩:=hv
  have I1:Inv X pins σ H {s with heap:=h',toks:=tk}:=I.turned (λb o hb e=>kk b o (by simpa using hb) e) f0 f1 f3 f4 f5
  refine⟨_,rfl,CK (s:={s with heap:=h',toks:=tk}) (n:="range_iterator") st' rfl rfl (by decide) ⟨.int (lo + i),H,I1,⟨t,?_⟩,⟨rfl,rfl⟩,st',λb hb=>(hf b hb).1⟩⟩
  rw[Int.mul_one]
 done:=by
  intro X hP hw hK hc i pins s σ H E I hf st hg
  subst hP hw hK
  obtain⟨f0,f1,f2,f3,f4,f5⟩:=hf it (by simp)
  exact wpAny_pyNext_range_end (I.ok.hd hc) st (by have:n<=i:=hg;omega) λh' eb=>⟨rfl,I.turned (t':=s.toks) (λb o hb e=>eb b o hb e) f0 f1 f3 f4 f5⟩
 self:=λ_ _ _ _ _ st h=>wpAny_pyIter_rangeiter st h
section
variable {X:Cx}{tg:Expr}
def Lj (K:Frag)(tl:TE):TI:=λσ H R=>tl σ H λx H1=>∃a,x=.ref a/\(∃xs,gf K H1 a xs)/\R (AQ K a) H1
def y2 {l:Expr}{tl:TE}(hl:PE X l tl):PI X tg l (Lj X.K tl):=by
 intro pins s σ H R I h
 refine cR (hl pins s σ H _ I h) λv s1 ⟨x,H1,I1,r1,q1⟩=>?_
 obtain⟨a,e,⟨xs,hq⟩,q⟩:=q1
 subst e
 cases r1
 obtain⟨its,rv,p,hz⟩:=I1.list hq
 refine QE p.isList ?_
 refine⟨s1.heap.objs.size,[s1.heap.objs.size],_,_,H1,rfl,I1.kept (t':=s1.toks) λb o e=>NY _ e,nR a _,⟨_,Od _ rfl,rfl,rfl⟩,λb hb=>?_,q⟩
 have e:b=s1.heap.objs.size:=by simpa using hb
 subst e
 exact I1.fpOk (N4 _) (I1.hok.fresh (N4 _))
def vO {pins:List (Addr×Obj)}{σ:St}{H:Hp}{s:Shared}{R:It->Hp->Prop}{E:Value->Shared->Prop}{lo hi:Int}{t u v:Tok}{tk:Nat}(I:Inv X pins σ H s)(h1: -(2 ^ 62)<=lo)(h2:lo < 2 ^ 62)(h3: -(2 ^ 62)<=hi)(h4:hi < 2 ^ 62)
  (q:R (AX lo (hi - lo).toNat) H):wpAny (model X.prog X.w) X.A (pyIter (.ref s.heap.objs.size)) (Nq X pins σ tg R) E {s with heap:=s.heap.push {cls:=.type "range",data:=.fields #[.int lo t,.int hi u,.int 1 v]},toks:=tk}:=by
 refine wpAny_pyIter_range (IsRange.new ..) (small_one h1 h2 h3 h4) ?_
 have I1:Inv X pins σ H {s with heap:=s.heap.push {cls:=.type "range",data:=.fields #[.int lo t,.int hi u,.int 1 v]},toks:=tk}:=I.kept λb o e=>NY _ e
 refine⟨(s.heap.push {cls:=.type "range",data:=.fields #[.int lo t,.int hi u,.int 1 v]}).objs.size,[(s.heap.push {cls:=.type "range",data:=.fields #[.int lo t,.int hi u,.int 1 v]}).objs.size],_,_,H,rfl,
  I1.kept (t':=tk) λb o e=>NY _ e,yE _ lo (hi - lo).toNat,?_,λb hb=>?_,q⟩
 ·have e1:lo + ((0:Nat):Int) * 1=lo:=by simp
  have e2:(((hi - lo).toNat:Nat):Int) - ((0:Nat):Int)=Builtin.Range.rangeSize lo hi 1:=by rw[rangeSize_one];split <;> omega
  show IsRangeIter _ _ (lo + ((0:Nat):Int) * 1) ((((hi - lo).toNat:Nat):Int) - ((0:Nat):Int)) 1
  rw[e1,e2]
  exact Od _ rfl
 ·have e:b=(s.heap.push {cls:=.type "range",data:=.fields #[.int lo t,.int hi u,.int 1 v]}).objs.size:=by simpa using hb
  subst e
  exact I1.fpOk (N4 _) (I1.hok.fresh (N4 _))
def J6 (ta:TA):TI:=λσ H R=>ta σ H λvs H1=>∃j:Int,vs= [.int j]/\ -(2 ^ 62)<=j/\j < 2 ^ 62/\R (AX 0 j.toNat) H1
def KO (ta:TA):TI:=λσ H R=>ta σ H λvs H1=>∃i j:Int,vs= [.int i,.int j]/\(-(2 ^ 62)<=i/\i < 2 ^ 62/\ -(2 ^ 62)<=j/\j < 2 ^ 62)/\R (AX i (j - i).toNat) H1
theorem lN {a:Expr}{ta:TA}{p pos:Pos}(hg:Gl X "range")(hm:X.mg "range"=none)(ha:PA X [a] ta)(hs:starEach [a] X.env= [(false,eval a X.env)]:=by rfl):PI X tg (.Call (.Name "range" p) [a] [] pos) (J6 ta):=by
 intro pins s σ H R I h
 refine Call_ (lg I hg hm boot_range (Pq (cR (ha pos pins s σ H _ I h) λus s1 ⟨vs,H1,I1,r1,q1⟩=>?_) hs rfl))
 obtain⟨j,e,q1,q2,q⟩:=q1
 subst e
 cases r1 with
 |cons r rr=>
  cases rr
  obtain⟨t,rfl⟩:=r
  exact call_range_1 (vO I1 (by omega) (by omega) q1 q2 (by simpa using q))
theorem AA {a b:Expr}{ta:TA}{p pos:Pos}(hg:Gl X "range")(hm:X.mg "range"=none)(ha:PA X [a,b] ta)(hs:starEach [a,b] X.env= [(false,eval a X.env),(false,eval b X.env)]:=by rfl)(hs2:starEach [b] X.env= [(false,eval b X.env)]:=by rfl) :
  PI X tg (.Call (.Name "range" p) [a,b] [] pos) (KO ta):=by
 intro pins s σ H R I h
 refine Call_ (lg I hg hm boot_range (Pq (cR (ha pos pins s σ H _ I h) λus s1 ⟨vs,H1,I1,r1,q1⟩=>?_) (by rw[hs,hs2]) (by rw[hs2];rfl)))
 obtain⟨i,j,e,⟨q1,q2,q3,q4⟩,q⟩:=q1
 subst e
 cases r1 with
 |cons r rr=>
  cases rr with
  |cons r' rr=>
   cases rr
   obtain⟨t,rfl⟩:=r
   obtain⟨t',rfl⟩:=r'
   exact call_range_2 (vO I1 q1 q2 q3 q4 q)
def MY (wi:TI)(g:TG)(tb:TS):TS:=λD σ H=>wi σ H λJ H1=>∃W:Nat->Nat->St->Hp->Prop,(∃m,W 0 m σ H1)/\∀i m σ H,W i m σ H->
 (J.stop i H/\D.nx σ H)\/(J.go i H/\∃N:St->Hp->Prop,(∀σ' H',N σ' H'->∃m',m' < m/\W (i + 1) m' σ' H')/\∀x H',J.yld i H x H'->g x σ H' λσ2 H2=>tb {D with nx:=N,ct:=N,bk:=D.nx} σ2 H2)
def qz (fp:List Addr)(h:Heap):List (Addr×Obj):=fp.filterMap λb=>(h.get? b).map λo=>(b,o)
def jV {fp:List Addr}{h:Heap}{b:Addr}{o:Obj}(hb:b∈fp)(e:h.get? b=some o):(b,o)∈qz fp h:=Qy.mpr ⟨b,hb,by rw[e];rfl⟩
theorem AH {fp:List Addr}{h:Heap}{p:Addr×Obj}(hp:p∈qz fp h):p.1∈fp/\h.get? p.1=some p.2:=by
 obtain⟨b,hb,e⟩:=Qy.mp hp
 cases q:h.get? b with
 |none=>rw[q] at e;cases e
 |some o=>
  rw[q] at e
  have e':(b,o)=p:=Option.some.inj e
  subst e'
  exact⟨hb,q⟩
def Inv.pinned {pins:List (Addr×Obj)}{σ:St}{H:Hp}{s:Shared}{fp:List Addr}(I:Inv X pins σ H s)(hf:∀b∈fp,mH X pins H b)(ho:∀b∈fp,∃o,s.heap.get? b=some o/\∀v,o.data≠.cell v):Inv X (pins ++ qz fp s.heap) σ H s:=
 I.pins_of λp hp=>(Of.mp hp).elim (λz=>I.pin p (Ox _ z)) λz=>by
  obtain⟨hb,e⟩:=AH z
  obtain⟨f0,f1,f2,_⟩:=hf p.1 hb
  obtain⟨o,e',d⟩:=ho p.1 hb
  rw[e] at e';cases e'
  exact⟨e,f0,f1,f2,d⟩
def Inv.unpinned {pins pl:List (Addr×Obj)}{σ:St}{H:Hp}{s:Shared}(I:Inv X (pins ++ pl) σ H s):Inv X pins σ H s:=I.pins_of λp hp=>I.pin p (Ox _ (Pa _ hp))
def tZ {iter:Expr}{body:List Stmt}{wi:TI}{g:TG}{tb:TS}{pos:Pos}(hp:PassesOwn (model X.prog X.w) X.A X.env X.xe)(hc:X.calm=true)(hi:PI X tg iter wi)(hg:PG X tg g)(hb:sV X body tb)
  (hs:∀x,foldedSetIterable iter X.env x=pure x:=by intro _;rfl):PS X (.For tg iter body [] pos) (MY wi g tb):=by
 intro pins s σ H D I h
 refine wpAny_For (cR (hi pins s σ H _ I h) λv s1 h1=>cR h1 λitv s2 h2=>?_) hs
 obtain⟨it,fp,tn,J,H2,e,I2,T,st2,f2,W,⟨m0,w0⟩,turn⟩:=h2
 subst e
 have stat:∀{H':Hp},(∀b∈fp,H' b=none)->∀b∈fp,mH X pins H' b:=λhn b hb=>⟨hn b hb,(f2 b hb).2⟩
 refine codeAny_forLoop_any (λn s'=>∃i σ' H',Inv X pins σ' H' s'/\tn i s'.heap/\(∀b∈fp,H' b=none)/\W i n σ' H') ?_ m0 ⟨0,σ,H2,I2,st2,λb hb=>(f2 b hb).1,w0⟩
 rintro n s3 ⟨i,σ3,H3,I3,st3,fr3,w3⟩
 rcases turn i n σ3 H3 w3 with⟨stop,qn⟩ | ⟨go,N,hN,step⟩
 ·refine Qj hp (cR (T.done X rfl rfl rfl hc i pins s3 σ3 H3 X.xe I3 (stat fr3) st3 stop) λr s4 ⟨hr,I4⟩=>?_)
  subst hr
  exact wpAny_execs_nil ⟨σ3,H3,I4,qn⟩
 ·refine Qj hp (cR (T.item X rfl rfl rfl hc i pins s3 σ3 H3 X.xe I3 (stat fr3) st3 go) λr s4 ⟨u,hr,h4⟩=>?_)
  subst hr
  refine Qj hp (cR h4 λ_ s5 ⟨x,H5,I5,r5,y5,st5,fr5⟩=>?_)
  have I5':=I5.pinned (stat fr5) (T.obj _ _ st5)
  refine Qj hp (cR (hg _ s5 σ3 H5 x u _ I5' r5 (step x H5 y5)) λ_ s6 ⟨σ6,H6,I6,q6⟩=>?_)
  refine Qj hp (cR (hb _ s6 σ6 H6 _ I6 q6) λf s7 q7=>?_)
  have again:∀{σ7:St} {H7:Hp},Inv X (pins ++ qz fp s5.heap) σ7 H7 s7->N σ7 H7->∃m,m < n/\∃i σ' H',Inv X pins σ' H' s7/\tn i s7.heap/\(∀b∈fp,H' b=none)/\W i m σ' H':=λ{σ7 H7} I7 n7=>by
   obtain⟨m',hm,w7⟩:=hN σ7 H7 n7
   refine⟨m',hm,i + 1,σ7,H7,I7.unpinned,T.keep _ _ _ st5 λb hb o e=>(I7.pin (b,o) (Ox _ (Ox _ (jV hb e)))).1,λb hb=>?_,w7⟩
   obtain⟨o,e,d⟩:=T.obj _ _ st5 b hb
   exact (I7.pin (b,o) (Ox _ (Ox _ (jV hb e)))).2.1
  cases f with
  |next=>obtain⟨σ7,H7,I7,n7⟩:=q7;exact again I7 n7
  |cont=>obtain⟨σ7,H7,I7,n7⟩:=q7;exact again I7 n7
  |brk=>obtain⟨σ7,H7,I7,q7⟩:=q7;exact⟨σ7,H7,I7.unpinned,q7⟩
  |ret v=>obtain⟨x7,σ7,H7,I7,r7,q7⟩:=q7;exact⟨x7,σ7,H7,I7.unpinned,r7,q7⟩
end
def vT {K:Frag}{a:Addr}{xs:List V}{g:TG}{tb:TS}{D:Ends}{σ:St}{H:Hp}(Pv:Nat->St->Hp->Prop)(h0:Pv 0 σ H)(hl:∀i σ H,i<=xs.length->Pv i σ H->gf K H a xs)
  (hs:∀i x σ H,xs[i]? =some x->Pv i σ H->g x σ H λσ2 H2=>tb {D with nx:=Pv (i + 1),ct:=Pv (i + 1),bk:=D.nx} σ2 H2) (hd:∀σ H,Pv xs.length σ H->D.nx σ H) :
  ∃W:Nat->Nat->St->Hp->Prop,(∃m,W 0 m σ H)/\∀i m σ H,W i m σ H->
   ((AQ K a).stop i H/\D.nx σ H)\/((AQ K a).go i H/\∃N:St->Hp->Prop,(∀σ' H',N σ' H'->∃m',m' < m/\W (i + 1) m' σ' H')/\∀x H',(AQ K a).yld i H x H'->g x σ H' λσ2 H2=>tb {D with nx:=N,ct:=N,bk:=D.nx} σ2 H2):=by
 refine⟨λi m σ H=>m=xs.length - i/\i<=xs.length/\Pv i σ H,⟨xs.length,by simp,OJ _,h0⟩,?_⟩
 rintro i m σ H ⟨rfl,hi,p⟩
 have q:=hl i σ H hi p
 by_cases hlt:i < xs.length
 ·refine .inr ⟨⟨xs,xs[i],q,by simp[hlt]⟩,Pv (i + 1),λσ' H' p'=>⟨xs.length - (i + 1),by omega,rfl,hlt,p'⟩,λx H' y=>?_⟩
  obtain⟨e,y⟩:=y
  subst e
  exact hs i x σ _ (y xs q) p
 ·have e:i=xs.length:=by omega
  subst e
  exact .inl ⟨⟨xs,q,N4 _⟩,hd σ H p⟩
def Gn {K:Frag}{a:Addr}{xs:List V}{g:TG}{tb:TS}{D:Ends}{σ:St}{H:Hp}(Pv:Nat->St->Hp->Prop)(h0:Pv 0 σ H)(hl:∀i σ H,i<=xs.length->Pv i σ H->fO K H a xs)
  (hs:∀i x σ H,xs[i]? =some x->Pv i σ H->g x σ H λσ2 H2=>tb {D with nx:=Pv (i + 1),ct:=Pv (i + 1),bk:=D.nx} σ2 H2) (hd:∀σ H,Pv xs.length σ H->D.nx σ H) :
  ∃W:Nat->Nat->St->Hp->Prop,(∃m,W 0 m σ H)/\∀i m σ H,W i m σ H->
   ((GL K a).stop i H/\D.nx σ H)\/((GL K a).go i H/\∃N:St->Hp->Prop,(∀σ' H',N σ' H'->∃m',m' < m/\W (i + 1) m' σ' H')/\∀x H',(GL K a).yld i H x H'->g x σ H' λσ2 H2=>tb {D with nx:=N,ct:=N,bk:=D.nx} σ2 H2):=by
 refine⟨λi m σ H=>m=xs.length - i/\i<=xs.length/\Pv i σ H,⟨xs.length,by simp,OJ _,h0⟩,?_⟩
 rintro i m σ H ⟨rfl,hi,p⟩
 have q:=hl i σ H hi p
 by_cases hlt:i < xs.length
 ·refine .inr ⟨⟨xs,xs[i],q,by simp[hlt]⟩,Pv (i + 1),λσ' H' p'=>⟨xs.length - (i + 1),by omega,rfl,hlt,p'⟩,λx H' y=>?_⟩
  obtain⟨e,y⟩:=y
  subst e
  exact hs i x σ _ (y xs q) p
 ·have e:i=xs.length:=by omega
  subst e
  exact .inl ⟨⟨xs,q,N4 _⟩,hd σ H p⟩
def Bn {lo:Int}{n:Nat}{g:TG}{tb:TS}{D:Ends}{σ:St}{H:Hp}(Pv:Nat->St->Hp->Prop)(h0:Pv 0 σ H)
  (hs:∀i σ H,i < n->Pv i σ H->g (.int (lo + i)) σ H λσ2 H2=>tb {D with nx:=Pv (i + 1),ct:=Pv (i + 1),bk:=D.nx} σ2 H2) (hd:∀σ H,Pv n σ H->D.nx σ H) :
  ∃W:Nat->Nat->St->Hp->Prop,(∃m,W 0 m σ H)/\∀i m σ H,W i m σ H->
   ((AX lo n).stop i H/\D.nx σ H)\/((AX lo n).go i H/\∃N:St->Hp->Prop,(∀σ' H',N σ' H'->∃m',m' < m/\W (i + 1) m' σ' H')/\∀x H',(AX lo n).yld i H x H'->g x σ H' λσ2 H2=>tb {D with nx:=N,ct:=N,bk:=D.nx} σ2 H2):=by
 refine⟨λi m σ H=>m=n - i/\i<=n/\Pv i σ H,⟨n,by simp,OJ _,h0⟩,?_⟩
 rintro i m σ H ⟨rfl,hi,p⟩
 by_cases hlt:i < n
 ·refine .inr ⟨hlt,Pv (i + 1),λσ' H' p'=>⟨n - (i + 1),by omega,rfl,hlt,p'⟩,λx H' y=>?_⟩
  obtain⟨e,y⟩:=y
  subst e y
  exact hs i σ _ hlt p
 ·have e:i=n:=by omega
  subst e
  exact .inl ⟨N4 _,hd σ H p⟩
abbrev R2:=V->V->Hp->VK->Prop
def mM (X:Cx)(f:Value->Value->Sem Value)(r:R2):Prop:=
 ∀(pins:List (Addr×Obj)) (s:Shared) (σ:St) (H:Hp) (x y:V) (v u:Value) (Q:VK),Inv X pins σ H s->RelV x v->RelV y u->r x y H Q->
  wpAny (model X.prog X.w) X.A (f v u) (EP X pins σ Q) X.xe s
def L1 (X:Cx)(f:Value->Sem Value)(r:V->Hp->VK->Prop):Prop:=
 ∀(pins:List (Addr×Obj)) (s:Shared) (σ:St) (H:Hp) (x:V) (v:Value) (Q:VK),Inv X pins σ H s->RelV x v->r x H Q->
  wpAny (model X.prog X.w) X.A (f v) (EP X pins σ Q) X.xe s
def cI (X:Cx)(f:Value)(r:List V->Hp->VK->Prop):Prop:=
 ∀(pins:List (Addr×Obj)) (s:Shared) (σ:St) (H:Hp) (xs:List V) (us:List Value) (Q:VK),Inv X pins σ H s->Vals xs us->r xs H Q->
  wpAny (model X.prog X.w) X.A (call f us) (EP X pins σ Q) X.xe s
def Nj (X:Cx)(r:V->Hp->(Bool->Hp->Prop)->Prop):Prop:=
 ∀(pins:List (Addr×Obj)) (s:Shared) (σ:St) (H:Hp) (x:V) (v:Value) (Q:Bool->Hp->Prop),Inv X pins σ H s->RelV x v->r x H Q->
  wpAny (model X.prog X.w) X.A (truthy v) (TP X pins σ Q) X.xe s
def LV (r:R2)(ta tb:TE):TE:=λσ H Q=>ta σ H λx H1=>tb σ H1 λy H2=>r x y H2 Q
def NL (r:V->Hp->VK->Prop)(ta:TE):TE:=λσ H Q=>ta σ H λx H1=>r x H1 Q
def rI (C:Int->Int->Prop)(g:Int->Int->V):R2:=λx y H Q=>∃i j,x=.int i/\y=.int j/\C i j/\Q (g i j) H
def xM (g:Int->Int->V):R2:=λx y H Q=>∃i j,x=.int i/\y=.int j/\Q (g i j) H
def rU (g:Int->V):V->Hp->VK->Prop:=λx H Q=>∃i,x=.int i/\Q (g i) H
section
variable {X:Cx}{a b c:Expr}{ta tb tc:TE}{pos:Pos}
def HX (ha:PE X a ta)(hb:PE X b tb){pins:List (Addr×Obj)}{s:Shared}{σ:St}{H:Hp}{R:V->V->Hp->Prop}(I:Inv X pins σ H s)
  (h:ta σ H λx H1=>tb σ H1 λy H2=>R x y H2) {Q:Value->Shared->Prop} {f:Value->Value->Sem Value}
  (hf:∀v u s2 x y H2,Inv X pins σ H2 s2->RelV x v->RelV y u->R x y H2->wpAny (model X.prog X.w) X.A (f v u) Q X.xe s2) :
  wpAny (model X.prog X.w) X.A (eval a X.env) (λv s₁=>wpAny (model X.prog X.w) X.A (eval b X.env) (λu s₂=>wpAny (model X.prog X.w) X.A (f v u) Q X.xe s₂) X.xe s₁) X.xe s:=by
 refine cR (ha pins s σ H _ I h) λv s1 ⟨x,H1,I1,r1,q1⟩=>?_
 refine cR (hb pins s1 σ H1 _ I1 q1) λu s2 ⟨y,H2,I2,r2,q2⟩=>?_
 exact hf v u s2 x y H2 I2 r1 r2 q2
def sy {op:Operator}{r:R2}(ho:mM X (binaryOp op) r)(ha:PE X a ta)(hb:PE X b tb):PE X (.BinOp a op b pos) (LV r ta tb):=by
 intro pins s σ H Q I h
 exact wpAny_BinOp (HX ha hb I h λv u s2 x y H2 I2 rx ry q=>ho pins s2 σ H2 x y v u Q I2 rx ry q)
def LR {op:UnaryOp}{r:V->Hp->VK->Prop}(ho:L1 X (unaryOp op) r)(ha:PE X a ta):PE X (.UnaryOp op a pos) (NL r ta):=by
 intro pins s σ H Q I h
 exact UnaryOp_ (cR (ha pins s σ H _ I h) λv s1 ⟨x,H1,I1,r1,q1⟩=>ho pins s1 σ H1 x v Q I1 r1 q1)
def LY {f:Value->Value->Sem Value}{C:Int->Int->Prop}{g:Int->Int->Int}
  (rule:∀(i j:Int) (t u:Tok) (s:Shared) (Q:Value->Shared->Prop) (E:Value->Shared->Prop),C i j->Q (.int (g i j) s.toks) {s with toks:=s.toks + 1}->wpAny (model X.prog X.w) X.A (f (.int i t) (.int j u)) Q E s) :
  mM X f (rI C λi j=>.int (g i j)):=by
 intro pins s σ H x y v u Q I rx ry h
 obtain⟨i,j,rfl,rfl,hc,q⟩:=h
 obtain⟨t,rfl⟩:=rx
 obtain⟨t',rfl⟩:=ry
 exact rule i j t t' s _ _ hc ⟨.int (g i j),H,I.tok _,⟨_,rfl⟩,q⟩
def Hr {f:Value->Value->Sem Value}{g:Int->Int->Int}
  (rule:∀(i j:Int) (t u:Tok) (s:Shared) (Q:Value->Shared->Prop) (E:Value->Shared->Prop),Q (.int (g i j) s.toks) {s with toks:=s.toks + 1}->wpAny (model X.prog X.w) X.A (f (.int i t) (.int j u)) Q E s) :
  mM X f (xM λi j=>.int (g i j)):=by
 intro pins s σ H x y v u Q I rx ry h
 obtain⟨i,j,rfl,rfl,q⟩:=h
 obtain⟨t,rfl⟩:=rx
 obtain⟨t',rfl⟩:=ry
 exact rule i j t t' s _ _ ⟨.int (g i j),H,I.tok _,⟨_,rfl⟩,q⟩
def Ju {f:Value->Value->Sem Value}{g:Int->Int->Bool}
  (rule:∀(i j:Int) (t u:Tok) (s:Shared) (Q:Value->Shared->Prop) (E:Value->Shared->Prop),Q (.bool (g i j)) s->wpAny (model X.prog X.w) X.A (f (.int i t) (.int j u)) Q E s) :
  mM X f (xM λi j=>.bl (g i j)):=by
 intro pins s σ H x y v u Q I rx ry h
 obtain⟨i,j,rfl,rfl,q⟩:=h
 obtain⟨t,rfl⟩:=rx
 obtain⟨t',rfl⟩:=ry
 exact rule i j t t' s _ _ ⟨.bl (g i j),H,I,rfl,q⟩
def GH (i j:Int):Prop:=0 < j/\j < 1073741824
def IW (i j:Int):Prop:=0<=j/\j<=1000000/\i.natAbs < 2 ^ 64
def CS (i j:Int):Prop:=(-(2 ^ 64) < i/\i < 2 ^ 64)\/(-(2 ^ 64) < j/\j < 2 ^ 64)
def CS.ok {i j:Int}(h:CS i j):IntMulOk i j:=by
 rcases h with⟨h1,h2⟩ | ⟨h1,h2⟩
 ·exact .of_left (intBits_le_64 h1 h2)
 ·exact .of_right (intBits_le_64 h1 h2)
def iS:mM X (binaryOp .Add) (xM λi j=>.int (i + j)):=Hr λ_ _ _ _ _ _ _ q=>add_int q
def lE:mM X (binaryOp .Mult) (rI CS λi j=>.int (i * j)):=LY λ_ _ _ _ _ _ _ hc q=>mul_int q hc.ok
def mQ:mM X (binaryOp .FloorDiv) (rI GH λi j=>.int (i / j)):=LY λi j _ _ _ _ _ hc q=>by
 have h1:(0:Int) < j:=hc.1
 have h2:j < 1073741824:=hc.2
 exact floordiv_int (by omega) (by rw[Int.fdiv_eq_ediv_of_nonneg i (by omega)];exact q) (.inl (PyProof.noPylong_small (by omega)))
def mn:mM X (binaryOp .Mod) (rI (λ_ j=>0 < j) λi j=>.int (i % j)):=LY λi j _ _ _ _ _ hc q=>by
 have h1:(0:Int) < j:=hc
 exact mod_int' (by omega) (by rw[Int.fmod_eq_emod_of_nonneg i (by omega)];exact q)
def Ic:mM X (binaryOp .LShift) (rI IW λi j=>.int (i * 2 ^ j.toNat)):=LY λ_ _ _ _ _ _ _ hc q=>lshift_int_small hc.1 hc.2.1 hc.2.2 q
def HG:mM X (binaryOp .BitAnd) (xM λi j=>.int (Builtin.bitAnd i j)):=Hr λ_ _ _ _ _ _ _ q=>and_int q
def KW:mM X (binaryOp .BitOr) (xM λi j=>.int (Builtin.bitOr i j)):=Hr λ_ _ _ _ _ _ _ q=>or_int q
def NQ {f:Value->Sem Value}{g:Int->Int}
  (rule:∀(i:Int) (t:Tok) (s:Shared) (Q:Value->Shared->Prop) (E:Value->Shared->Prop),Q (.int (g i) s.toks) {s with toks:=s.toks + 1}->wpAny (model X.prog X.w) X.A (f (.int i t)) Q E s) :
  L1 X f (rU λi=>.int (g i)):=by
 intro pins s σ H x v Q I rx h
 obtain⟨i,rfl,q⟩:=h
 obtain⟨t,rfl⟩:=rx
 exact rule i t s _ _ ⟨.int (g i),H,I.tok _,⟨_,rfl⟩,q⟩
def yQ:L1 X (unaryOp .USub) (rU λi=>.int (-i)):=NQ λ_ _ _ _ _ q=>neg_int q
end
section
variable {X:Cx}{a b c:Expr}{ta tb tc:TE}{pos:Pos}
def Im {pins:List (Addr×Obj)}{σ:St}{H:Hp}{s:Shared}{Q:VK}{k k':Bool}(I:Inv X pins σ H s)(q:Q (.bl k) H)(e:k=k'):EP X pins σ Q (.bool k') s:=by
 subst e
 exact⟨.bl k,H,I,rfl,q⟩
def wD:mM X (compareOp .Lt) (xM λi j=>.bl (decide (i < j))):=Ju λ_ _ _ _ _ _ _ q=>lt_int q
def Cu:mM X (compareOp .LtE) (xM λi j=>.bl (decide (i<=j))):=Ju λ_ _ _ _ _ _ _ q=>le_int q
def Ku:mM X (compareOp .Gt) (xM λi j=>.bl (decide (j < i))):=Ju λ_ _ _ _ _ _ _ q=>gt_int q
def bh (b:Expr){op:CmpOp}(h:op≠.In:=by decide)(h2:op≠.NotIn:=by decide):behindInMarks op b=false:=by
 have e1:(op == CmpOp.In)=false:=by cases op <;> first |rfl |exact absurd rfl h
 have e2:(op == CmpOp.NotIn)=false:=by cases op <;> first |rfl |exact absurd rfl h2
 cases b <;> simp[behindInMarks,e1,e2]
def EA {op:CmpOp}{r:R2}(ho:mM X (compareOp op) r)(ha:PE X a ta)(hb:PE X b tb)(hm:behindInMarks op b=false):PE X (.Compare a [op] [b] pos) (LV r ta tb):=by
 intro pins s σ H Q I h
 exact wpAny_Compare1 (HX ha hb I h λv u s2 x y H2 I2 rx ry q=>ho pins s2 σ H2 x y v u Q I2 rx ry q) hm
def Kf (t:TE):TT:=λσ H Q=>t σ H λx H'=>∃k,x=.bl k/\Q k H'
def GB {op:CmpOp}{r:R2}(ho:mM X (compareOp op) r)(ha:PE X a ta)(hb:PE X b tb)(hm:behindInMarks op b=false):PT X (.Compare a [op] [b] pos) (Kf (LV r ta tb)):=by
 intro pins s σ H Q I h
 refine wpAny_isTrue_Compare1 (cR (ha pins s σ H _ I h) λv s1 ⟨x,H1,I1,r1,q1⟩=>cR (hb pins s1 σ H1 _ I1 q1) λu s2 ⟨y,H2,I2,r2,q2⟩=>
  cR (ho pins s2 σ H2 x y v u _ I2 r1 r2 q2) λc s3 ⟨z,H3,I3,r3,k,e,q3⟩=>?_) hm
 subst e
 cases r3
 exact PM ⟨H3,I3,q3⟩
def IH (r r':R2)(ta tb tc:TE):TE:=λσ H Q=>ta σ H λx H1=>tb σ H1 λy H2=>r x y H2 λz H3=>∃k,z=.bl k/\
 (if k=true then tc σ H3 λw' H4=>r' y w' H4 Q else Q (.bl false) H3)
theorem Cz {op op':CmpOp}{r r':R2}(ho:mM X (compareOp op) r)(ho':mM X (compareOp op') r')(ha:PE X a ta)(hb:PE X b tb)(hc:PE X c tc)
  (hm:lastMarks [op,op'] [b,c]=false:=by with_unfolding_all rfl):PE X (.Compare a [op,op'] [b,c] pos) (IH r r' ta tb tc):=by
 intro pins s σ H Q I h
 refine Compare_chain (cR (ha pins s σ H _ I h) λv s1 ⟨x,H1,I1,r1,q1⟩=>chain_link (cR (hb pins s1 σ H1 _ I1 q1) λu s2 ⟨y,H2,I2,r2,q2⟩=>
  cR (ho pins s2 σ H2 x y v u _ I2 r1 r2 q2) λd s3 ⟨z,H3,I3,r3,k,e,q3⟩=>?_)) hm
 subst e
 cases r3
 refine PM ?_
 cases k with
 |false=>exact ite_ff ⟨.bl false,H3,I3,rfl,q3⟩
 |true=>exact ite_tt (chain_last (cR (hc pins s3 σ H3 _ I3 q3) λw' s4 ⟨z',H4,I4,r4,q4⟩=>ho' pins s4 σ H4 y z' u w' Q I4 r2 r4 q4))
def Lw (K:Frag)(x:V)(H:Hp)(k:Bool):Prop:=
 match x with
 | .non=>k=false
 | .bl b=>k=b
 | .int i=>k=(i != 0)
 | .str y=>y.length<=sizeLine/\k=((y.length:Int) != 0)
 | .byt y=>y.size<=sizeLine/\k=((y.size:Int) != 0)
 | .ref p=>(∃xs,gf K H p xs/\k= !xs.isEmpty)\/(∃xs,fO K H p xs/\k= !xs.isEmpty)\/∃kvs,H p=some (.dK kvs)/\k= !kvs.isEmpty
 |_=>False
def xV {κ:Type}{kvs:List (κ×V)}{vs:List (κ×Value)}(r:KV kvs vs):(!vs.isEmpty)= !kvs.isEmpty:=by
 cases r <;> rfl
def pV {xs:List V}{its:List Value}(r:Vals xs its):(!its.toArray.isEmpty)= !xs.isEmpty:=by
 cases r <;> simp
def ot:(sizeLine:Nat) < 2 ^ 63:=by rw[Oo];decide
theorem JE:Nj X (λx H Q=>∃k,Lw X.K x H k/\Q k H):=by
 intro pins s σ H x v Q I rx h
 obtain⟨k,e,q⟩:=h
 have hl:=ot
 have hs:sizeLine=16777216:=Oo
 cases x with
 |non=>
  cases rx
  have e':k=false:=e
  subst e'
  exact truthy_none ⟨H,I,q⟩
 |bl b=>
  cases rx
  have e':k=b:=e
  subst e'
  exact PM ⟨H,I,q⟩
 |int i=>
  obtain⟨t,rfl⟩:=rx
  have e':k=(i != 0):=e
  subst e'
  exact PySem.P.truthy_int ⟨H,I,q⟩
 |str y=>
  obtain⟨t,rfl⟩:=rx
  obtain⟨hy,e'⟩:y.length<=sizeLine/\k=((y.length:Int) != 0):=e
  subst e'
  exact PySem.P.truthy_str (by omega) ⟨H,I.tok _,q⟩
 |byt y=>
  obtain⟨t,rfl⟩:=rx
  obtain⟨hy,e'⟩:y.size<=sizeLine/\k=((y.size:Int) != 0):=e
  subst e'
  exact PySem.W.truthy_bytes (by omega) ⟨H,I.tok _,q⟩
 |ref p=>
  cases rx
  have e':(∃xs,gf X.K H p xs/\k= !xs.isEmpty)\/(∃xs,fO X.K H p xs/\k= !xs.isEmpty)\/∃kvs,H p=some (.dK kvs)/\k= !kvs.isEmpty:=e
  rcases e' with⟨xs,hx,e'⟩ | ⟨xs,hx,e'⟩ | ⟨kvs,hx,e'⟩
  ·subst e'
   obtain⟨its,r,pl,hz⟩:=I.list hx
   have hlen:=r.length
   exact wpAny_truthy_list pl.isList (by simp only[Oh];omega) ⟨H,I.tok _,by rw[pV r];exact q⟩
  ·subst e'
   obtain⟨its,r,pl,hz⟩:=I.tuple hx
   have hlen:=r.length
   exact truthy_tuple pl (by simp only[Oh];omega) ⟨H,I.tok _,by rw[pV r];exact q⟩
  ·subst e'
   obtain⟨hz,hS,vs,r,m⟩:kvs.length<=sizeLine/\(p == sysModules)=false/\∃vs,KV kvs vs/\s.heap.DictOf (uq X.prog X.w) p vs:=I.hok p _ hx
   have hlen:kvs.length=vs.length:=Paired.length r
   exact wpAny_truthy_dict hS m (by omega) ⟨H,I.tok _,by rw[xV r];exact q⟩
 |_=>exact (show False from e).elim
def D6 (ha:PE X a ta)(he:∀whole,isTrue a X.env whole=(do let v <-whole;standAt a.pos;holding [v] (truthy v))) :
  PT X a (λσ H Q=>ta σ H λx H'=>∃k,Lw X.K x H' k/\Q k H'):=by
 intro pins s σ H Q I h
 exact isTrue_plain (cR (ha pins s σ H _ I h) λv s1 ⟨x,H1,I1,r1,q1⟩=>JE pins s1 σ H1 x v Q I1 r1 q1) (he _)
theorem vals1 {x:V}{us:List Value}(r:Vals [x] us):∃u,us= [u]/\RelV x u:=by
 cases r with
 |cons r1 r2=>cases r2;exact⟨_,rfl,r1⟩
theorem vals2 {x y:V}{us:List Value}(r:Vals [x,y] us):∃u w',us= [u,w']/\RelV x u/\RelV y w':=by
 cases r with
 |cons r1 r2=>
  cases r2 with
  |cons r3 r4=>cases r4;exact⟨_,_,rfl,r1,r3⟩
def CV:cI X (.builtin "abs") (λxs H Q=>∃i,xs= [.int i]/\Q (.int (if i < 0 then -i else i)) H):=by
 intro pins s σ H xs us Q I r h
 obtain⟨i,rfl,q⟩:=h
 obtain⟨u,rfl,t,rfl⟩:=vals1 r
 exact call_abs_int λu tk=>⟨.int (if i < 0 then -i else i),H,I.tok _,⟨_,rfl⟩,q⟩
def Bc (hc:X.calm=true):cI X (.builtin "max") (λxs H Q=>∃i j,xs= [.int i,.int j]/\Q (.int (if j > i then j else i)) H):=by
 intro pins s σ H xs us Q I r h
 obtain⟨i,j,rfl,q⟩:=h
 obtain⟨u,w',rfl,⟨t,rfl⟩,⟨t',rfl⟩⟩:=vals2 r
 refine max_two_ints (I.ok.hd hc) λh' tk k=>⟨_,H,I.kept k,?_,q⟩
 by_cases hj:j > i
 ·rw[N1 hj,N1 hj];exact⟨_,rfl⟩
 ·rw[N8 hj,N8 hj];exact⟨_,rfl⟩
def A5 (hc:X.calm=true):cI X (.builtin "min") (λxs H Q=>∃i j,xs= [.int i,.int j]/\Q (.int (if j < i then j else i)) H):=by
 intro pins s σ H xs us Q I r h
 obtain⟨i,j,rfl,q⟩:=h
 obtain⟨u,w',rfl,⟨t,rfl⟩,⟨t',rfl⟩⟩:=vals2 r
 refine min_two_ints (I.ok.hd hc) λh' tk k=>⟨_,H,I.kept k,?_,q⟩
 by_cases hj:j < i
 ·rw[N1 hj,N1 hj];exact⟨_,rfl⟩
 ·rw[N8 hj,N8 hj];exact⟨_,rfl⟩
def K7 (K:Frag)(x:V)(H:Hp)(n:Nat):Prop:=
 match x with
 | .str y=>y.length<=sizeLine/\n=y.length
 | .byt y=>y.size<=sizeLine/\n=y.size
 | .ref p=>(∃xs,gf K H p xs/\n=xs.length)\/∃xs,fO K H p xs/\n=xs.length
 |_=>False
theorem bt:cI X (.builtin "len") (λxs H Q=>∃x n,xs= [x]/\K7 X.K x H n/\Q (.int n) H):=by
 intro pins s σ H xs us Q I r h
 obtain⟨x,n,rfl,e,q⟩:=h
 obtain⟨u,rfl,rx⟩:=vals1 r
 have hl:=ot
 have hs:sizeLine=16777216:=Oo
 cases x with
 |str y=>
  obtain⟨t,rfl⟩:=rx
  obtain⟨hy,e'⟩:y.length<=sizeLine/\n=y.length:=e
  subst e'
  exact len_str (by omega) ⟨.int _,H,I.tok _,⟨_,rfl⟩,q⟩
 |byt y=>
  obtain⟨t,rfl⟩:=rx
  obtain⟨hy,e'⟩:y.size<=sizeLine/\n=y.size:=e
  subst e'
  exact PySem.W.len_bytes (by omega) ⟨.int _,H,I.tok _,⟨_,rfl⟩,q⟩
 |ref p=>
  cases rx
  have e':(∃xs,gf X.K H p xs/\n=xs.length)\/∃xs,fO X.K H p xs/\n=xs.length:=e
  rcases e' with⟨xs,hx,e'⟩ | ⟨xs,hx,e'⟩
  ·subst e'
   obtain⟨its,r',pl,hz⟩:=I.list hx
   have hlen:=r'.length
   exact Calls.call_len_list pl.isList (by simp only[Oh];omega) ⟨.int xs.length,H,I.tok _,⟨_,by simp only[Oh];rw[hlen]⟩,q⟩
  ·subst e'
   obtain⟨its,r',pl,hz⟩:=I.tuple hx
   have hlen:=r'.length
   exact len_tuple pl (by simp only[Oh];omega) ⟨.int xs.length,H,I.tok _,⟨_,by simp only[Oh];rw[hlen]⟩,q⟩
 |_=>exact (show False from e).elim
def vf:cI X (.builtin "divmod") (λxs H Q=>∃i j,xs= [.int i,.int j]/\GH i j/\∀p,H p=none->Q (.ref p) (upd H p (.tup [.int (i / j),.int (i % j)]))):=by
 intro pins s σ H xs us Q I r h
 obtain⟨i,j,rfl,⟨h1,h2⟩,q⟩:=h
 obtain⟨u,w',rfl,⟨t,rfl⟩,⟨t',rfl⟩⟩:=vals2 r
 refine divmod_int (by omega) ?_ (.inl (PyProof.noPylong_small (by omega)))
 rw[Int.fdiv_eq_ediv_of_nonneg i (by omega),Int.fmod_eq_emod_of_nonneg i (by omega)]
 have hn:H s.heap.objs.size=none:=I.hok.fresh (N4 _)
 refine⟨.ref s.heap.objs.size,_,?_,rfl,q _ hn⟩
 refine I.laid (λb o e=>NY _ e) (N4 _) ⟨by simp only[Ol,Qk];rw[Oo];decide,[.int (i / j) s.toks,.int (i % j) (s.toks + 1)],.cons ⟨_,rfl⟩ (.cons ⟨_,rfl⟩ .nil),?_⟩
 exact⟨_,Od s.heap rfl,rfl,0,rfl,rfl⟩
end
structure JY (h:Heap)(x dx C:Addr)(mA:Str->Option Value):Prop where
 obj:h.get? x=some (PySem.W.instObj C dx)
 ns:h.Ns1 dx mA
 ne:dx≠x
def Au {h:Heap}{dx:Addr}{mA:Str->Option Value}(n:h.Ns1 dx mA):∃od,h.get? dx=some od/\∀name,PySem.W.lookIn name od=some (mA name):=by
 obtain⟨o,es,ep,ho,hd,hk,_,hm⟩:=n
 refine⟨o,ho,λname=>?_⟩
 have e:=hm name
 unfold nsFind findBy at e
 rw[<-Array.find?_toList] at e
 unfold PySem.W.lookIn
 rw[hd]
 dsimp only
 split
 ·rename_i y q
  rw[q] at e
  exact congrArg some e
 ·rename_i q
  rw[q] at e
  have a:es.toList.any (·.refKey)=false:=by
   rw[QF]
   intro y hy
   obtain⟨z,t,hkey⟩:=hk y (Qp.mp hy)
   simp[DictEntry.refKey,hkey]
  have a':¬es.toList.any (·.refKey)=true:=by rw[a];exact OG
  rw[N8 a']
  exact congrArg some e
def JY.look {h:Heap}{x dx C:Addr}{mA:Str->Option Value}(I:JY h x dx C mA):∃od,PySem.W.InstAt h x (PySem.W.instObj C dx) C (some od)/\∀name,PySem.W.lookIn name od=some (mA name):=
 let ⟨od,ho,hl⟩:=Au I.ns
 ⟨od,⟨I.obj,rfl,rfl,ho⟩,hl⟩
section
variable {P:Program}{w:World}{H H':Hp}{h h':Heap}{a C dx:Addr}{fs fs':List (Str×V)}
def E5 (hok:nD P w H h)(e:H a=some (.ins C dx fs)):∃mA,JY h a dx C mA/\(∀f,Iq (fs.lookup f) (mA f))/\PySem.Within mA (fs.map (·.1))/\fs.length<=1000/\H dx=some (.own a):=by
 obtain⟨d,z,ne,ob,mA,n,r,q⟩:=(show cx P w H h a (.ins C dx fs) from hok a _ e)
 exact⟨mA,⟨ob,n,ne⟩,r,q,z,d⟩
end
structure My (K:Frag)(C:Addr):Prop where
 pg:PySem.W.plainGet K C Str.empty=true
 hd:PySem.W.hasDictIn K C=true
 po:PySem.W.plainOver K C=true
 sa:PySem.W.findIn K (.ref C) "__setattr__"=some (some (.builtin "object.__setattr__"))
def My.get {K:Frag}{C:Addr}(c:My K C)(f:Str):PySem.W.plainGet K C f=true:=c.pg
section
variable {X:Cx}{pins:List (Addr×Obj)}{σ:St}{H:Hp}{s:Shared}{A:Around}{E:Value->Shared->Prop}{Q:Value->Shared->Prop}{c:Value}{b:Bool}
inductive pe (K:Frag)(H:Hp):V->Value->Prop where
 |non:pe K H .non (.type "NoneType")
 |bl (x:Bool):pe K H (.bl x) (.type "bool")
 |int (i:Int):pe K H (.int i) (.type "int")
 |str (x:Str):pe K H (.str x) (.type "str")
 |flt (x:UInt64):pe K H (.flt x) (.type "float")
 |lst {a:Addr} {xs:List V} (e:H a=some (.lst xs)):pe K H (.ref a) (.type "list")
 |bp {a:Addr} {o:Obj} {xs:List V} (e:H a=some (.bp o (.lst xs))):pe K H (.ref a) (.type "list")
 |tup {a:Addr} {xs:List V} (e:H a=some (.tup xs)):pe K H (.ref a) (.type "tuple")
 |dK {a:Addr} {kvs:List (Key×V)} (e:H a=some (.dK kvs)):pe K H (.ref a) (.type "dict")
 |dT {a:Addr} {kvs:List (List Key×V)} (e:H a=some (.dT kvs)):pe K H (.ref a) (.type "dict")
 |ins {a C dx:Addr} {fs:List (Str×V)} (e:H a=some (.ins C dx fs)) (cl:My K C) (ha:PySem.W.findIn K (.ref C) "__class__"=some (some (.builtin "object.__class__")))
   (hn:PySem.W.specialIn K (.builtin "object.__class__") "__get__"=some (some (.builtin "getset_descriptor.__get__"))) (htk:PySem.W.takesIn K (.builtin "object.__class__")=some true)
   (hm:PySem.W.mroIn K C (.type "object")=some true):pe K H (.ref a) (.ref C)
theorem jM {x:V}{u t:Value}(I:Inv X pins σ H s)(rx:RelV x u)(ty:pe X.K H x t)(e:PySem.W.kitOne X.K t c=some b)(h:∀tk,Q (.bool b) {s with toks:=tk}) :
  wpAny (model X.prog X.w) A (call (.builtin "isinstance") [u,c]) Q E s:=by
 cases ty with
 |non=>cases (show u=Value.none from rx);exact O0 PySem.W.kitx_none I.kIn True.intro e (λz=>nomatch z) h
 |bl y=>cases (show u=Value.bool y from rx);exact O0 PySem.W.kitx_bool I.kIn True.intro e (λz=>nomatch z) h
 |int i=>obtain⟨t,q⟩:=(show ∃t,u=Value.int i t from rx);cases q;exact O0 PySem.W.kitx_int I.kIn True.intro e (λz=>nomatch z) h
 |str y=>obtain⟨t,q⟩:=(show ∃t,u=Value.str y t from rx);cases q;exact O0 PySem.W.kitx_str I.kIn True.intro e (λz=>nomatch z) h
 |flt y=>obtain⟨t,q⟩:=(show ∃t,u=Value.float y t from rx);cases q;exact O0 PySem.W.kitx_float I.kIn True.intro e (λz=>nomatch z) h
 | @lst a xs ea=>
  cases (show u=Value.ref a from rx)
  obtain⟨_,_,n,_,h1⟩:=(show cx X.prog X.w H s.heap a (.lst xs) from I.hok a _ ea)
  exact O0 PySem.W.kitx_list I.kIn ⟨_,h1,rfl⟩ e (λz=>nomatch z) h
 | @bp a ob xs ea=>
  cases (show u=Value.ref a from rx)
  obtain⟨_,_,_,n,_,h1⟩:=(show cx X.prog X.w H s.heap a (.bp ob (.lst xs)) from I.hok a _ ea)
  exact O0 PySem.W.kitx_list I.kIn ⟨_,h1,rfl⟩ e (λz=>nomatch z) h
 | @tup a xs ea=>
  cases (show u=Value.ref a from rx)
  obtain⟨_,_,_,p⟩:=(show cx X.prog X.w H s.heap a (.tup xs) from I.hok a _ ea)
  obtain⟨o,h1,h2,_⟩:=p
  exact O0 PySem.W.kitx_tuple I.kIn ⟨o,h1,h2⟩ e (λz=>nomatch z) h
 | @dK a kvs ea=>
  cases (show u=Value.ref a from rx)
  obtain⟨_,_,vs,_,p⟩:=(show cx X.prog X.w H s.heap a (.dK kvs) from I.hok a _ ea)
  obtain⟨o,es,ep,h1,h2,_⟩:=p
  exact O0 PySem.W.kitx_dict I.kIn ⟨o,h1,h2.1⟩ e (λz=>nomatch z) h
 | @dT a kvs ea=>
  cases (show u=Value.ref a from rx)
  obtain⟨_,_,xs,_,o,es,ep,h1,h2,_⟩:=(show cx X.prog X.w H s.heap a (.dT kvs) from I.hok a _ ea)
  exact O0 PySem.W.kitx_dict I.kIn ⟨o,h1,h2.1⟩ e (λz=>nomatch z) h
 | @ins a C dx fs ea cl ha hn htk hm=>
  cases (show u=Value.ref a from rx)
  obtain⟨mA,O,_⟩:=E5 I.hok ea
  obtain⟨od,J,_⟩:=O.look
  exact O0 (PySem.W.kitx_own (cl.get _) cl.hd ha hn htk hm) I.kIn J e (λz=>nomatch z) h
end
structure fN (k:Nat)(A:Around):Prop where
 hd:A.handled=none
 dp:A.depth + 3 * k + 5 < recursionLimit
 un:A.units + 16 * k + 200 < cLine
 gd:A.guards=some []
def fN.mono {j k:Nat}{A:Around}(r:fN k A)(h:j<=k):fN j A:=⟨r.hd,by have:=r.dp;omega,by have:=r.un;omega,r.gd⟩
def fN.deeper {k:Nat}{A:Around}(r:fN (k + 1) A)(env:Env):fN k (A.deeper env):=
 ⟨r.hd,by have:=r.dp;show A.depth + 1 + 3 * k + 5 < _;omega,by have:=r.un;show A.units + 3 + 16 * k + 200 < _;omega,r.gd⟩
def fN.depth {k:Nat}{A:Around}(r:fN k A):A.depth < recursionLimit:=by have:=r.dp;omega
def fN.units {k:Nat}{A:Around}(r:fN k A):A.units + 64 < cLine:=by have:=r.un;omega
def MX:TA:=λ_ H Q=>Q [] H
def LA (ta:TE)(tr:TA):TA:=λσ H Q=>ta σ H λx H1=>tr σ H1 λxs H2=>Q (x :: xs) H2
section
variable {X:Cx}{e:Expr}{es:List Expr}{te:TE}{t:TA}{pos:Pos}
def bu:PA X [] MX:=λ_ _ _ _ H Q I h=>Calls.spliced_nil ⟨[],H,I,.nil,h⟩
def aN (ha:PE X e te)(hr:PA X es t)(hs:starEach (e :: es) X.env=(false,eval e X.env) :: starEach es X.env:=by rfl):PA X (e :: es) (LA te t):=by
 intro pos pins s σ H Q I h
 rw[hs]
 show wpAny _ _ (spliced ((false,eval e X.env) :: backTo pos (starEach es X.env))) _ _ s
 refine Calls.spliced_cons (cR (ha pins s σ H _ I h) λu s1 ⟨x,H1,I1,r1,q1⟩=>?_)
 exact cR (hr pos pins s1 σ H1 _ I1 q1) λus s2 ⟨xs,H2,I2,r2,q2⟩=>⟨x :: xs,H2,I2,.cons r1 r2,q2⟩
def MH (t:TA):TE:=λσ H Q=>t σ H λxs H1=>xs.length<=sizeLine/\∀p,H1 p=none->Q (.ref p) (upd H1 p (.tup xs))
def MA (t:TA):TE:=λσ H Q=>t σ H λxs H1=>xs.length<=sizeLine/\∀p,H1 p=none->Q (.ref p) (upd H1 p (.lst xs))
def yy {x1}(h:PA X es t):PE X (.Tuple es x1 pos) (MH t):=by
 intro pins s σ H Q I hq
 refine wpAny_Tuple_spliced (cR (h pos pins s σ H _ I hq) λus s1 ⟨xs,H1,I1,r,z,q⟩=>⟨by rw[<-r.length];exact z,?_⟩)
 have hf:H1 s1.heap.objs.size=none:=I1.hok.fresh (N4 _)
 refine⟨.ref s1.heap.objs.size,upd H1 s1.heap.objs.size (.tup xs),I1.laid (t':=s1.toks) (λb u e=>NY _ e) (N4 _) ?_,rfl,q _ hf⟩
 exact⟨z,us,r,r6.new _ _⟩
def DG (h:PA X es t):PE X (.List es pos) (MA t):=by
 intro pins s σ H Q I hq
 refine wpAny_List_spliced (cR (h pos pins s σ H _ I hq) λus s1 ⟨xs,H1,I1,r,z,q⟩=>⟨by rw[<-r.length];exact z,?_⟩)
 have hf:H1 s1.heap.objs.size=none:=I1.hok.fresh (N4 _)
 refine⟨.ref s1.heap.objs.size,upd H1 s1.heap.objs.size (.lst xs),I1.laid (t':=s1.toks) (λb u e=>NY _ e) (N4 _) ?_,rfl,q _ hf⟩
 exact⟨z,us,0,r,Od _ rfl⟩
end
abbrev Sp:=List V->Hp->VK->XK->Prop
abbrev Bk:=List Env->Hp->Shared->XK->Value->Shared->Prop
structure E6 (P:Program)(w:World)(K:Frag)(mg:Str->Option Value)(base:Heap)(A:Around)(outer:List Env)(s:Shared)(H:Hp):Prop where
 frames:A.frames=some outer
 mod:Mod K mg base
 bs:∀b o,base.get? b=some o->s.heap.get? b=some o/\H b=none
 bsz:base.objs.size<=s.heap.objs.size
 funs:s.heap.FunFrames base outer
 frf:∀b∈mK outer,H b=none
 hok:nD P w H s.heap
 bare:AllBare s.gens
def CE (outer:List Env)(P:Program)(w:World)(H:Hp)(s:Shared)(Q:VK)(u:Value)(s':Shared):Prop:=
 ∃v H',s'.os=s.os/\AllBare s'.gens/\Un (mK outer) [] H H' s.heap s'.heap/\nD P w H' s'.heap/\RelV v u/\Q v H'
def CR (CX:Bk)(outer:List Env)(P:Program)(w:World)(H:Hp)(s:Shared)(Q:VK)(E:XK)(r:Result)(s':Shared):Prop:=
 match r with
 | .ok (.ret u)=>CE outer P w H s Q u s'
 | .ok _=>False
 | .error e=>CX outer H s E e s'
structure fV (P:Program)(w:World)(K:Frag)(mg:Str->Option Value)(base:Heap)(CX:Bk)(k:Nat)(f:Addr)(fd:FuncData)(ps:List Str)(sp:Sp):Prop where
 len:∀vs H Q E,sp vs H Q E->vs.length=ps.length
 run:∀(A:Around) (outer:List Env) (s:Shared) (H:Hp) (args:Args) (us:List Value) (vs:List V) (Q:VK) (E:XK),fN k A->E6 P w K mg base A outer s H->BindsTo s fd args (ps.zip us)->Vals vs us->sp vs H Q E->
  codeAny (model P w) A (.call (.ref f) args) (CR CX outer P w H s Q E) s
def fV.mono {P:Program}{w:World}{K:Frag}{mg:Str->Option Value}{base:Heap}{CX:Bk}{j k:Nat}{f:Addr}{fd:FuncData}{ps:List Str}{sp:Sp}(F:fV P w K mg base CX j f fd ps sp)(h:j<=k) :
  fV P w K mg base CX k f fd ps sp:=⟨F.len,λA outer s H args us vs Q E hr=>F.run A outer s H args us vs Q E (hr.mono h)⟩
def fV.imp {P:Program}{w:World}{K:Frag}{mg:Str->Option Value}{base:Heap}{CX:Bk}{k:Nat}{f:Addr}{fd:FuncData}{ps:List Str}{sp sp':Sp}(F:fV P w K mg base CX k f fd ps sp)
  (h:∀vs H Q E,sp' vs H Q E->sp vs H Q E):fV P w K mg base CX k f fd ps sp':=
 ⟨λvs H Q E q=>F.len vs H Q E (h _ _ _ _ q),λA outer s H args us vs Q E hr he hb hv hs=>F.run A outer s H args us vs Q E hr he hb hv (h _ _ _ _ hs)⟩
section
variable {X:Cx}{pins:List (Addr×Obj)}{σ:St}{H:Hp}{s s':Shared}
def Inv.env0 (I:Inv X pins σ H s):E6 X.prog X.w X.K X.mg X.base X.A X.stack s H:=
 ⟨I.ok.frames,I.ok.mod,I.bs,Pl I.ok.bsz I.sz,I.stack,I.stkFree,I.hok,I.bare⟩
def Inv.after {Q:VK}{u:Value}(I:Inv X pins σ H s)(h:CE X.stack X.prog X.w H s Q u s'):EP X pins σ Q u s':=by
 obtain⟨v,H',os,bare,un,hok,r,q⟩:=h
 obtain⟨hh,g,d,t,os'⟩:=s'
 obtain rfl:os'=s.os:=os
 exact⟨v,H',I.call (h':=hh) (g':=g) (d':=d) (t':=t) (ch:=[]) un hok bare (λb z=>absurd z (by simp)),r,q⟩
end
def LP (sp:Sp)(dvs:List V)(E:XK)(t:TA):TE:=λσ H Q=>t σ H λvs H1=>sp (vs ++ dvs) H1 Q E
def Binds (K:Frag)(fd:FuncData)(ps:List Str)(ds:List Value):Prop:=
 ∀(s:Shared) (us:List Value),K.In s.heap->(us ++ ds).length=ps.length->BindsTo s fd ⟨us,[]⟩ (ps.zip (us ++ ds))
def Binds.all {K:Frag}{fd:FuncData}{ps:List Str}(h:∀us:List Value,us.length=ps.length->bindArgs fd ⟨us,[]⟩=pure (ps.zip us)):Binds K fd ps []:=λs us _ hl=>by
 rw[Qz] at hl ⊢
 exact .of_eq (h us hl)
def Passes (CX:Bk)(X:Cx)(E:XK):Prop:=∀(pins:List (Addr×Obj)) (σ:St) (H:Hp) (s:Shared) (e:Value) (s':Shared),Inv X pins σ H s->CX X.stack H s E e s'->X.xe e s'
section
variable {X:Cx}{CX:Bk}{k:Nat}{f C:Addr}{fd:FuncData}{ps:List Str}{sp:Sp}{dvs:List V}{ds:List Value}{E:XK}{x m:Str}{p pos apos:Pos}{e o:Expr}{es:List Expr}{ta:TE}{t:TA}
theorem JZ {pins:List (Addr×Obj)}{σ:St}{H:Hp}{s:Shared}{Q:VK}{us:List Value}{vs:List V}(F:fV X.prog X.w X.K X.mg X.base CX k f fd ps sp)(hr:fN k X.A)(hb:Binds X.K fd ps ds)(hd:Vals dvs ds)(hx:Passes CX X E)
  (I:Inv X pins σ H s) (r:Vals vs us) (h:sp (vs ++ dvs) H Q E):wpAny (model X.prog X.w) X.A (call (.ref f) us) (EP X pins σ Q) X.xe s:=by
 have r2:Vals (vs ++ dvs) (us ++ ds):=r.append hd
 have hl:(us ++ ds).length=ps.length:=by rw[<-r2.length];exact F.len _ _ _ _ h
 refine wpAny_call (P6 (F.run X.A X.stack s H ⟨us,[]⟩ (us ++ ds) (vs ++ dvs) Q E hr I.env0 (hb s us I.kIn hl) r2 h) λr s' hq=>?_)
 cases r with
 |error e=>exact hx pins σ H s e s' I hq
 |ok fl=>
  cases fl with
  |ret u=>exact I.after hq
  |next=>exact False.elim hq
  |brk=>exact False.elim hq
  |cont=>exact False.elim hq
def nH (F:fV X.prog X.w X.K X.mg X.base CX k f fd ps sp)(hr:fN k X.A)(hg:Gl X x)(hm:X.mg x=some (.ref f))(hk:PySem.W.keepIn X.K (.ref f)=true)(hb:Binds X.K fd ps ds)(hd:Vals dvs ds)(hx:Passes CX X E)
  (ha:PA X (e :: es) t) (hdb:(x == ("__debug__":Str))=false:=by decide) (he:starEach (e :: es) X.env=(false,eval e X.env) :: starEach es X.env:=by rfl) (hpl:(backTo pos (starEach es X.env)).any (·.1)=false:=by rfl) :
  PE X (.Call (.Name x p) (e :: es) [] pos) (LP sp dvs E t):=by
 intro pins s σ H Q I h
 refine wpAny_Call_Name_kw (Af I hg hm ?_ hdb)
 refine PySem.W.callWith_K (h₀:=X.base) I.ok.mod.kin hk (cR (ha pos pins s σ H _ I h) λus s1 ⟨vs,H1,I1,r,q⟩=>⟨I1.kIn,?_⟩) he hpl
 exact JZ F hr hb hd hx I1 r q
end
structure aG (N P:List Str)(sc:Scope):Prop where
 kind:sc.kind=.function
 co:sc.isCoroutine=false
 gen:sc.isGenerator=false
 nd:N.Nodup
 pre:N.take P.length=P
 par:∀x∈P,sc.names.lookup x=some .local\/sc.names.lookup x=some .cell
 nofree:∀y∈sc.names,y.2≠.free
theorem sF {kindOf:Str->Option NameKind}{x:Str}:∀{binds:List (Str×Value)} {m:Str->Option Value},(∀v,(x,v)∉binds)->bindL kindOf binds m x=m x
 | [],_,_=>rfl
 | (n,v) :: r,m,h=>by
  unfold bindL
  rw[sF λw hw=>h w (N5 _ hw)]
  split
  ·have:x≠n:=by rintro rfl;exact h v N0
   simp[this]
  ·rfl
theorem tH {kindOf:Str->Option NameKind}{x:Str}:∀{binds:List (Str×Value)} {m:Str->Option Value},(∀v,(x,v)∉binds)->bindC kindOf binds m x=m x
 | [],_,_=>rfl
 | (n,v) :: r,m,h=>by
  unfold bindC
  rw[tH λw hw=>h w (N5 _ hw)]
  split
  ·rfl
  ·have:x≠n:=by rintro rfl;exact h v N0
   simp[this]
theorem tI {kindOf:Str->Option NameKind}{x:Str}{v:Value}:∀{P:List Str} {vs:List Value} {i:Nat} {m:Str->Option Value},P.Nodup->P[i]? =some x->vs[i]? =some v->kindOf x=some .local->
  bindL kindOf (P.zip vs) m x=some v
 | [],_,_,_,_,h,_,_=>by simp at h
 |_ :: _,[],_,_,_,_,h,_=>by simp at h
 |p :: P,w :: vs,0,m,nd,h1,h2,hk=>by
  simp at h1 h2;subst h1;subst h2
  show bindL kindOf ((p,w) :: P.zip vs) m p=_
  unfold bindL
  rw[sF λv hv=>(Ov.mp nd).1 (List.of_mem_zip hv).1,N1 hk]
  simp
 |p :: P,w :: vs,i + 1,m,nd,h1,h2,hk=>by
  show bindL kindOf ((p,w) :: P.zip vs) m x=_
  unfold bindL
  exact tI (i:=i) (Ov.mp nd).2 (by simpa using h1) (by simpa using h2) hk
theorem tq {kindOf:Str->Option NameKind}{x:Str}{v:Value}:∀{P:List Str} {vs:List Value} {i:Nat} {m:Str->Option Value},P.Nodup->P[i]? =some x->vs[i]? =some v->kindOf x≠some .local->
  bindC kindOf (P.zip vs) m x=some v
 | [],_,_,_,_,h,_,_=>by simp at h
 |_ :: _,[],_,_,_,_,h,_=>by simp at h
 |p :: P,w :: vs,0,m,nd,h1,h2,hk=>by
  simp at h1 h2;subst h1;subst h2
  show bindC kindOf ((p,w) :: P.zip vs) m p=_
  unfold bindC
  rw[tH λv hv=>(Ov.mp nd).1 (List.of_mem_zip hv).1,N8 hk]
  simp
 |p :: P,w :: vs,i + 1,m,nd,h1,h2,hk=>by
  show bindC kindOf ((p,w) :: P.zip vs) m x=_
  unfold bindC
  exact tq (i:=i) (Ov.mp nd).2 (by simpa using h1) (by simpa using h2) hk
def start (N:List Str)(vs:List V):St:=vs.map some ++ List.replicate (N.length - vs.length) none
def rP (CX:Bk)(P:Program)(w:World)(K:Frag)(mg:Str->Option Value)(base:Heap)(N:List Str)(qual:Str)(scope:Scope)(f:Addr)(cd:Value)(A:Around)(outer:List Env)(s:Shared)(H:Hp)(E:XK):Cx where
 prog:=P
 w:=w
 K:=K
 mg:=mg
 base:=base
 A:=A.deeper (envOfC qual scope s.heap.objs.size f cd)
 N:=N
 s₀:=s
 H₀:=H
 env:=envOfC qual scope s.heap.objs.size f cd
 outer:=outer
 stack:=envOfC qual scope s.heap.objs.size f cd :: outer
 ex:=[]
 calm:=true
 fn:=λ_=>true
 pn:=[]
 xe:=λe s'=>wpAny (model P w) (A.deeper (envOfC qual scope s.heap.objs.size f cd)) (leaving (envOfC qual scope s.heap.objs.size f cd) e) (λ_ s''=>CX outer H s E e s'') (λe' s''=>CX outer H s E e' s'') s'
def wo {sc:Scope}{n:Nat}{x:Str}(h:sc.names.lookup x=some .cell):∃c,(cellsFrom n sc.names []).lookup x=some c:=by
 have q:=PySem.W.cellsFrom_some sc.names n [] (.inl h)
 exact Option.isSome_iff_exists.mp q
def Bq {CX:Bk}{P:Program}{w:World}{K:Frag}{mg:Str->Option Value}{base:Heap}{N ps:List Str}{qual:Str}{scope:Scope}{f:Addr}{cd:Value}{A:Around}{outer:List Env}{s s1:Shared}{H:Hp}{E:XK}{us:List Value}{vs:List V}
  (S:aG N ps scope) (hd:A.handled=none) (e0:E6 P w K mg base A outer s H) (hl:vs.length=ps.length) (r:Vals vs us)
  (x:InCallC s s.heap.objs.size (bindL (envOfC qual scope s.heap.objs.size f cd).kindOf (ps.zip us) λ_=>none) (cellsFrom (s.heap.objs.size + 1) scope.names []) (bindC (envOfC qual scope s.heap.objs.size f cd).kindOf (ps.zip us) λ_=>none) s1) :
  Inv (rP CX P w K mg base N qual scope f cd A outer s H E) [] (start N vs) H s1:=by
 have hpl:ps.length<=N.length:=by have:=congrArg List.length S.pre;rw[OX] at this;omega
 obtain⟨h1,tk,rfl,hk⟩:=x.done
 have noA:∀b:Addr,b∉(rP CX P w K mg base N qual scope f cd A outer s H E).ex:=λb z=>absurd (show b∈([]:List Addr) from z) (by simp)
 refine⟨⟨e0.mod,S.kind,rfl,rfl,N4 _,λy z c h1 h2=>?_,λy hy=>?_,λy c _ h=>?_,λ_=>hd,Around.frames_deeper e0.frames,.inr ⟨rfl,rfl⟩,λb z=>absurd z (noA b),e0.bs,e0.bsz,λb _ _=>noA b,λb z=>absurd z (noA b),e0.funs,e0.frf⟩,
  rfl,e0.bare,Un.kept hk,⟨_,x.toInCall.ns,λi y v h1 h2 h3=>?_⟩,λy c h=>⟨_,x.cell y c h⟩,e0.hok.fresh (N4 _),λy c h=>?_,λp hp=>absurd (show p∈([]:List (Addr×Obj)) from hp) (by simp),e0.hok.kept hk,?_⟩
 ·exact name_of_addr x.apart (Qd h1) (Qd h2)
 ·have hy:scope.names.lookup y=some .cell\/scope.names.lookup y=some .free:=hy
  rcases hy with hy |hy
  ·exact wo hy
  ·exact absurd rfl (S.nofree _ (Qd hy))
 ·exact Nat.le_of_lt (x.above y c (Qd h))
 ·have hi:i < vs.length:=by
   unfold start at h2
   by_cases hi:i < vs.length
   ·exact hi
   ·rw[OK (by simpa using hi)] at h2
    rw[PL] at h2
    split at h2 <;> cases h2
  have ha:vs[i]? =some v:=by
   unfold start at h2
   rw[OU (by simpa using hi),Oa] at h2
   cases e:vs[i]? with
   |none=>rw[e] at h2;cases h2
   |some a=>rw[e] at h2;cases h2;rfl
  obtain⟨u,hu,rv⟩:=r.get ha
  have hp:ps[i]? =some y:=by
   rw[<-S.pre,QX (by omega)];exact h1
  have ndP:ps.Nodup:=by rw[<-S.pre];exact S.nd.sublist (Qn _ _)
  refine⟨u,rv,?_⟩
  rcases S.par y (Ob hp) with k |k
  ·exact .inl ⟨k,tI ndP hp hu k⟩
  ·obtain⟨c,e⟩:=wo (n:=s.heap.objs.size + 1) k
   refine .inr ⟨.inl k,c,e,?_⟩
   have q:=x.cell y c e
   rw[tq ndP hp hu (by show scope.names.lookup y≠_;rw[k];decide)] at q
   exact q
 ·exact e0.hok.fresh (Nat.le_of_lt (x.above y c (Qd h)))
 ·unfold start
  show _=N.length
  rw[Ow,NZ,Ql]
  omega
theorem GR {CX:Bk}{P:Program}{w:World}{K:Frag}{mg:Str->Option Value}{base:Heap}{k:Nat}{f:Addr}{name qual:Str}{params:Arguments}{body:List Stmt}{scope:Scope}{dV kV doc pm cdv ct oc:Value}{an od:Option Addr}
  {osl:Array (Option Value)} {N ps:List Str} {sp:Sp} (lk:K.lookup f=some ⟨oc,od,.func (PySem.W.fnOf name qual params body scope dV kV doc pm an cdv ct),osl⟩) (hcd:PySem.W.codeIn K cdv qual=true) (S:aG N ps scope)
  (len:∀vs H Q E,sp vs H Q E->vs.length=ps.length)
  (hbody:∀(A:Around) (outer:List Env) (s:Shared) (H:Hp) (vs:List V) (Q:VK) (E:XK),fN k (A.deeper (envOfC qual scope s.heap.objs.size f cdv))->sp vs H Q E->
   ∃t,sV (rP CX P w K mg base N qual scope f cdv A outer s H E) body t/\t {nx:=λ_ H'=>Q .non H',rt:=Q} (start N vs) H) :
  fV P w K mg base CX (k + 1) f (PySem.W.fnOf name qual params body scope dV kV doc pm an cdv ct) ps sp:=by
 refine⟨len,λA outer s H args us vs Q E hr e0 hb r hsp=>?_⟩
 have hl:=len _ _ _ _ hsp
 have KX:K.In s.heap:=e0.mod.kin.keeps λb o e=>(e0.bs b o e).1
 have lim:s.heap.NoLimit:=e0.mod.nolimit.keeps λb o e=>(e0.bs b o e).1
 have hkind:∀y∈ps.zip us,scope.names.lookup y.1=some .local\/(scope.names.lookup y.1=some .cell/\((cellsFrom (s.heap.objs.size + 1) scope.names []).lookup y.1).isSome=true):=λ⟨n,v⟩ hy=>by
  rcases S.par n (List.of_mem_zip hy).1 with q |q
  ·exact .inl q
  ·exact .inr ⟨q,PySem.W.cellsFrom_some _ _ _ (.inl q)⟩
 refine codeAny_call_function hr.depth (KX _ _ lk) rfl S.co S.gen rfl (PySem.W.codeRec_of KX hcd) (hb _ _ _ _ ?_)
 refine wpAny_newFunctionEnv_cells S.kind hkind λenv he s1 x=>?_
 subst he
 refine⟨lim.keeps x.toInCall.keep,codeAny_func ?_⟩
 obtain⟨t,ht,hq⟩:=hbody A outer s H vs Q E (hr.deeper _) hsp
 have I:Inv (rP CX P w K mg base N qual scope f cdv A outer s H E) [] (start N vs) H s1:=Bq S hr.hd e0 hl r x
 refine PR (ht [] s1 (start N vs) H _ I hq) (λfl s' hs=>?_) λe s' hs=>hs
 have fin:∀{σ':St} {H':Hp} {v:V} {u:Value},Inv (rP CX P w K mg base N qual scope f cdv A outer s H E) [] σ' H' s'->RelV v u->Q v H'->CE outer P w H s Q u s':=
  λ{σ' H' v u} J rv q=>⟨v,H',J.os,J.bare,J.base,J.hok,rv,q⟩
 cases fl with
 |ret u=>
  obtain⟨v,σ',H',J,rv,q⟩:=hs
  exact fin J rv q
 |next=>
  obtain⟨σ',H',J,q⟩:=hs
  exact fin (v:=V.non) (u:=Value.none) J rfl q
 |brk=>
  obtain⟨_,_,_,q⟩:=hs
  exact False.elim q
 |cont=>
  obtain⟨_,_,_,q⟩:=hs
  exact False.elim q
section
variable {X:Cx}{x:Str}{p pos:Pos}{e:Expr}{es:List Expr}{t:TA}{id T:String}{r:List V->Hp->VK->Prop}
def Ny (r:List V->Hp->VK->Prop)(t:TA):TE:=λσ H Q=>t σ H λvs H1=>r vs H1 Q
def i0 (hc:cI X (.builtin id) r)(hg:Gl X x)(hm:X.mg x=none)(hv:bootBuiltins x=some (.builtin id))(ha:PA X (e :: es) t)(hn:x≠"__name__":=by decide)(hdb:(x == ("__debug__":Str))=false:=by decide)
  (he:starEach (e :: es) X.env=(false,eval e X.env) :: starEach es X.env:=by rfl) (hpl:(backTo pos (starEach es X.env)).any (·.1)=false:=by rfl):PE X (.Call (.Name x p) (e :: es) [] pos) (Ny r t):=by
 intro pins s σ H Q I h
 refine wpAny_Call_Name_kw (lg I hg hm hv ?_ hn hdb)
 exact PyProof.Rows.callWith_builtin1 (cR (ha pos pins s σ H _ I h) λus s1 ⟨vs,H1,I1,r1,q1⟩=>hc pins s1 σ H1 vs us Q I1 r1 q1) he hpl
def fZ (hc:cI X (.type T) r)(hg:Gl X x)(hm:X.mg x=none)(hv:bootBuiltins x=some (.type T))(ha:PA X (e :: es) t)(hn:x≠"__name__":=by decide)(hdb:(x == ("__debug__":Str))=false:=by decide)
  (he:starEach (e :: es) X.env=(false,eval e X.env) :: starEach es X.env:=by rfl) (hpl:(backTo pos (starEach es X.env)).any (·.1)=false:=by rfl):PE X (.Call (.Name x p) (e :: es) [] pos) (Ny r t):=by
 intro pins s σ H Q I h
 refine wpAny_Call_Name_kw (lg I hg hm hv ?_ hn hdb)
 exact Pq (cR (ha pos pins s σ H _ I h) λus s1 ⟨vs,H1,I1,r1,q1⟩=>hc pins s1 σ H1 vs us Q I1 r1 q1) he hpl
end
end L2
namespace HT
open PySem PyProof.Rows
def lexLt:List Int->List Int->Bool
 | [],[]=>false
 | [],_ :: _=>true
 |_ :: _,[]=>false
 |x :: xs,y :: ys=>if x=y then lexLt xs ys else decide (x < y)
def kf (x y:Int)(xs ys:List Int):lexLt (x :: xs) (y :: ys)=if x=y then lexLt xs ys else decide (x < y):=rfl
section
open PySem.SeqAt
open PySem.AutoSeq1 (wpAny_loadPart')
open PySem.MeetsSeq PySem.MeetsSeq2 PySem.MeetsSeq3
end
section
variable {prog:Program}{w:World}{A:Around}{E:Value->Shared->Prop}{s:Shared}
def sO (n d:Nat):Option Int->Nat
 |none=>d
 |some v=>if v < 0 then (v + (n:Int)).toNat else min v.toNat n
def vZ (n d:Nat):sO n d none=d:=rfl
def zh (n d k:Nat):sO n d (some (k:Int))=min k n:=by
 show (if (k:Int) < 0 then ((k:Int) + (n:Int)).toNat else min (k:Int).toNat n)=min k n
 rw[N8 (by omega),OB]
end
end HT
namespace L2
open PySem PySem.Spec PyProof.Rows
abbrev TO:=St->Hp->(Option Int->Hp->Prop)->Prop
def PO (X:Cx)(e:Option Expr)(t:TO):Prop:=
 ∀(pins:List (Addr×Obj)) (s:Shared) (σ:St) (H:Hp) (Q:Option Int->Hp->Prop),Inv X pins σ H s->t σ H Q->
  wpAny (model X.prog X.w) X.A (evalPart e X.env) (λu s'=>∃o H',Inv X pins σ H' s'/\IsPart u o/\Q o H') X.xe s
def FC:TO:=λ_ H Q=>Q none H
def Lg (t:TE):TO:=λσ H Q=>t σ H λx H1=>∃i,x=.int i/\Q (some i) H1
theorem intsAre_of {ns:List Int}:∀{us:List Value},Vals (ns.map V.int) us->IntsAre us ns:=by
 induction ns with
 |nil=>intro us r;rw[List.map_nil] at r;cases r;exact .nil
 |cons n ns ih=>
  intro us r
  rw[OL] at r
  cases r with
  |cons r1 r2=>
   obtain⟨t,e⟩:=r1
   subst e
   exact .cons n t (ih r2)
section
variable {X:Cx}{e:Expr}{te:TE}{lo hi:Option Expr}{tl th:TO}{pos p2:Pos}
def EF:PO X none FC:=by
 intro pins s σ H Q I h
 rw[evalPart_none]
 exact N2 ⟨none,H,I,.none,h⟩
def Fe (h:PE X e te):PO X (some e) (Lg te):=by
 intro pins s σ H Q I hw
 rw[evalPart_some]
 refine cR (h pins s σ H _ I hw) λu s1 ⟨x,H1,I1,r1,q1⟩=>?_
 obtain⟨i,rfl,q⟩:=q1
 obtain⟨t,rfl⟩:=r1
 exact⟨some i,H1,I1,.int i t,q⟩
def NH (X:Cx)(r:V->Option Int->Option Int->Hp->VK->Prop):Prop:=
 ∀(pins:List (Addr×Obj)) (s:Shared) (σ:St) (H:Hp) (x:V) (v vl vu:Value) (lo hi:Option Int) (sl:Addr) (Q:VK),Inv X pins σ H s->RelV x v->s.heap.IsSliceOf sl vl vu .none->IsPart vl lo->IsPart vu hi->r x lo hi H Q->
  ∃T id,typeLookup (.type T) "__getitem__"=pure (some (.builtin id))/\s.TypeIs v T/\wpAny (model X.prog X.w) X.A (getItem v (.ref sl)) (EP X pins σ Q) X.xe s
def NK (r:V->Option Int->Option Int->Hp->VK->Prop)(te:TE)(tl th:TO):TE:=λσ H Q=>te σ H λx H1=>tl σ H1 λl H2=>th σ H2 λu H3=>r x l u H3 Q
def DN {r:V->Option Int->Option Int->Hp->VK->Prop}(hr:NH X r)(he:PE X e te)(hl:PO X lo tl)(hu:PO X hi th):PE X (.Subscript e (.Slice lo hi none p2) pos) (NK r te tl th):=by
 intro pins s σ H Q I h
 refine Subscript_ (cR (he pins s σ H _ I h) λv s1 ⟨x,H1,I1,r1,q1⟩=>?_)
 refine wpAny_Slice (cR (hl pins s1 σ H1 _ I1 q1) λvl s2 ⟨l,H2,I2,pl,q2⟩=>cR (hu pins s2 σ H2 _ I2 q2) λvu s3 ⟨u,H3,I3,pu,q3⟩=>?_)
 rw[evalPart_none]
 refine N2 ?_
 have I4:Inv X pins σ H3 {s3 with heap:=s3.heap.push {cls:=.type "slice",data:=.fields #[vl,vu,.none]}}:=I3.kept (t':=s3.toks) λb ob q=>NY _ q
 obtain⟨T,id,hT,ht,hg⟩:=hr pins {s3 with heap:=s3.heap.push {cls:=.type "slice",data:=.fields #[vl,vu,.none]}} σ H3 x v vl vu l u s3.heap.objs.size Q I4 r1 (Heap.IsSliceOf.new ..) pl pu q3
 show wpAny (model X.prog X.w) X.A (subscriptTail e (.Slice lo hi none p2) v (.ref s3.heap.objs.size)) (EP X pins σ Q) X.xe {s3 with heap:=s3.heap.push {cls:=.type "slice",data:=.fields #[vl,vu,.none]}}
 exact tail_any (ops:=[.ref s3.heap.objs.size,v]) ht hT hg (by with_unfolding_all rfl)
def yu (xs:List V)(lo hi:Option Int):List V:=(xs.drop (HT.sO xs.length 0 lo)).take (HT.sO xs.length xs.length hi - HT.sO xs.length 0 lo)
def vv (xs:List V)(lo hi:Option Int):(yu xs lo hi).length<=xs.length:=by
 unfold yu
 rw[OX,length_drop]
 omega
end
def t6 (n:Nat)(i:Int):Option Nat:=if 0<=i then (if i < n then some i.toNat else none) else if -(n:Int)<=i then some (i + n).toNat else none
def kG {α:Type}(xs:List α)(i:Int):Option α:=(t6 xs.length i).bind λj=>xs[j]?
def zl {n:Nat}{i:Int}{j:Nat}(h:t6 n i=some j):seqIndex? i n=some j/\j < n/\ -(n:Int)<=i/\i < n:=by
 unfold t6 at h
 by_cases h0:0<=i
 ·rw[N1 h0] at h
  by_cases h1:i < n
  ·rw[N1 h1] at h
   have e:i.toNat=j:=Option.some.inj h
   exact⟨by rw[seqIndex_of h0 h1,e],by omega,by omega,h1⟩
  ·rw[N8 h1] at h;cases h
 ·rw[N8 h0] at h
  by_cases h1: -(n:Int)<=i
  ·rw[N1 h1] at h
   have e:(i + n).toNat=j:=Option.some.inj h
   exact⟨by rw[seqIndex_neg (by omega) h1,e],by omega,h1,by omega⟩
  ·rw[N8 h1] at h;cases h
theorem uE {α:Type}{xs:List α}{i:Int}{v:α}(h:kG xs i=some v):∃j,seqIndex? i xs.length=some j/\xs[j]? =some v/\j < xs.length/\ -(xs.length:Int)<=i/\i < xs.length:=by
 unfold kG at h
 cases e:t6 xs.length i with
 |none=>rw[e] at h;cases h
 |some j=>
  rw[e] at h
  obtain⟨h1,h2,h3,h4⟩:=zl e
  exact⟨j,h1,h,h2,h3,h4⟩
def kC {α:Type}{xs:List α}{j:Nat}{v:α}(h:xs[j]? =some v):kG xs (j:Int)=some v:=by
 have hj:j < xs.length:=(N9.mp h).1
 have e:t6 xs.length (j:Int)=some j:=by
  unfold t6
  rw[N1 (by omega),N1 (by omega)];simp
 unfold kG;rw[e];exact h
def y6 (b:Expr):Prop:=∀o i,subscripted b false o i=operate [o,i] (getItem o i)
def C2 (X:Cx)(r:R2):Prop:=
 ∀(value slice:Expr) (pins:List (Addr×Obj)) (s:Shared) (σ:St) (H:Hp) (x y:V) (v u:Value) (Q:VK),Inv X pins σ H s->RelV x v->RelV y u->r x y H Q->
  subscripted slice false v u=operate [v,u] (getItem v u)->wpAny (model X.prog X.w) X.A (subscriptTail value slice v u) (EP X pins σ Q) X.xe s
def NU (X:Cx)(id:String)(r:V->List V->Hp->VK->Prop):Prop:=
 ∀(pins:List (Addr×Obj)) (s:Shared) (σ:St) (H:Hp) (x:V) (xs:List V) (v:Value) (us:List Value) (Q:VK),Inv X pins σ H s->RelV x v->Vals xs us->r x xs H Q->
  wpAny (model X.prog X.w) X.A (call (.builtin id) (v :: us)) (EP X pins σ Q) X.xe s
section
variable {X:Cx}{a b:Expr}{ta tb:TE}{pos:Pos}
def C2.or {r r':R2}(h:C2 X r)(h':C2 X r'):C2 X (λx y H Q=>r x y H Q\/r' x y H Q):=by
 intro value slice pins s σ H x y v u Q I rx ry q hs
 rcases q with q |q
 ·exact h value slice pins s σ H x y v u Q I rx ry q hs
 ·exact h' value slice pins s σ H x y v u Q I rx ry q hs
def l5 {r:R2}(hr:C2 X r)(ha:PE X a ta)(hb:PE X b tb)(hs:y6 b):PE X (.Subscript a b pos) (LV r ta tb):=by
 intro pins s σ H Q I h
 exact Subscript_ (HX ha hb I h λv u s2 x y H2 I2 rx ry q=>hr a b pins s2 σ H2 x y v u Q I2 rx ry q (hs _ _))
def JC (K:Frag):R2:=λx y H Q=>∃p xs i v,x=.ref p/\y=.int i/\gf K H p xs/\kG xs i=some v/\Q v H
def J8 (K:Frag):R2:=λx y H Q=>∃p xs i v,x=.ref p/\y=.int i/\fO K H p xs/\kG xs i=some v/\Q v H
def KN:R2:=λx y H Q=>∃z i c,x=.str z/\y=.int i/\z.length<=sizeLine/\kG z.cps.toList i=some c/\Q (.str ⟨#[c]⟩) H
def hW:C2 X (JC X.K):=by
 intro value slice pins s σ H x y v u Q I rx ry h hs
 obtain⟨p,xs,i,z,rfl,rfl,hq,he,q⟩:=h
 cases rx
 obtain⟨t,rfl⟩:=ry
 obtain⟨its,r,pl,hz⟩:=I.list hq
 obtain⟨j,h1,h2,h3,h4,h5⟩:=uE he
 obtain⟨w,ew,rw'⟩:=r.get h2
 have hl:=r.length
 have hn:=ot
 have fin:EP X pins σ Q w s:=⟨z,H,I,rw',q⟩
 by_cases h0:0<=i
 ·have hj:i.toNat=j:=by
   rw[seqIndex_of h0 h5] at h1
   exact Option.some.inj h1
  exact item_listR pl.isList h0 (by omega) (by rw[hj];simpa using ew) fin hs
 ·have hj:(i + (its.toArray.size:Int)).toNat=j:=by
   rw[seqIndex_neg (by omega) h4] at h1
   rw[Oh,<-hl]
   exact Option.some.inj h1
  exact subscriptTail_builtinR (x:=w) pl.isList.typeIs slot_list_getitem.lookup
   (wpAny_getItem_list_neg (Q:=λr s'=>r=w/\EP X pins σ Q r s') pl.isList (by omega) (by rw[Oh] <;> omega) (by omega) (by rw[hj];simpa using ew) ⟨rfl,fin⟩) hs
def Jv:C2 X (J8 X.K):=by
 intro value slice pins s σ H x y v u Q I rx ry h hs
 obtain⟨p,xs,i,z,rfl,rfl,hq,he,q⟩:=h
 cases rx
 obtain⟨t,rfl⟩:=ry
 obtain⟨its,r,pl,hz⟩:=I.tuple hq
 obtain⟨j,h1,h2,h3,h4,h5⟩:=uE he
 obtain⟨w,ew,rw'⟩:=r.get h2
 have hl:=r.length
 have hn:=ot
 have fin:EP X pins σ Q w s:=⟨z,H,I,rw',q⟩
 exact subscriptTail_builtinR (x:=w) pl.typeIs slot_tuple_getitem.lookup
  (getItem_tuple (j:=j) (Q:=λr s'=>r=w/\EP X pins σ Q r s') pl (by omega) (by omega) (by rw[Oh,<-hl];exact h1) (by simpa using ew) ⟨rfl,fin⟩) hs
def JJ:C2 X KN:=by
 intro value slice pins s σ H x y v u Q I rx ry h hs
 obtain⟨z,i,c,rfl,rfl,hz,he,q⟩:=h
 obtain⟨t,rfl⟩:=rx
 obtain⟨t',rfl⟩:=ry
 obtain⟨j,h1,h2,h3,h4,h5⟩:=uE he
 have hl:z.cps.toList.length=z.length:=by simp[Str.length]
 rw[hl] at h1 h4 h5
 have hn:=ot
 exact tail_any (typeIs_str s z t) slot_str_getitem.lookup (getItem_str (c:=c) (by
  have e1:decide (i < -(2 ^ 63:Int))=false:=Oe (by omega)
  have e2:decide (i>=2 ^ 63)=false:=Oe (by omega)
  rw[e1,e2,Bool.or_false]) (by rw[h1];simpa using h2) ⟨.str ⟨#[c]⟩,H,I.tok _,⟨_,rfl⟩,q⟩) hs
def Nx (K:Frag):R2:=λx y H Q=>JC K x y H Q\/J8 K x y H Q\/KN x y H Q
def bg:C2 X (Nx X.K):=hW.or (Jv.or JJ)
def xG (its:List Value)(n j:Nat)(u:Value):Obj.mapSeq (·.setIfInBounds j u) {cls:=.type "list",data:=.seq its.toArray n}={cls:=.type "list",data:=.seq (its.set j u).toArray n}:=by
 simp[Obj.mapSeq]
def Inv.lst {pins:List (Addr×Obj)}{σ:St}{H:Hp}{s:Shared}{p:Addr}{xs:List V}(I:Inv X pins σ H s)(h:H p=some (.lst xs)) :
  ∃(its:List Value) (n:Nat),Vals xs its/\s.heap.get? p=some {cls:=.type "list",data:=.seq its.toArray n}/\xs.length<=sizeLine:=by
 obtain⟨z,its,n,r,e⟩:=I.hok p _ h
 exact⟨its,n,r,e,z⟩
def Inv.lstUpd {pins:List (Addr×Obj)}{σ:St}{H:Hp}{s:Shared}{p:Addr}{xs ys:List V}{its its':List Value}{n n':Nat}{f:Obj->Obj}(I:Inv X pins σ H s)(h:H p=some (.lst xs))
  (ho:s.heap.get? p=some {cls:=.type "list",data:=.seq its.toArray n}) (hf:f {cls:=.type "list",data:=.seq its.toArray n}={cls:=.type "list",data:=.seq its'.toArray n'}) (r:Vals ys its') (hz:ys.length<=sizeLine) (t:Nat) :
  Inv X pins σ (upd H p (.lst ys)) {s with heap:=s.heap.update p f,toks:=t}:=by
 have e:(s.heap.update p f).get? p=some {cls:=.type "list",data:=.seq its'.toArray n'}:=by
  rw[OT f ho (by rw[hf] <;> rfl),hf]
 refine I.write (x:=p) (e:=p) (by rw[h];trivial) (.inl rfl) (λb u hb q=>(Pe _ _ (Ne.symm hb)).trans q) ⟨_,e⟩ ?_
 exact⟨hz,its',n',r,e⟩
def KL:V->V->V->Hp->(Hp->Prop)->Prop:=λo i v H Q=>∃p xs k j,o=.ref p/\i=.int k/\H p=some (.lst xs)/\t6 xs.length k=some j/\Q (upd H p (.lst (xs.set j v)))
def set_list:uk X KL:=by
 intro pins s σ H o i v ov iv u Q I ro ri rv h
 obtain⟨p,xs,k,j,rfl,rfl,hp,hj,q⟩:=h
 cases ro
 obtain⟨t,rfl⟩:=ri
 obtain⟨its,n,r,ho,hz⟩:=I.lst hp
 obtain⟨h1,h2,h3,h4⟩:=zl hj
 have hl:=r.length
 have hn:=ot
 have I':Inv X pins σ (upd H p (.lst (xs.set j v))) {s with heap:=s.heap.update p (Obj.mapSeq (·.setIfInBounds j u))}:=
  I.lstUpd hp ho (xG its n j u) (r.set rv j) (by rw[Qm];exact hz) s.toks
 by_cases h0:0<=k
 ·have hk:k.toNat=j:=by
   rw[seqIndex_of h0 h4] at h1
   exact Option.some.inj h1
  exact PySem.W.ki_setAt ho h0 (by omega) (by rw[Oh,<-hl];exact h4) (by rw[hk];exact⟨_,I',q⟩)
 ·have hk:(k + (its.toArray.size:Int)).toNat=j:=by
   rw[seqIndex_neg (by omega) h3] at h1
   rw[Oh,<-hl]
   exact Option.some.inj h1
  exact PySem.W.ki_setBack ho (by omega) (by rw[Oh,<-hl];exact h3) (by omega) (by rw[hk];exact⟨_,I',q⟩)
def uw (lo hi:Option Int)(n:Nat):(sliceBounds lo hi none n).1=((HT.sO n 0 lo:Nat):Int)/\(sliceBounds lo hi none n).2.1=((HT.sO n n hi:Nat):Int)/\(sliceBounds lo hi none n).2.2=1:=by
 refine⟨?_,?_,rfl⟩
 ·cases lo with
  |none=>simp[sliceBounds,HT.sO]
  |some i=>
   simp only[sliceBounds,HT.sO,Option.getD_none,show (1:Int) > 0 by decide,O7]
   by_cases h:i < 0
   ·simp only[h,O7] <;> omega
   ·simp only[h,OR] <;> omega
 ·cases hi with
  |none=>simp[sliceBounds,HT.sO]
  |some i=>
   simp only[sliceBounds,HT.sO,Option.getD_none,show (1:Int) > 0 by decide,O7]
   by_cases h:i < 0
   ·simp only[h,O7] <;> omega
   ·simp only[h,OR] <;> omega
def rH (its:List Value)(lo hi:Option Int):slicePick its.toArray lo hi none=((its.drop (HT.sO its.length 0 lo)).take (HT.sO its.length its.length hi - HT.sO its.length 0 lo)).toArray:=by
 obtain⟨h1,h2,h3⟩:=uw lo hi its.toArray.size
 unfold slicePick
 rw[h1,h2,h3]
 simp only[sliceRange_one,pick_run,Oh] <;> rfl
def Mv (K:Frag):V->Option Int->Option Int->Hp->VK->Prop:=λx lo hi H Q=>∃a xs,x=.ref a/\gf K H a xs/\∀p,H p=none->Q (.ref p) (upd H p (.lst (yu xs lo hi)))
def FY:NH X (Mv X.K):=by
 intro pins s σ H x v vl vu lo hi sl Q I rx hs pl pu h
 obtain⟨a,xs,rfl,hx,q⟩:=h
 cases rx
 obtain⟨its,r,ht,hz⟩:=I.list hx
 have hlen:=r.length
 refine⟨"list",_,slot_list_getitem.lookup,ht.isList.typeIs,?_⟩
 refine wpAny_getItem_list_slice ht.isList hs pl pu .none (by simp) ?_ (by rw[Oh] <;> omega)
 rw[rH,<-hlen]
 refine⟨.ref s.heap.objs.size,_,I.laid (t':=s.toks) (o:=.lst (yu xs lo hi)) (λb ob q=>NY _ q) (N4 _) ?_,rfl,q _ (I.hok.fresh (N4 _))⟩
 exact⟨Pl (vv xs lo hi) hz,_,0,(r.drop (HT.sO xs.length 0 lo)).take (HT.sO xs.length xs.length hi - HT.sO xs.length 0 lo),Od _ rfl⟩
def uK:cI X (.type "list") (λxs H Q=>∃p ys,xs= [.ref p]/\(gf X.K H p ys\/fO X.K H p ys)/\∀l,H l=none->Q (.ref l) (upd H l (.lst ys))):=by
 intro pins s σ H xs us Q I r h
 obtain⟨p,ys,rfl,hq,q⟩:=h
 obtain⟨u,rfl,rx⟩:=vals1 r
 cases rx
 have fin:∀(its:List Value),Vals ys its->ys.length<=sizeLine->∀(h':Heap) (c':Nat),(∀b o',s.heap.get? b=some o'->h'.get? b=some o')->
   h'.get? s.heap.objs.size=some {cls:=.type "list",dict:=none,data:=.seq its.toArray c',slots:=#[]}->EP X pins σ Q (.ref s.heap.objs.size) {s with heap:=h'}:=λits r' hz h' c' kp e=>
  ⟨.ref s.heap.objs.size,_,I.laid (t':=s.toks) kp (N4 _) (show cx X.prog X.w _ h' _ (.lst ys) from⟨hz,its,c',r',e⟩),rfl,q _ (I.hok.fresh (N4 _))⟩
 rcases hq with hq |hq
 ·obtain⟨its,r',pl,hz⟩:=I.list hq
  have hlen:=r'.length
  obtain⟨o,ho,hc,n,hd⟩:=pl.isList
  exact call_list_seq p (.inl rfl) ho hc hd (λh' c' kp e=>fin its r' hz h' c' kp e) (by simp only[Oh] <;> omega)
 ·obtain⟨its,r',pl,hz⟩:=I.tuple hq
  have hlen:=r'.length
  obtain⟨o,ho,hc,n,hd⟩:=pl
  exact call_list_seq p (.inr rfl) ho hc hd (λh' c' kp e=>fin its r' hz h' c' kp e) (by simp only[Oh] <;> omega)
def eG:cI X (.type "tuple") (λxs H Q=>∃p ys,xs= [.ref p]/\((gf X.K H p ys/\∀l,H l=none->Q (.ref l) (upd H l (.tup ys)))\/(fO X.K H p ys/\Q (.ref p) H))):=by
 intro pins s σ H xs us Q I r h
 obtain⟨p,ys,rfl,h⟩:=h
 obtain⟨u,rfl,rx⟩:=vals1 r
 cases rx
 rcases h with⟨hq,q⟩ | ⟨hq,q⟩
 ·obtain⟨its,r',pl,hz⟩:=I.list hq
  have hlen:=r'.length
  refine call_tuple_list pl.isList (λh' kp=>?_) (by simp only[Oh] <;> omega)
  have I1:Inv X pins σ H {s with heap:=h'}:=I.kept (t':=s.toks) kp
  have I2:Inv X pins σ (upd H h'.objs.size (.tup ys)) {s with heap:=h'.push {cls:=.type "tuple",data:=.seq its.toArray}}:=
   I1.laid (t':=s.toks) (λb o e=>NY _ e) (N4 _) (show cx X.prog X.w _ _ _ (.tup ys) from⟨hz,its,r',r6.new _ _⟩)
  exact⟨.ref h'.objs.size,_,I2,rfl,q _ (I1.hok.fresh (N4 _))⟩
 ·obtain⟨its,r',pl,hz⟩:=I.tuple hq
  exact call_tuple_same pl ⟨.ref p,H,I,rfl,q⟩
def Nw (K:Frag)(T:String)(x:V)(H:Hp):Prop:=match x with
 | .str _=>T="str"
 | .int _=>T="int"
 | .ref p=>(T="list"/\∃xs,gf K H p xs)\/(T="tuple"/\∃o,K.lookup p=some o/\o.cls=.type "tuple"/\o.dict=none)\/
   (T="dict"/\((∃kvs,H p=some (.dK kvs))\/∃kvs,H p=some (.dT kvs)))\/(T="set"/\∃S n,H p=some (.set S n))
 |_=>False
theorem IV {pins:List (Addr×Obj)}{σ:St}{H:Hp}{s:Shared}{T:String}{x:V}{v:Value}(I:Inv X pins σ H s)(r:RelV x v)(ty:Nw X.K T x H) :
  s.TypeIs v T/\∀a,v=.ref a->∃ob,s.heap.get? a=some ob/\ob.dict=none:=by
 cases x with
 |str z=>
  obtain⟨t,rfl⟩:=r
  cases (show T="str" from ty)
  exact⟨typeIs_str s z t,λ_ e=>nomatch e⟩
 |int i=>
  obtain⟨t,rfl⟩:=r
  cases (show T="int" from ty)
  exact⟨typeIs_int s i t,λ_ e=>nomatch e⟩
 |ref p=>
  cases r
  rcases ty with⟨rfl,xs,hq⟩ | ⟨rfl,o,hk,hc,hd⟩ | ⟨rfl,hk⟩ | ⟨rfl,S,n,hk⟩
  ·obtain⟨its,_,pl,_⟩:=I.list hq
   refine⟨pl.isList.typeIs,λa e=>?_⟩
   cases e
   obtain⟨o,n,e,c,hd,_⟩:=pl
   exact⟨o,e,hd⟩
  ·refine⟨⟨o,I.kIn p o hk,hc⟩,λa e=>?_⟩
   cases e
   exact⟨o,I.kIn _ o hk,hd⟩
  ·have z:∃o,s.heap.get? p=some o/\o.ExactDict:=by
    rcases hk with⟨kvs,hk⟩ | ⟨kvs,hk⟩
    ·obtain⟨_,_,_,_,o,_,_,e,ex,_⟩:=I.hok p _ hk
     exact⟨o,e,ex⟩
    ·obtain⟨_,_,_,_,o,_,_,e,ex,_⟩:=I.hok p _ hk
     exact⟨o,e,ex⟩
   obtain⟨o,e,ex⟩:=z
   refine⟨⟨o,e,ex.1⟩,λa e2=>?_⟩
   cases e2
   exact⟨o,e,ex.2.1⟩
  ·obtain⟨o,_,_,_,e,ex,_⟩:=I.hok p _ hk
   refine⟨⟨o,e,ex.1⟩,λa e2=>?_⟩
   cases e2
   exact⟨o,e,ex.2.1⟩
 |_=>exact False.elim ty
def NP (K:Frag)(T:String)(r:V->List V->Hp->VK->Prop)(to:TE)(t:TA):TE:=λσ H Q=>to σ H λx H1=>Nw K T x H1/\t σ H1 λxs H2=>r x xs H2 Q
variable {o e:Expr}{es:List Expr}{to:TE}{t:TA}{name:Str}{apos cpos:Pos}{T id:String}{r:V->List V->Hp->VK->Prop}
def zx (pa:PlainAttrs T)(slot:Slot T name id)(hty:typeOf (.builtin id)=pure (.type "method_descriptor"))(hm:NU X id r)(ho:PE X o to)(ha:PA X (e :: es) t)
  (hbase:attributeBase o name X.env (eval o X.env)=eval o X.env:=by rfl)
  (hfew:((backTo cpos (starEach (e :: es) X.env)).all (λx=> !x.1) && (backToKw cpos (keywordEach [] X.env)).all (λx=>x.1.isSome)
   && decide ((e :: es).length + ([]:List Keyword).length + (if ([]:List Keyword).isEmpty then 0 else 1) < 30))=true:=by rfl)
  (hline:(apos.endLine == cpos.line)=true:=by rfl) (hs:starEach (e :: es) X.env=(false,eval e X.env) :: starEach es X.env:=by rfl) (hplain:(backTo cpos (starEach es X.env)).any (·.1)=false:=by rfl) :
  PE X (.Call (.Attribute o name apos) (e :: es) [] cpos) (NP X.K T r to t):=by
 intro pins s σ H Q I h
 refine wpAny_Call_method_late hbase hfew hline rfl (cR (ho pins s σ H _ I h) λv s1 ⟨x,H1,I1,r1,ty,q1⟩=>?_)
 obtain⟨h1,h2⟩:=IV I1 r1 ty
 refine⟨T,id,pa,slot,hty,h1,h2,?_⟩
 have hA:=ha cpos pins s1 σ H1 _ I1 q1
 rw[hs] at hA ⊢
 refine Calls.callWith_builtin (by show (false || (backTo cpos (starEach es X.env)).any (·.1))=false;rw[hplain] <;> rfl) (Calls.evalArgs_plain ?_)
 exact cR hA λus s2 ⟨vs,H2,I2,r2,q2⟩=>hm pins s2 σ H2 x vs v us Q I2 r1 r2 q2
end
def Kv (X:Cx)(id:String)(r:V->List V->Hp->VK->Prop):Prop:=
 ∀(pins:List (Addr×Obj)) (s:Shared) (σ:St) (H:Hp) (x:V) (xs:List V) (v:Value) (us:List Value) (Q:VK),Inv X pins σ H s->RelV x v->Vals xs us->r x xs H Q->
  wpAny (model X.prog X.w) X.A (call (.builtin id) (v :: us)) (EP X pins σ Q) X.xe s
theorem Vals.one:∀{x:V} {us:List Value},Vals [x] us->∃u,us= [u]/\RelV x u
 |_,_,.cons r .nil=>⟨_,rfl,r⟩
theorem Vals.eraseIdx:∀{xs:List V} {us:List Value} (i:Nat),Vals xs us->Vals (xs.eraseIdx i) (us.eraseIdx i)
 |_,_,_,.nil=>.nil
 |_,_,0,.cons _ t=>t
 |_,_,i + 1,.cons r t=>.cons r (Vals.eraseIdx i t)
theorem Vals.rep {xs:List V}{us:List Value}(h:Vals xs us):∀k:Nat,Vals (List.replicate k xs).flatten (List.replicate k us).flatten
 | 0=>.nil
 |k + 1=>by
  rw[OV,OV,Pg,Pg]
  exact Vals.append h (Vals.rep h k)
theorem tG {α:Type}:∀(l:List α) (i:Nat),(l.eraseIdx i).length<=l.length
 | [],_=>N4 _
 |_ :: _,0=>Qh _
 |_ :: r,i + 1=>Nat.succ_le_succ (tG r i)
theorem foldl_rep (its:List Value):∀(k:Nat) (acc:List Value),
  List.foldl (λx1 x2=>x1 ++ x2) acc.toArray (List.replicate k its.toArray)=(acc ++ (List.replicate k its).flatten).toArray
 | 0,acc=>by simp
 |k + 1,acc=>by
  have e:acc.toArray ++ its.toArray=(acc ++ its).toArray:=by simp
  have e2:(acc ++ its) ++ (List.replicate k its).flatten=acc ++ (List.replicate (k + 1) its).flatten:=by
   rw[OV,Pg,Pz]
  rw[<-e2,<-foldl_rep its k (acc ++ its),<-e,OV,QS]
section
variable {X:Cx}{pins:List (Addr×Obj)}{σ:St}{H:Hp}{s:Shared}{l b:Addr}{xs ys zs:List V}
def Inv.lset {its its':List Value}{n:Nat}{f:Array Value->Array Value}{t':Nat}(I:Inv X pins σ H s)(hH:H l=some (.lst xs))
  (e:s.heap.get? l=some {cls:=.type "list",data:=.seq its.toArray n}) (hf:f its.toArray=its'.toArray) (hv:Vals ys its') (hz:ys.length<=sizeLine) :
  Inv X pins σ (upd H l (.lst ys)) {s with heap:=s.heap.update l (Obj.mapSeq f),toks:=t'}:=by
 have q:=PySem.IsL.update e f
 rw[hf] at q
 refine I.write (x:=l) (e:=l) (by rw[hH];exact trivial) (.inl rfl) (λb' u hb hu=>(Pe s.heap (Obj.mapSeq f) (Ne.symm hb)).trans hu) ⟨_,q⟩ ?_
 exact⟨hz,its',_,hv,q⟩
def Inv.lnew {its:List Value}{t':Nat}(I:Inv X pins σ H s)(hv:Vals ys its)(hz:ys.length<=sizeLine) :
  Inv X pins σ (upd H s.heap.objs.size (.lst ys)) {s with heap:=s.heap.push {cls:=.type "list",data:=.seq its.toArray},toks:=t'}:=
 I.laid (λ_ _ q=>NY _ q) (N4 _) ⟨hz,its,0,hv,Od _ rfl⟩
def Inv.fresh (I:Inv X pins σ H s):H s.heap.objs.size=none:=I.hok.fresh (N4 _)
def Inv.lstM (I:Inv X pins σ H s)(hH:H l=some (.lst xs)):xs.length<=sizeLine/\∃(its:List Value) (n:Nat),Vals xs its/\xs.length=its.length/\s.heap.get? l=some {cls:=.type "list",data:=.seq its.toArray n}:=by
 obtain⟨z,its,n,r,e⟩:=I.hok l _ hH
 exact⟨z,its,n,r,r.length,e⟩
def vH {n:Nat}(h:n<=sizeLine):Builtin.List.listTooLong n=false:=by
 unfold Builtin.List.listTooLong
 exact Oe (by omega)
end
section
variable {X:Cx}
def GI:V->List V->Hp->VK->Prop:=λx vs H Q=>∃l xs y,x=.ref l/\vs= [y]/\H l=some (.lst xs)/\xs.length < sizeLine/\Q .non (upd H l (.lst (xs ++ [y])))
def nM:Kv X "list.append" GI:=by
 intro pins s σ H x vs v us Q I rx rv h
 obtain⟨l,xs,y,rfl,rfl,hH,hz,q⟩:=h
 cases rx
 obtain⟨u,rfl,ru⟩:=rv.one
 obtain⟨z,its,n,r,hl,e⟩:=I.lstM hH
 refine call_meets F.slot_list_append ⟨_,e,rfl⟩ F.entry_list_append (F.args_list_append_2 _ _) (PySem.list_append l its.toArray n u (by rw[Oh];omega)) ⟨e,?_⟩
 refine⟨.non,_,I.lset (its':=its ++ [u]) hH e (by simp) (r.append (.cons ru .nil)) ?_,rfl,q⟩
 rw[Ow,List.length_singleton]
 omega
def IJ:V->List V->Hp->VK->Prop:=λx vs H Q=>∃l xs i k y,x=.ref l/\vs= [.int i]/\H l=some (.lst xs)/\ -(2 ^ 63)<=i/\i < 2 ^ 63/\seqIndex? i xs.length=some k/\xs[k]? =some y/\Q y (upd H l (.lst (xs.eraseIdx k)))
def DQ:Kv X "list.pop" IJ:=by
 intro pins s σ H x vs v us Q I rx rv h
 obtain⟨l,xs,i,k,y,rfl,rfl,hH,h1,h2,hk,hy,q⟩:=h
 cases rx
 obtain⟨u,rfl,ru⟩:=rv.one
 obtain⟨t,rfl⟩:=ru
 obtain⟨z,its,n,r,hl,e⟩:=I.lstM hH
 obtain⟨w,hw,rw'⟩:=r.get hy
 refine call_meets F.slot_list_pop ⟨_,e,rfl⟩ F.entry_list_pop (F.args_list_pop_2 _ _)
  (MeetsSeq.list_pop_at l its.toArray n i t k w (fitsIndex_both h1 h2) (by rw[Oh,<-hl];exact hk) (by rw[<-P0];exact hw) (by rw[Oh];omega)) ⟨e,?_⟩
 refine⟨y,_,I.lset (its':=its.eraseIdx k) hH e ?_ (r.eraseIdx k) ?_,rw',q⟩
 ·show its.toArray.eraseIdxIfInBounds k=(its.eraseIdx k).toArray
  rw[List.eraseIdxIfInBounds_toArray]
 ·have:=tG xs k
  omega
def Na:R2:=λx y H Q=>∃l k xs,x=.ref l/\y=.int k/\H l=some (.lst xs)/\ -(2 ^ 63)<=k/\k < 2 ^ 63/\xs.length * k.toNat<=sizeLine/\
 ∀p,H p=none->Q (.ref p) (upd H p (.lst (List.replicate k.toNat xs).flatten))
theorem len_rep {α:Type}(xs:List α)(k:Nat):(List.replicate k xs).flatten.length=k * xs.length:=by
 induction k with
 |zero=>simp
 |succ k ih=>rw[OV,Pg,Ow,ih,Nat.succ_mul,Nat.add_comm]
def Dm:mM X (binaryOp .Mult) Na:=by
 intro pins s σ H x y v u Q I rx ry h
 obtain⟨l,k,xs,rfl,rfl,hH,h1,h2,hz,q⟩:=h
 cases rx
 obtain⟨t,rfl⟩:=ry
 obtain⟨z,its,n,r,hl,e⟩:=I.lstM hH
 have hlen:its.toArray.size * k.toNat<=sizeLine:=by rw[Oh,<-hl];exact hz
 have hcap:¬its.toArray.size * k.toNat > (2 ^ 63 - 1) / 8:=by
  have:(sizeLine:Nat)<=(2 ^ 63 - 1) / 8:=by decide
  omega
 have hfit:¬(!Builtin.List.listFitsIndex k)=true:=by
  rw[fitsIndex_both h1 h2]
  exact OG
 have hlong:¬Builtin.List.listTooLong (its.toArray.size * k.toNat)=true:=by
  rw[vH hlen]
  exact OG
 have hnew:List.foldl (λx1 x2=>x1 ++ x2) #[] (List.replicate (if its.toArray.isEmpty=true then 0 else k.toNat) its.toArray)=(List.replicate k.toNat its).flatten.toArray:=by
  have f0:∀m:Nat,List.foldl (λx1 x2=>x1 ++ x2) #[] (List.replicate m its.toArray)=(List.replicate m its).flatten.toArray:=λm=>by
   have:=foldl_rep its m []
   rw[List.nil_append] at this
   exact this
  rw[f0]
  cases its with
  |nil=>simp
  |cons a r'=>rw[N8 (by simp)]
 refine wpAny_binaryOp_repeat_ref (T:="list") (U:="int") (by decide) ⟨_,e,rfl⟩ (λs'=>typeIs_int s' k t) noFill_list_mul F.fills_int_mul F.slot_int_rmul repeat_list F.slot_int_index.lookup
  (call_meets F.slot_int_rmul (typeIs_int s k t) F.entry_int_rmul (F.args_int_rmul_2 _ _) (int___rmul___int_list k t l its.toArray n)
   ⟨e,rfl,⟨_,e,rfl⟩,call_meets F.slot_list_mul ⟨_,e,rfl⟩ F.entry_list_mul (F.args_list_mul_2 _ _) (AutoListH.list___mul___list_int_3 l its.toArray n k t hfit hcap hlong) ⟨e,?_⟩⟩)
 rw[hnew]
 exact⟨.ref _,_,I.lnew (t':=s.toks) (r.rep k.toNat) (by rw[len_rep,Nat.mul_comm];exact hz),rfl,q _ I.fresh⟩
end
end L2
namespace Att
open PySem PySem.W PySem.Calls PyProof.Rows
theorem o8 {P:Params}{h:Heap}:∀(ns:List Int) (vs:List Value),WellAll P h vs (ns.map WData.int)->IntsAre vs ns:=by
 intro ns
 induction ns with
 |nil=>
  intro vs w
  rw[List.map_nil] at w
  cases w
  exact .nil
 |cons n ns ih=>
  intro vs w
  rw[OL] at w
  cases w with
  |cons a b=>
   cases a
   exact .cons _ _ (ih _ b)
theorem AU {l:OpenLaw}{n:Nat}(hn:l.most=some n){P:Params}{h:Heap}{args:List WData}{vals:List Value}
  (hpre:l.row.toRowW.claim.pre args=true) (hwl:WellAll P h vals args) :
  ∃a vs ns,vals= [Value.ref a]/\args= [WData.list (ns.map WData.int)]/\h.get? a=some {cls:=.type "list",data:=.seq vs.toArray}/\IntsAre vs ns/\ns.length<=n:=by
 have hsh:WShape.hasAll [] args [.list .int]=true:=(pre_splitW hpre).1
 have hc:l.pre.holds [] {args:=args}=true:=(pre_splitW hpre).2
 obtain⟨d,r,rfl,h1,h2⟩:=hasAllW_cons hsh
 obtain rfl:=hasAllW_nil h2
 obtain⟨xs,rfl,h3⟩:=hasW_list h1
 obtain⟨ns,rfl⟩:=items_int h3
 have hlen:ns.length<=n:=by
  unfold OpenLaw.pre at hc
  have h4:(WTm.not (.lt (.lit (.int (n:Int))) (.len (.arg 0)))).holds [] {args:=[.list (ns.map .int)]}=true:=by
   have h4:=(holds_andW hc).1
   rw[hn] at h4
   exact h4
  have h5:=condW_of h4 (w_not (w_lt w_lit (w_len_list (w_arg rfl))))
  rw[NZ] at h5
  refine Nat.le_of_not_lt λq=>?_
  have q':(n:Int) < ((ns.length:Nat):Int):=by omega
  first
   | (rw[N3 q'] at h5;exact absurd h5 (by decide))
   | (simp at h5;omega)
 cases hwl with
 |cons w1 w2=>
  cases w2
  cases w1 with
  |list ho hall=>exact⟨_,_,ns,rfl,rfl,ho,o8 ns _ hall,hlen⟩
def A6 (l:OpenLaw)(args:List WData):l.row.toRowW.claim.post args (.bool true) args=true:=
 postW_of (r:=l.row.toRowW) (X:=(true == true))
  (show WShape.has [] (.bool true) .bool=true by first |rfl |decide |simp[WShape.has,WShape.arms,WShape.armsAll])
  (show (WTm.eq .res (.lit (.bool true))).value [] {args:=args,res:=some (.bool true),after:=args}=some (.bool (true == true)) from w_eq_bool (w_res rfl) w_lit) rfl
def vd {l:OpenLaw}{n:Nat}{q:Program}{loose:List Str}{XP:(Str->Option Value)->Heap->Prop}{YP:World->Heap->Prop}{d:DefRec}
  (hn:l.most=some n) (hdf:d.params.defaults= [])
  (call:∀(w:World) (s₀ s₁:Shared) (mg mb:Str->Option Value) (fa:Addr) (o:Obj) (pm cd doc:Value) (a:Addr) (vs:List Value) (ns:List Int),
   Ground q loose [] XP w s₀ mg mb s₁.heap->YP w s₁.heap->
   s₁.heap.get? fa=some o->o.data=.func (docDef d.name d.params d.body d.scope pm cd doc)->s₁.heap.CodeRec cd d.name->mg d.name=some (.ref fa)->
   s₁.heap.get? a=some {cls:=.type "list",data:=.seq vs.toArray}->IntsAre vs ns->ns.length<=n->s₁.gens=#[]->
   codeAny (model l.prog w) callerA (.call (.ref fa) ⟨[.ref a],[]⟩) (λr s'=>r=.ok (.ret (.bool true))/\OldK s₁.heap s'.heap/\s'.os=s₁.os/\AllBare s'.gens) s₁) :
  WalkO q loose XP YP l.row.toRowW d [] (λf vs=>PySem.call f vs):=by
 intro w s₀ s₁ mg mb G Y fa o pm cd doc dV kV ho hd hcd hD hmg hg args vals as hpre hlay hrd hwl hlo
 obtain rfl:dV=.none:=Dflts.none hD hdf
 obtain rfl:kV=.none:=Dflts.noKw hD
 obtain⟨a,vs,ns,rfl,rfl,hobj,hints,hlen⟩:=AU hn hpre hwl
 refine enter_call (P6 (call w s₀ s₁ mg mb fa o pm cd doc a vs ns G Y ho (fd_plain hd) hcd hmg hobj hints hlen hg) λr s' hq=>?_)
 obtain⟨rfl,h2,h3,h4⟩:=hq
 exact⟨.inl ⟨.bool true,.bool true,[],rfl,λ_=>rfl,.bool true,A6 l _,λ_=>⟨List.Pairwise.nil,λ_ hm=>(nomatch hm)⟩⟩,h2,h3,h4⟩
end Att
namespace L2
open PySem PySem.Spec PyProof.Rows
theorem sE:∀{vs:List Value} {ns:List Int},IntsAre vs ns->Vals (ns.map V.int) vs
 |_,_,.nil=>.nil
 |_,_,.cons n t h=>.cons ⟨t,rfl⟩ (sE h)
def JF (H:Hp):Prop:=∀b,H b=none\/∃o xs,H b=some (.bp o (.lst xs))
theorem Dw {P:Program}{w:World}{K:Frag}{mg mb:Str->Option Value}{CX:Bk}{k:Nat}{fa a:Addr}{fd:FuncData}{x:Str}{sp:Sp}{s₁:Shared}{vs:List Value}{ns:List Int}
  (KX:K.In s₁.heap) (hns:s₁.heap.Ns mainGlobals mg) (hb:s₁.heap.Ns builtinsNs mb) (hbb:∀x:Str,x≠"__name__"->mb x=bootBuiltins x) (hlim:s₁.heap.NoLimit) (hsys:∃mm,s₁.heap.Ns sysModules mm) (hg:s₁.gens=#[])
  (ha:s₁.heap.get? a=some {cls:=.type "list",data:=.seq vs.toArray}) (hi:IntsAre vs ns) (hl:ns.length<=sizeLine) (hr:fN k callerA)
  (F:∀base:Heap,K.In base->base.Ns mainGlobals mg->fV P w K mg base CX k fa fd [x] sp) (hbind:∀(s:Shared) (u:Value),BindsTo s fd ⟨[u],[]⟩ [(x,u)])
  (hsp:∀H:Hp,JF H->gf K H a (ns.map V.int)->sp [.ref a] H (λv _=>v=.bl true) λ_ _ _=>False)
  (hCX:∀H e s',CX [] H s₁ (λ_ _ _=>False) e s'->False) :
  codeAny (model P w) callerA (.call (.ref fa) ⟨[.ref a],[]⟩) (λr s'=>r=.ok (.ret (.bool true))/\OldK s₁.heap s'.heap/\s'.os=s₁.os/\AllBare s'.gens) s₁:=by
 have rv:=sE hi
 have lenV:=hi.length
 have core:∀H:Hp,JF H->gf K H a (ns.map V.int)->nD P w H s₁.heap->(∀b,H b≠none->b=a)->(H a≠none->K.lookup a=none)->
   codeAny (model P w) callerA (.call (.ref fa) ⟨[.ref a],[]⟩) (λr s'=>r=.ok (.ret (.bool true))/\OldK s₁.heap s'.heap/\s'.os=s₁.os/\AllBare s'.gens) s₁:=by
  intro H hO hS hok hA hK
  have base_of:∀{b:Addr} {o:Obj},s₁.heap.get? b=some o->H b=none->(uM s₁.heap H).get? b=some o:=λe n=>CT e n
  have noA:∀{b:Addr} {o:Obj} {es:Array DictEntry} {ep:Nat},s₁.heap.get? b=some o->o.data=.dict es ep->H b=none:=λ{b o es ep} e d=>by
   cases q:H b with
   |none=>rfl
   |some u=>
    have e':b=a:=hA b (by rw[q];simp)
    subst e'
    rw[ha] at e;cases e
    have d':Data.seq vs.toArray _=Data.dict es ep:=d
    cases d'
  have nsK:∀{b:Addr} {m:Str->Option Value},s₁.heap.Ns b m->(uM s₁.heap H).Ns b m:=λ{b m} ⟨o,es,ep,e,d,r⟩=>⟨o,es,ep,base_of e (noA e d),d,r⟩
  have hKb:K.In (uM s₁.heap H):=λb o e=>base_of (KX b o e) (by
   cases q:H b with
   |none=>rfl
   |some u=>
    have e':b=a:=hA b (by rw[q];simp)
    subst e'
    rw[hK (by rw[q];simp)] at e;cases e)
  have hM:Mod K mg (uM s₁.heap H):=⟨hKb,nsK hns,⟨mb,nsK hb,hbb⟩,let ⟨mc,h1,h2⟩:=hlim;⟨mc,nsK h1,h2⟩,let ⟨mm,h1⟩:=hsys;⟨mm,nsK h1⟩⟩
  have e0:E6 P w K mg (uM s₁.heap H) callerA [] s₁ H:=⟨rfl,hM,λb o e=>Fv e,Nat.le_of_eq (AW _ _),trivial,λb hb=>absurd (show b∈([]:List Addr) from hb) (by simp),hok,.of_eq hg⟩
  refine P6 ((F _ hKb (nsK hns)).run callerA [] s₁ H ⟨[.ref a],[]⟩ [.ref a] [.ref a] _ _ hr e0 (hbind s₁ (.ref a)) (.cons rfl .nil) (hsp H hO hS)) λr s' h=>?_
  cases r with
  |error e=>exact (hCX H e s' h).elim
  |ok fl=>
   cases fl with
   |next=>exact False.elim h
   |brk=>exact False.elim h
   |cont=>exact False.elim h
   |ret u=>
    obtain⟨v,H',os,bare,un,hok',r',q⟩:=h
    have q':v=.bl true:=q
    subst q'
    obtain rfl:u=Value.bool true:=r'
    refine⟨rfl,OldK.of_keep λb o e=>?_,os,bare⟩
    cases q:H b with
    |none=>exact un.keep b o e q (by intro z;exact absurd (show b∈([]:List Addr) from z) (by simp)) (by simp)
    |some u=>
     rcases hO b with z | ⟨ob,xs,z⟩
     ·rw[q] at z;cases z
     ·have z2:=un.frzs b ob _ z
      obtain⟨e1,_⟩:=hok b _ z
      obtain⟨e2,_⟩:=hok' b _ z2
      rw[e] at e1;cases e1
      exact e2
 cases hk:K.lookup a with
 |some o=>
  have e:=KX a o hk
  rw[ha] at e
  cases e
  refine core (λ_=>none) (λ_=>.inl rfl) (.inr ⟨_,vs.toArray,_,hk,rfl,rfl,rfl,by rw[Oh,lenV];exact hl,by simpa using rv⟩) (λb u z=>by have z':(none:Option HO)=some u:=z;cases z') (λb z=>absurd rfl z) λz=>absurd rfl z
 |none=>
  refine core (λb=>if b=a then some (.bp {cls:=.type "list",data:=.seq vs.toArray} (.lst (ns.map V.int))) else none) (λb=>?_) (.inl (.inr ⟨{cls:=.type "list",data:=.seq vs.toArray},N1 rfl⟩)) (λb u z=>?_) (λb z=>?_) λ_=>hk
  ·by_cases hb:b=a
   ·exact .inr ⟨_,_,N1 hb⟩
   ·exact .inl (N8 hb)
  ·by_cases hb:b=a
   ·have z':=(N1 hb).symm.trans z
    cases z'
    subst hb
    exact⟨ha,by rw[NZ];exact hl,vs,_,rv,ha⟩
   ·have z':=(N8 hb).symm.trans z
    cases z'
  ·by_cases hb:b=a
   ·exact hb
   ·exact absurd (N8 hb) z
def E7 {l:PySem.W.OpenLaw}{n k:Nat}{q:Program}{loose:List Str}{XP:(Str->Option Value)->Heap->Prop}{YP:World->Heap->Prop}{d:DefRec}{K:Params->Frag}{CX:World->Bk}{sp:World->Sp}{x:Str}
  (hn:l.most=some n) (hn2:n<=sizeLine) (hdf:d.params.defaults= []) (hi:PyProof.Rows.importsNone q=true) (hr:fN k callerA)
  (hY:∀(w:World) (h:Heap),YP w h->(K w.params).In h)
  (F:∀(w:World) (mg:Str->Option Value) (fa:Addr) (h:Heap),(K w.params).In h->h.Ns mainGlobals mg->mg d.name=some (.ref fa)->
   ∃fd:FuncData,(∀(s:Shared) (u:Value),BindsTo s fd ⟨[u],[]⟩ [(x,u)])/\
    ∀base:Heap,(K w.params).In base->base.Ns mainGlobals mg->fV l.prog w (K w.params) mg base (CX w) k fa fd [x] (sp w))
  (hsp:∀(w:World) (H:Hp) (a:Addr) (ns:List Int),ns.length<=n->JF H->gf (K w.params) H a (ns.map V.int)->sp w [.ref a] H (λv _=>v=.bl true) λ_ _ _=>False)
  (hCX:∀(w:World) (H:Hp) (s:Shared) (e:Value) (s':Shared),CX w [] H s (λ_ _ _=>False) e s'->False) :
  PySem.W.WalkO q loose XP YP l.row.toRowW d [] (λf vs=>PySem.call f vs):=by
 refine Att.vd hn hdf λw s₀ s₁ mg mb fa o pm cd doc a vs ns G Y ho hd hcd hmg hobj hints hlen hg=>?_
 have KX:=hY w _ Y
 obtain⟨fd,hb,hF⟩:=F w mg fa _ KX G.T.g hmg
 exact Dw KX G.T.g G.T.b G.T.builtins G.T.nolimit (let ⟨mm,h1,_⟩:=(G.T.seer hi).mods;⟨mm,h1⟩) hg hobj hints (Pl hlen hn2) hr hF hb (λH hO hS=>hsp w H a ns hlen hO hS) λH e s'=>hCX w H s₁ e s'
def jj (s:Stmt):Arguments:=match s with
 | .FunctionDef _ a _ _ _ _ _ _ _ _=>a
 |_=>{posonlyargs:=[],args:=[],vararg:=none,kwonlyargs:=[],kw_defaults:=[],kwarg:=none,defaults:=[]}
def dg (s:Stmt):List Stmt:=match s with
 | .FunctionDef _ _ b _ _ _ _ _ _ _=>b
 |_=>[]
def ar (s:Stmt):Scope:=match s with
 | .FunctionDef _ _ _ _ _ _ sc _ _ _=>sc
 |_=>{kind:=.function,names:=[],isGenerator:=false,isCoroutine:=false}
abbrev Jm:Bk:=λ_ _ _ _ _ _=>False
abbrev E0:XK:=λ_ _ _=>False
def Lu {X:Cx}:Passes Jm X E0:=λ_ _ _ _ _ _ _ h=>h.elim
structure Es (K:Frag)(x qual:Str)(st:Stmt)(f:Addr)(fd:FuncData):Prop where
 ex:∃(oc:Value) (od:Option Addr) (kV doc pm:Value) (an:Option Addr) (cdv ct:Value) (osl:Array (Option Value)),
  fd=PySem.W.fnOf x qual (jj st) (dg st) (ar st) .none kV doc pm an cdv ct/\K.lookup f=some ⟨oc,od,.func fd,osl⟩/\PySem.W.codeIn K cdv qual=true
 kp:PySem.W.keepIn K (.ref f)=true
section
variable {P:Program}{w:World}{K:Frag}{mg:Str->Option Value}{base:Heap}
def Es.ok {x qual:Str}{st:Stmt}{f:Addr}{fd:FuncData}{N ps:List Str}{k:Nat}{sp:Sp}(F:Es K x qual st f fd)(S:aG N ps (ar st))(len:∀vs H Q E,sp vs H Q E->vs.length=ps.length)
  (hbody:∀(cdv:Value) (A:Around) (outer:List Env) (s:Shared) (H:Hp) (vs:List V) (Q:VK) (E:XK),fN k (A.deeper (envOfC qual (ar st) s.heap.objs.size f cdv))->sp vs H Q E->
   ∃t,sV (rP Jm P w K mg base N qual (ar st) f cdv A outer s H E).nox (dg st) t/\t {nx:=λ_ H'=>Q .non H',rt:=Q} (start N vs) H):fV P w K mg base Jm (k + 1) f fd ps sp:=by
 obtain⟨oc,od,kV,doc,pm,an,cdv,ct,osl,rfl,lk,hcd⟩:=F.ex
 refine GR lk hcd S len λA outer s H vs Q E hr hsp=>?_
 obtain⟨t,h,q⟩:=hbody cdv A outer s H vs Q E hr hsp
 exact⟨t,h.nox,q⟩
def Es.binds {x qual:Str}{st:Stmt}{f:Addr}{fd:FuncData}{ps:List Str}(F:Es K x qual st f fd)
  (h:∀(kV doc pm:Value) (an:Option Addr) (cdv ct:Value) (us:List Value),us.length=ps.length->bindArgs (PySem.W.fnOf x qual (jj st) (dg st) (ar st) .none kV doc pm an cdv ct) ⟨us,[]⟩=pure (ps.zip us)):Binds K fd ps []:=by
 obtain⟨oc,od,kV,doc,pm,an,cdv,ct,osl,rfl,lk,hcd⟩:=F.ex
 exact .all (h kV doc pm an cdv ct)
def yt {x qual:Str}{st:Stmt}{f:Addr}{oc:Value}{od an:Option Addr}{osl:Array (Option Value)}{kV doc pm cdv ct:Value}(l:K.lookup f=some ⟨oc,od,.func (PySem.W.fnOf x qual (jj st) (dg st) (ar st) .none kV doc pm an cdv ct),osl⟩)
  (c:PySem.W.codeIn K cdv qual=true) (k:PySem.W.keepIn K (.ref f)=true):Es K x qual st f (PySem.W.fnOf x qual (jj st) (dg st) (ar st) .none kV doc pm an cdv ct):=⟨⟨oc,od,kV,doc,pm,an,cdv,ct,osl,rfl,l,c⟩,k⟩
end
section
variable {X:Cx}
def pv (i:Nat){x:Str}{pos:Pos}(hN:X.N[i]? =some x:=by rfl)(hv:AL X.env.scope x:=by first |exact Or.inl rfl |exact Or.inr (Or.inl rfl) |exact Or.inr (Or.inr rfl))(hd:(x == ("__debug__":Str))=false:=by decide)
  (hcd:(x == ("__classdict__":Str))=false:=by decide):PE X (.Name x pos) (Fb i):=ju hN hv hd hcd
end
def wC {A B:Prop}(h:B):if false=true then A else B:=by
 rw[N8 OG]
 exact h
def wc {A B:Prop}(h:A):if true=true then A else B:=by
 rw[N1 rfl]
 exact h
def Nn (o:Obj):Prop:=∃vs q t,o.data=.fields vs/\vs[1]? =some (.str q t)
def Kt (H:Hp)(b:Addr):HO->Prop
 | .tbl ps=>∃more:Array Value,H b=some (.tbl (ps ++ more))/\∀c,Value.ref c∈more.toList->∃o,H c=some (.bp o (.own 0))/\Nn o
 |o=>H b=some o
theorem Kt.of {H:Hp}{b:Addr}{o:HO}(h:H b=some o):Kt H b o:=by
 cases o with
 |tbl ps=>exact⟨#[],by rw[h];simp,λc hc=>by simp at hc⟩
 |_=>exact h
def ay (H H':Hp):Prop:=∀b o,H b=some o->Kt H' b o
def ay.refl (H:Hp):ay H H:=λ_ _ h=>Kt.of h
theorem Kt.some {H:Hp}{b:Addr}{o:HO}(h:Kt H b o):∃u,H b=Option.some u/\((∀ps,o≠.tbl ps)->u=o)/\((∃ps,o=.tbl ps)->∃ps,u=.tbl ps):=by
 cases o with
 |tbl ps=>obtain⟨m,e,_⟩:=h;exact⟨_,e,λz=>absurd rfl (z ps),λ_=>⟨_,rfl⟩⟩
 |_=>exact⟨_,h,λ_=>rfl,λ⟨ps,z⟩=>by cases z⟩
theorem Kt.step {H H':Hp}{b:Addr}{o:HO}(h:Kt H b o)(s:ay H H'):Kt H' b o:=by
 cases o with
 |tbl ps=>
  obtain⟨m,e,k⟩:=h
  obtain⟨m2,e2,k2⟩:=s b _ e
  refine⟨m ++ m2,by rw[e2,Array.append_assoc],λc hc=>?_⟩
  rw[Array.toList_append,Of] at hc
  rcases hc with hc |hc
  ·obtain⟨o,eo,io⟩:=k c hc;exact⟨o,s c _ eo,io⟩
  ·exact k2 c hc
 |lst xs=>exact s b _ h
 |tup xs=>exact s b _ h
 |dK xs=>exact s b _ h
 |dT xs=>exact s b _ h
 |set S n=>exact s b _ h
 |ins C dx fs=>exact s b _ h
 |own x=>exact s b _ h
 |xd fs=>exact s b _ h
 |met f x=>exact s b _ h
 |du lo hi=>exact s b _ h
 |bp o u=>exact s b _ h
 |ext φ=>exact s b _ h
def ay.trans {H H1 H2:Hp}(a:ay H H1)(b:ay H1 H2):ay H H2:=λc o h=>(a c o h).step b
theorem ay.free {H H':Hp}(e:ay H H'){l:Addr}(h:H' l=Option.none):H l=Option.none:=by
 cases q:H l with
 |none=>rfl
 |some o=>
  obtain⟨u,z,_⟩:=(e l o q).some
  rw[z] at h
  cases h
def ay.seq {K:Frag}{H H':Hp}{a:Addr}{xs:List V}(e:ay H H')(h:gf K H a xs):gf K H' a xs:=by
 rcases h with (h | ⟨o,h⟩) |h
 ·exact .inl (.inl (e _ _ h))
 ·exact .inl (.inr ⟨o,e _ _ h⟩)
 ·exact .inr h
end L2
end
namespace L2.ST
open PySem PySem.SetTable
abbrev j6 (xs:Array Nat):Prop:=xs.toList.Pairwise (· < ·)
def jg (h:j6 xs)(hik:i < k)(hk:k < xs.size):xs.getD i d < xs.getD k d:=by
 have hi:i < xs.size:=Nat.lt_trans hik hk
 have:=O2.mp h i k (by simpa using hi) (by simpa using hk) hik
 simpa[Array.getD,hi,hk] using this
theorem DC {j:Nat}(h:j6 xs):∀(fuel lo hi:Nat),lo<=hi->hi<=xs.size->hi - lo<=fuel->
  (∀i,i < lo->xs.getD i j < j)->(∀i,hi<=i->i < xs.size->j<=xs.getD i j)->
  below.go xs j fuel lo hi<=xs.size/\(∀i,i < below.go xs j fuel lo hi->xs.getD i j < j)/\(∀i,below.go xs j fuel lo hi<=i->i < xs.size->j<=xs.getD i j):=by
 intro fuel
 induction fuel with
 |zero=>
  intro lo hi h1 h2 h3 h4 h5
  have:lo=hi:=by omega
  subst this
  exact⟨h2,h4,h5⟩
 |succ fuel ih=>
  intro lo hi h1 h2 h3 h4 h5
  unfold below.go
  by_cases hlt:lo < hi
  ·rw[N1 hlt]
   dsimp only
   by_cases hm:xs.getD ((lo + hi) / 2) j < j
   ·rw[N1 hm]
    refine ih _ _ (by omega) h2 (by omega) (λi hi'=>?_) h5
    by_cases e:i=(lo + hi) / 2
    ·rw[e];exact hm
    ·exact Nat.lt_trans (jg h (show i < (lo + hi) / 2 by omega) (by omega)) hm
   ·rw[N8 hm]
    refine ih _ _ (by omega) (by omega) (by omega) h4 (λi hi' hs=>?_)
    by_cases e:i=(lo + hi) / 2
    ·rw[e];omega
    ·have:=jg (d:=j) h (show (lo + hi) / 2 < i by omega) hs
     omega
  ·rw[N8 hlt]
   have:lo=hi:=by omega
   subst this
   exact⟨h2,h4,h5⟩
def cz (h:j6 xs)(j:Nat) :
  below xs j<=xs.size/\(∀i,i < below xs j->xs.getD i j < j)/\(∀i,below xs j<=i->i < xs.size->j<=xs.getD i j):=
 DC h xs.size 0 xs.size (OJ _) (N4 _) (by omega) (λi hi=>by omega) (λi h1 h2=>by omega)
def Bh (h:j6 xs)(hi:xs[i]? =some j):below xs j=i:=by
 obtain⟨b1,b2,b3⟩:=cz h j
 have hs:i < xs.size:=(O8.mp hi).1
 have hv:xs.getD i j=j:=by rw[OQ,hi];rfl
 rcases P9 i (below xs j) with c |c |c
 ·have:=b2 i c;omega
 ·exact c.symm
 ·have hb:below xs j < xs.size:=by omega
  have q:=b3 (below xs j) (N4 _) hb
  have:=jg (d:=j) h c hs
  omega
def Am (j:Nat):has #[] j=false:=by
 unfold has
 simp
def sR {t:SetTable}(h:j6 t.place){i j:Nat}(hi:t.place[i]? =some j):t.slot j=.live i:=by
 unfold slot
 dsimp only
 rw[Bh h hi,N1 (by simp[hi])]
def x6 {t:SetTable}(hd:t.dummies=#[]){j:Nat}(hj:j∉t.place):t.slot j=.empty:=by
 unfold slot
 dsimp only
 have:¬(t.place[below t.place j]? == some j)=true:=by
  intro e
  have e':t.place[below t.place j]? =some j:=by simpa using e
  obtain⟨h1,h2⟩:=O8.mp e'
  exact hj (Array.mem_iff_getElem.mpr ⟨_,h1,h2⟩)
 rw[N8 this,hd,Am]
 rfl
def xq (mask:Nat)(p:Probe):Probe:=
 if p.more > 0 then {p with j:=p.j + 1,more:=p.more - 1} else
 {p with j:=(leap mask p.i p.perturb).1,more:=runEnd mask (leap mask p.i p.perturb).1 - (leap mask p.i p.perturb).1,i:=(leap mask p.i p.perturb).1,perturb:=(leap mask p.i p.perturb).2}
def Bo (mask i perturb:Nat):Probe:={j:=i,more:=runEnd mask i - i,i,perturb,dummy:=none}
def st (mask:Nat)(h:Int):Probe:=Bo mask (bits h % (mask + 1)) (bits h)
def B3 (t:SetTable)(p:Probe):t.advance p=xq t.mask p:=rfl
def DY (t:SetTable)(h:Int):t.probeStart h=st t.mask h:=rfl
def fK (mask:Nat):Nat->Probe->Probe
 | 0,p=>p
 |n + 1,p=>fK mask n (xq mask p)
theorem k6 (mask:Nat):∀(n m:Nat) (p:Probe),fK mask (n + m) p=fK mask m (fK mask n p)
 | 0,m,p=>by rw[Pn];rfl
 |n + 1,m,p=>by rw[Nat.add_right_comm];exact k6 mask n m (xq mask p)
def C5 {mask:Nat}{p:Probe}(h:p.dummy=none):(xq mask p).dummy=none:=by
 unfold xq;split <;> exact h
def jS {mask i:Nat}(h:i<=mask):i<=runEnd mask i/\runEnd mask i<=mask/\runEnd mask i - i<=9:=by
 unfold runEnd;split <;> omega
def In (mask:Nat)(p:Probe):Prop:=p.j + p.more<=mask/\p.more<=9
def II {mask i q:Nat}(h:i<=mask):In mask (Bo mask i q):=by
 have:=jS h
 unfold In Bo;dsimp only;omega
def mS (mask i q:Nat):(leap mask i q).1<=mask:=by
 unfold leap;exact Nat.lt_succ_iff.mp (Nat.mod_lt _ (Nat.succ_pos _))
def JL {mask:Nat}{p:Probe}(h:In mask p):In mask (xq mask p):=by
 unfold xq
 by_cases hm:p.more > 0
 ·rw[N1 hm];unfold In at *;dsimp only;omega
 ·rw[N8 hm]
  have:=jS (mS mask p.i p.perturb)
  unfold In;dsimp only;omega
theorem uJ {mask:Nat}:∀(n:Nat) {p:Probe},In mask p->In mask (fK mask n p)
 | 0,_,h=>h
 |n + 1,_,h=>uJ n (JL h)
def Hn (mask:Nat)(h:Int):In mask (st mask h):=II (Nat.lt_succ_iff.mp (Nat.mod_lt _ (Nat.succ_pos _)))
theorem we (mask:Nat):∀(k:Nat) (p:Probe),p.more=k->fK mask (k + 1) p={p with j:=(leap mask p.i p.perturb).1,more:=runEnd mask (leap mask p.i p.perturb).1 - (leap mask p.i p.perturb).1,i:=(leap mask p.i p.perturb).1,perturb:=(leap mask p.i p.perturb).2}
 | 0,p,h=>by
  show xq mask p=_
  unfold xq
  rw[N8 (by omega)]
 |k + 1,p,h=>by
  have e:xq mask p={p with j:=p.j + 1,more:=p.more - 1}:=by unfold xq;rw[N1 (by omega)]
  show fK mask (k + 1) (xq mask p)=_
  rw[e,we mask k _ (by dsimp only;omega)]
def n0 (mask i q:Nat):fK mask (runEnd mask i - i + 1) (Bo mask i q)=Bo mask (leap mask i q).1 (leap mask i q).2:=by
 exact we mask _ (Bo mask i q) rfl
theorem j5 (mask i q:Nat):∀(k:Nat),k<=runEnd mask i - i->(fK mask k (Bo mask i q))={Bo mask i q with j:=i + k,more:=runEnd mask i - i - k}
 | 0,_=>rfl
 |k + 1,h=>by
  rw[k6 mask k 1,j5 mask i q k (by omega)]
  show xq mask _=_
  unfold xq
  rw[N1 (by dsimp only;omega)]
  simp only[Probe.mk.injEq]
  refine⟨by omega,by omega,?_⟩
  trivial
def gP (mask:Nat):Nat->Nat×Nat->Nat×Nat
 | 0,x=>x
 |k + 1,x=>gP mask k (leap mask x.1 x.2)
theorem oH (mask:Nat):∀(k i q:Nat),i<=mask->∃n,n<=10 * k/\fK mask n (Bo mask i q)=Bo mask (gP mask k (i,q)).1 (gP mask k (i,q)).2
 | 0,i,q,_=>⟨0,N4 _,rfl⟩
 |k + 1,i,q,h=>by
  obtain⟨n,hn,e⟩:=oH mask k (leap mask i q).1 (leap mask i q).2 (mS _ _ _)
  have:=jS h
  refine⟨(runEnd mask i - i + 1) + n,by omega,?_⟩
  rw[k6,n0,e]
  rfl
theorem sQ (mask:Nat):∀(a b:Nat) (x:Nat×Nat),gP mask (a + b) x=gP mask b (gP mask a x)
 | 0,b,x=>by rw[Pn];rfl
 |a + 1,b,x=>by rw[Nat.add_right_comm];exact sQ mask a b (leap mask x.1 x.2)
theorem vC (mask:Nat):∀(k:Nat) (x:Nat×Nat),x.1<=mask->(gP mask k x).1<=mask
 | 0,_,h=>h
 |k + 1,x,_=>vC mask k _ (mS mask x.1 x.2)
theorem l6 (mask:Nat):∀(k:Nat) (x:Nat×Nat),(gP mask k x).2=x.2 / 32 ^ k
 | 0,x=>by simp[gP]
 |k + 1,x=>by
  show (gP mask k (leap mask x.1 x.2)).2=_
  rw[l6 mask k,Nat.pow_succ,Nat.mul_comm,<-Nat.div_div_eq_div_mul]
  rfl
def nx (mask i:Nat):Nat:=(i * 5 + 1) % (mask + 1)
def BQ (mask:Nat):Nat->Nat->Nat
 | 0,i=>i
 |k + 1,i=>BQ mask k (nx mask i)
theorem pD (mask:Nat):∀(a b i:Nat),BQ mask (a + b) i=BQ mask b (BQ mask a i)
 | 0,b,i=>by rw[Pn];rfl
 |a + 1,b,i=>by rw[Nat.add_right_comm];exact pD mask a b (nx mask i)
theorem qU (mask:Nat):∀(k i:Nat),gP mask k (i,0)=(BQ mask k i,0)
 | 0,_=>rfl
 |k + 1,i=>by
  show gP mask k (leap mask i 0)=_
  have:leap mask i 0=(nx mask i,0):=by simp[leap,nx]
  rw[this,qU mask k]
  rfl
def BL (mask:Nat):Prop:=mask=7\/mask=31\/mask=127
def J5 (mask:Nat)(hm:BL mask):BQ mask (mask + 1) 0=0/\∀j,j<=mask->∃k,k<=mask/\BQ mask k 0=j:=by
 have h7:∀j:Nat,j < 8->∃k,k < 8/\BQ 7 k 0=j:=by decide +kernel
 have h31:∀j:Nat,j < 32->∃k,k < 32/\BQ 31 k 0=j:=by decide +kernel
 have h127:∀j:Nat,j < 128->∃k,k < 128/\BQ 127 k 0=j:=by decide +kernel
 rcases hm with rfl |rfl |rfl
 ·exact⟨by decide +kernel,λj hj=>let ⟨k,a,b⟩:=h7 j (by omega);⟨k,by omega,b⟩⟩
 ·exact⟨by decide +kernel,λj hj=>let ⟨k,a,b⟩:=h31 j (by omega);⟨k,by omega,b⟩⟩
 ·exact⟨by decide +kernel,λj hj=>let ⟨k,a,b⟩:=h127 j (by omega);⟨k,by omega,b⟩⟩
def Lf {mask:Nat}(hm:BL mask){i j:Nat}(hi:i<=mask)(hj:j<=mask):∃k,k<=mask/\BQ mask k i=j:=by
 obtain⟨z,o⟩:=J5 mask hm
 obtain⟨a,ha,ea⟩:=o i hi
 obtain⟨b,hb,eb⟩:=o j hj
 have back:BQ mask (mask + 1 - a) i=0:=by
  rw[<-ea,<-pD,show a + (mask + 1 - a)=mask + 1 by omega];exact z
 by_cases hab:a<=b
 ·refine⟨b - a,by omega,?_⟩
  rw[<-ea,<-pD,show a + (b - a)=b by omega];exact eb
 ·refine⟨mask + 1 - a + b,by omega,?_⟩
  rw[pD,back];exact eb
def qi {mask:Nat}(hm:BL mask){i q j:Nat}(hi:i<=mask)(hq:q < 2 ^ 64)(hj:j<=mask):∃k,k<=mask + 13/\(gP mask k (i,q)).1=j:=by
 have hz:(gP mask 13 (i,q)).2=0:=by
  rw[l6]
  exact Nat.div_eq_of_lt (OF hq (by decide))
 obtain⟨k,hk,e⟩:=Lf hm (vC mask 13 (i,q) hi) hj
 refine⟨13 + k,by omega,?_⟩
 rw[sQ]
 have:gP mask 13 (i,q)=((gP mask 13 (i,q)).1,0):=Prod.ext rfl hz
 rw[this,qU]
 exact e
def zP (h:Int):bits h < 2 ^ 64:=by
 unfold bits
 have:=Int.emod_lt_of_pos h (show (0:Int) < 2 ^ 64 by decide)
 have:=Int.emod_nonneg h (show (2 ^ 64:Int)≠0 by decide)
 omega
def C0 {mask:Nat}(hm:BL mask)(h:Int){j:Nat}(hj:j<=mask):∃n,n < 10 * turns mask/\(fK mask n (st mask h)).j=j:=by
 have hi:bits h % (mask + 1)<=mask:=Nat.lt_succ_iff.mp (Nat.mod_lt _ (Nat.succ_pos _))
 obtain⟨k,hk,e⟩:=qi hm hi (zP h) hj
 obtain⟨n,hn,q⟩:=oH mask k (bits h % (mask + 1)) (bits h) hi
 refine⟨n,by unfold turns;omega,?_⟩
 show (fK mask n (Bo mask _ _)).j=j
 rw[q];exact e
theorem wM {t:SetTable}{hashAt:Nat->Int}{h:Int}:∀(n fuel:Nat) (p:Probe),n < fuel->p.dummy=none->
  (∀m,m < n->∃i,t.slot (fK t.mask m p).j=.live i/\hashAt i≠h)->t.slot (fK t.mask n p).j=.empty->
  probe.go t hashAt h fuel p=some (.empty (fK t.mask n p).j none):=by
 intro n
 induction n with
 |zero=>
  intro fuel p hf hd _ he
  obtain⟨f,rfl⟩:∃f,fuel=f + 1:=⟨fuel - 1,by omega⟩
  unfold probe.go
  have he':t.slot p.j=.empty:=he
  rw[he',hd]
  rfl
 |succ n ih=>
  intro fuel p hf hd hl he
  obtain⟨f,rfl⟩:∃f,fuel=f + 1:=⟨fuel - 1,by omega⟩
  unfold probe.go
  obtain⟨i,e,ne⟩:=hl 0 (by omega)
  have e':t.slot p.j=.live i:=e
  rw[e']
  dsimp only
  rw[N8 (by simpa using ne),B3]
  exact ih f (xq t.mask p) (by omega) (C5 hd) (λm hm=>hl (m + 1) (by omega)) he
theorem Ef {t:SetTable}{hashAt:Nat->Int}{h:Int}:∀(n fuel:Nat) (p:Probe),n < fuel->
  (∀m,m<=n->∃i,t.slot (fK t.mask m p).j=.live i)->(∃i,t.slot (fK t.mask n p).j=.live i/\hashAt i=h)->
  ∃j i next,probe.go t hashAt h fuel p=some (.candidate j i next)/\t.slot j=.live i/\hashAt i=h:=by
 intro n
 induction n with
 |zero=>
  intro fuel p hf _ he
  obtain⟨f,rfl⟩:∃f,fuel=f + 1:=⟨fuel - 1,by omega⟩
  obtain⟨i,e,eh⟩:=he
  have e':t.slot p.j=.live i:=e
  unfold probe.go
  rw[e']
  dsimp only
  rw[N1 (by simpa using eh)]
  exact⟨p.j,i,_,rfl,e',eh⟩
 |succ n ih=>
  intro fuel p hf hl he
  obtain⟨f,rfl⟩:∃f,fuel=f + 1:=⟨fuel - 1,by omega⟩
  obtain⟨i,e⟩:=hl 0 (by omega)
  have e':t.slot p.j=.live i:=e
  unfold probe.go
  rw[e']
  dsimp only
  by_cases hh:hashAt i=h
  ·rw[N1 (by simpa using hh)]
   exact⟨p.j,i,_,rfl,e',hh⟩
  ·rw[N8 (by simpa using hh),B3]
   exact ih f (xq t.mask p) (by omega) (λm hm=>hl (m + 1) (by omega)) he
def Reach (mask:Nat)(L:Nat->Prop)(h:Int)(j:Nat):Prop:=∃n,n < 10 * turns mask/\(fK mask n (st mask h)).j=j/\∀m,m < n->L (fK mask m (st mask h)).j
def Reach.mono {mask:Nat}{L L':Nat->Prop}{h:Int}{j:Nat}(r:Reach mask L h j)(k:∀x,L x->L' x):Reach mask L' h j:=
 let ⟨n,a,b,c⟩:=r;⟨n,a,b,λm hm=>k _ (c m hm)⟩
structure Tab (t:SetTable)(hs:List Int):Prop where
 mask:BL t.mask
 dum:t.dummies=#[]
 rise:j6 t.place
 le:∀j,j∈t.place->j<=t.mask
 size:t.place.size=hs.length
 load:t.place.size * 5 < t.mask * 3
 reach:∀(i j:Nat) (h:Int),t.place[i]? =some j->hs[i]? =some h->Reach t.mask (· ∈t.place) h j
 plain:t.plain=true
theorem a9 {α:Type}[DecidableEq α]:∀{l m:List α},l.Nodup->(∀x,x∈l->x∈m)->l.length<=m.length
 | [],_,_,_=>OJ _
 |a :: l,m,hn,hs=>by
  have ha:=hs a (N0 ..)
  have hl:=Ov.mp hn
  have:=a9 (l:=l) (m:=m.erase a) hl.2 λx hx=>by
   refine (List.mem_erase_of_ne ?_).mpr (hs x (N5 _ hx))
   rintro rfl;exact hl.1 hx
  rw[QY ha] at this
  have:0 < m.length:=List.length_pos_of_mem ha
  simp only[Ol];omega
def yW {mask:Nat}{xs:Array Nat}(hl:xs.size<=mask):∃j,j<=mask/\j∉xs:=by
 refine Classical.byContradiction λhc=>?_
 have all:∀j,j∈List.range (mask + 1)->j∈xs.toList:=λj hj=>by
  have:=Og.mp hj
  refine Classical.byContradiction λhn=>hc ⟨j,by omega,λz=>hn (by simpa using z)⟩
 have:=a9 PX all
 simp at this
 omega
theorem tV {P:Nat->Prop}(h:∃n,P n):∃n,P n/\∀m,m < n->¬P m:=by
 obtain⟨n,hn⟩:=h
 induction n using Nat.strongRecOn with
 |_ n ih=>
  by_cases hc:∃m,m < n/\P m
  ·obtain⟨m,hm,hp⟩:=hc
   exact ih m hm hp
  ·exact⟨n,hn,λm hm hp=>hc ⟨m,hm,hp⟩⟩
section
variable {t:SetTable}{hs:List Int}
def Tab.load' (T:Tab t hs):t.place.size<=t.mask:=by have:=T.load;omega
def Tab.slotL (T:Tab t hs){j:Nat}(hj:j∈t.place):∃i,t.slot j=.live i/\t.place[i]? =some j:=by
 obtain⟨i,hi,e⟩:=Array.mem_iff_getElem.mp hj
 have q:t.place[i]? =some j:=by rw[OD hi,e]
 exact⟨i,sR T.rise q,q⟩
def Tab.slotE (T:Tab t hs){j:Nat}(hj:j∉t.place):t.slot j=.empty:=x6 T.dum hj
def Tab.first (T:Tab t hs)(h:Int):∃n,n < 10 * turns t.mask/\(fK t.mask n (st t.mask h)).j∉t.place/\∀m,m < n->(fK t.mask m (st t.mask h)).j∈t.place:=by
 obtain⟨j,hj,hn⟩:=yW T.load'
 obtain⟨n,h1,h2⟩:=C0 T.mask h hj
 obtain⟨k,hk,hlt⟩:=tV (P:=λn=>(fK t.mask n (st t.mask h)).j∉t.place) ⟨n,by rw[h2];exact hn⟩
 refine⟨k,?_,hk,λm hm=>Classical.byContradiction λz=>hlt m hm z⟩
 rcases OW n k with c |c
 ·exact absurd (show (fK t.mask n (st t.mask h)).j∉t.place by rw[h2];exact hn) (hlt n c)
 ·omega
def Tab.absent (T:Tab t hs){hashAt:Nat->Int}(ha:∀i,i < hs.length->some (hashAt i)=hs[i]?){h:Int}(hn:h∉hs) :
  ∃j,t.probe hashAt h (t.probeStart h)=some (.empty j none)/\j∉t.place/\j<=t.mask/\Reach t.mask (· ∈t.place) h j:=by
 obtain⟨n,h1,h2,h3⟩:=T.first h
 refine⟨(fK t.mask n (st t.mask h)).j,?_,h2,?_,⟨n,h1,rfl,h3⟩⟩
 ·unfold probe
  rw[DY]
  refine wM n _ _ h1 rfl (λm hm=>?_) (T.slotE h2)
  obtain⟨i,e,q⟩:=T.slotL (h3 m hm)
  refine⟨i,e,λz=>hn ?_⟩
  have hi:i < hs.length:=by rw[<-T.size];exact (O8.mp q).1
  have:=ha i hi
  rw[z] at this
  exact Ob this.symm
 ·have:=uJ n (Hn t.mask h)
  unfold In at this;omega
def Tab.present (T:Tab t hs){hashAt:Nat->Int}(ha:∀i,i < hs.length->some (hashAt i)=hs[i]?){h:Int}(hm:h∈hs) :
  ∃j i next,t.probe hashAt h (t.probeStart h)=some (.candidate j i next)/\t.slot j=.live i/\i < hs.length/\hs[i]? =some h:=by
 obtain⟨i,hi,e⟩:=ON.mp hm
 have hi':hs[i]? =some h:=by rw[NW hi,e]
 have hp:i < t.place.size:=by rw[T.size];exact hi
 obtain⟨n,h1,h2,h3⟩:=T.reach i t.place[i] h (OD hp) hi'
 have hj:(fK t.mask n (st t.mask h)).j∈t.place:=by rw[h2];exact Rh hp
 obtain⟨j',i',nx,g1,g2,g3⟩:=Ef (t:=t) (hashAt:=hashAt) (h:=h) n (10 * turns t.mask) (st t.mask h) h1 (λm hm=>by
   rcases OW m n with c |c
   ·obtain⟨i,e,_⟩:=T.slotL (h3 m c);exact⟨i,e⟩
   ·have:m=n:=by omega
    subst this
    obtain⟨i,e,_⟩:=T.slotL hj;exact⟨i,e⟩)
  ⟨i,by rw[h2];exact sR T.rise (OD hp),by
   have:=ha i hi
   rw[hi'] at this
   exact Option.some.inj this⟩
 have hi2:i' < t.place.size:=by
  unfold slot at g2
  dsimp only at g2
  split at g2
  ·rename_i c
   have c':t.place[below t.place j']? =some j':=by simpa using c
   cases g2
   exact (O8.mp c').1
  ·split at g2 <;> cases g2
 refine⟨j',i',nx,by unfold probe;rw[DY];exact g1,g2,by rw[<-T.size];exact hi2,?_⟩
 have:=ha i' (by rw[<-T.size];exact hi2)
 rw[g3] at this
 exact this.symm
end
def bJ {α:Type}(xs:Array α)(p:Nat)(x:α)(_:p<=xs.size):(insertAt xs p x).toList=xs.toList.take p ++ x :: xs.toList.drop p:=by
 unfold insertAt
 simp[Array.toList_extract,List.extract_eq_take_drop]
 rw[Py (by simp)]
def nO (t:SetTable)(j:Nat)(hd:t.dummies=#[]):(t.put j).1={t with place:=insertAt t.place (below t.place j) j}/\(t.put j).2=below t.place j:=by
 unfold put
 dsimp only
 rw[hd,Am]
 exact⟨by simp,rfl⟩
section
variable {t:SetTable}{hs:List Int}
def mO {α:Type}{xs:Array α}{p:Nat}{x y:α}(hp:p<=xs.size):y∈insertAt xs p x↔y∈xs\/y=x:=by
 rw[<-Qp,bJ xs p x hp,Of,NX,<-Qp]
 have:y∈xs.toList↔y∈xs.toList.take p\/y∈xs.toList.drop p:=by
  conv=>lhs;rw[<-PB p xs.toList]
  exact Of
 rw[this]
 constructor
 ·rintro (a |a |a)
  ·exact .inl (.inl a)
  ·exact .inr a
  ·exact .inl (.inr a)
 ·rintro ((a |a) |a)
  ·exact .inl a
  ·exact .inr (.inr a)
  ·exact .inr (.inl a)
def rB {xs:Array Nat}(h:j6 xs){j:Nat}(hj:j∉xs):j6 (insertAt xs (below xs j) j):=by
 obtain⟨b1,b2,b3⟩:=cz h j
 unfold j6
 rw[bJ _ _ _ b1]
 have hl:∀y,y∈xs.toList.take (below xs j)->y < j:=λy hy=>by
  obtain⟨i,hi,e⟩:=ON.mp hy
  have hi1:i < below xs j:=by simp at hi;omega
  have hi2:i < xs.size:=by omega
  have:=b2 i hi1
  rw[OQ,OD hi2] at this
  simp at e this
  omega
 have hr:∀y,y∈xs.toList.drop (below xs j)->j < y:=λy hy=>by
  obtain⟨i,hi,e⟩:=ON.mp hy
  have hi2:below xs j + i < xs.size:=by simp at hi;omega
  have:=b3 (below xs j + i) (by omega) hi2
  rw[OQ,OD hi2] at this
  simp at e this
  rcases OW j y with c |c
  ·exact c
  ·have:j=y:=by omega
   exact absurd (by rw[this,<-e];exact Rh _) hj
 refine PF.mpr ⟨List.Pairwise.sublist (Qn ..) h,Qi.mpr ⟨λy hy=>hr y hy,List.Pairwise.sublist (List.drop_sublist ..) h⟩,λa ha b hb=>?_⟩
 rcases NX.mp hb with rfl |hb
 ·exact hl a ha
 ·exact Nat.lt_trans (hl a ha) (hr b hb)
def wV {α:Type}(l:List α)(p:Nat)(x:α)(hp:p<=l.length)(i:Nat):(l.take p ++ x :: l.drop p)[i]? =if i < p then l[i]? else if i=p then some x else l[i - 1]?:=by
 rcases P9 i p with c |c |c
 ·rw[N1 c,OU (by simp;omega),QX c]
 ·subst c
  rw[N8 (OO _),N1 rfl,OK (by simp;omega),OX,Nat.min_eq_left hp,Nat.sub_self]
  rfl
 ·rw[N8 (by omega),N8 (by omega),OK (by simp;omega),OX,Nat.min_eq_left hp]
  obtain⟨k,rfl⟩:∃k,i=p + 1 + k:=⟨i - (p + 1),by omega⟩
  rw[show p + 1 + k - p=k + 1 by omega,List.getElem?_cons_succ,List.getElem?_drop]
  congr 1
  omega
def Tab.put (T:Tab t hs){j:Nat}{h:Int}(hj:j∉t.place)(hm:j<=t.mask)(r:Reach t.mask (· ∈t.place) h j)(hf:(t.place.size + 1) * 5 < t.mask * 3) :
  Tab (t.put j).1 (hs.take (t.put j).2 ++ h :: hs.drop (t.put j).2)/\(t.put j).2<=hs.length:=by
 obtain⟨e1,e2⟩:=nO t j T.dum
 obtain⟨b1,b2,b3⟩:=cz T.rise j
 have hsz:(insertAt t.place (below t.place j) j).size=t.place.size + 1:=by
  rw[<-Qs,bJ _ _ _ b1]
  simp;omega
 have hl:below t.place j<=hs.length:=by rw[<-T.size];exact b1
 rw[e1,e2]
 refine⟨⟨T.mask,T.dum,rB T.rise hj,λy hy=>?_,?_,?_,λi y g hy hg=>?_,T.plain⟩,hl⟩
 ·rcases (mO b1).mp hy with z |z
  ·exact T.le y z
  ·rw[z];exact hm
 ·show (insertAt t.place _ j).size=_
  rw[hsz,T.size];simp;omega
 ·show (insertAt t.place _ j).size * 5 < t.mask * 3
  rw[hsz];exact hf
 ·show Reach t.mask (· ∈insertAt t.place (below t.place j) j) g y
  have hy':(t.place.toList.take (below t.place j) ++ j :: t.place.toList.drop (below t.place j))[i]? =some y:=by
   rw[<-bJ _ _ _ b1,P0];exact hy
  rw[wV _ _ _ (by simpa using b1)] at hy'
  rw[wV _ _ _ hl] at hg
  have old:∀{g y},Reach t.mask (· ∈t.place) g y->Reach t.mask (· ∈insertAt t.place (below t.place j) j) g y:=λr=>r.mono λx hx=>(mO b1).mpr (.inl hx)
  split at hy'
  ·rename_i c
   rw[N1 c] at hg
   exact old (T.reach i y g (by simpa using hy') hg)
  ·rename_i c
   rw[N8 c] at hg
   split at hy'
   ·rename_i c2
    rw[N1 c2] at hg
    cases hg;cases hy'
    exact old r
   ·rename_i c2
    rw[N8 c2] at hg
    exact old (T.reach (i - 1) y g (by simpa using hy') hg)
end
abbrev own (o:Array (Option Nat))(j:Nat):Option Nat:=o.getD j none
theorem AK {mask:Nat}{o:Array (Option Nat)}(hsz:o.size=mask + 1):∀(fuel i q:Nat) (j:Nat),i<=mask->layClean.free mask o fuel i q=some j->
  ∃n,n < 10 * fuel/\(fK mask n (Bo mask i q)).j=j/\(∀m,m < n->(own o (fK mask m (Bo mask i q)).j).isSome=true)/\own o j=none/\j<=mask:=by
 intro fuel
 induction fuel with
 |zero=>intro i q j _ h;unfold layClean.free at h;cases h
 |succ fuel ih=>
  intro i q j hi h
  unfold layClean.free at h
  have hr:=jS hi
  have ind:∀k,k<=runEnd mask i - i->o.getD (i + k) (some 0)=own o (i + k):=λk hk=>by
   have:i + k < o.size:=by omega
   simp[own,Array.getD,this]
  cases hf:(List.range (runEnd mask i + 1 - i)).find? λk=>(o.getD (i + k) (some 0)).isNone with
  |some k=>
   rw[hf] at h
   dsimp only at h
   have hk:=List.find?_eq_some_iff_getElem.mp hf
   obtain⟨hn,ix,hix,eix,hbef⟩:=hk
   have ek:ix=k:=by simpa using eix
   subst ek
   have hix':ix < runEnd mask i + 1 - i:=by simpa using hix
   cases h
   refine⟨ix,by omega,?_,λm hm=>?_,?_,by omega⟩
   ·rw[j5 mask i q ix (by omega)]
   ·rw[j5 mask i q m (by omega)]
    have:=hbef m hm
    simp only[QZ] at this
    rw[ind m (by omega)] at this
    dsimp only
    cases e:own o (i + m) with
    |none=>rw[e] at this;simp at this
    |some _=>rfl
   ·rw[ind ix (by omega)] at hn
    cases e:own o (i + ix) with
    |none=>rfl
    |some _=>rw[e] at hn;simp at hn
  |none=>
   rw[hf] at h
   dsimp only at h
   obtain⟨n,h1,h2,h3,h4,h5⟩:=ih _ _ j (mS mask i q) h
   have hnone:=List.find?_eq_none.mp hf
   refine⟨(runEnd mask i - i + 1) + n,by omega,?_,λm hm=>?_,h4,h5⟩
   ·rw[k6,n0];exact h2
   ·rcases OW m (runEnd mask i - i + 1) with c |c
    ·rw[j5 mask i q m (by omega)]
     have:=hnone m (Og.mpr (by omega))
     rw[ind m (by omega)] at this
     dsimp only
     cases e:own o (i + m) with
     |none=>rw[e] at this;simp at this
     |some _=>rfl
    ·obtain⟨k,rfl⟩:∃k,m=(runEnd mask i - i + 1) + k:=⟨m - (runEnd mask i - i + 1),by omega⟩
     rw[k6,n0]
     exact h3 k (by omega)
theorem A3 {mask:Nat}{o:Array (Option Nat)}(hsz:o.size=mask + 1):∀(fuel i q k:Nat),i<=mask->k < fuel->own o (gP mask k (i,q)).1=none->∃j,layClean.free mask o fuel i q=some j:=by
 intro fuel
 induction fuel with
 |zero=>intro i q k _ hk;omega
 |succ fuel ih=>
  intro i q k hi hk hn
  unfold layClean.free
  cases hf:(List.range (runEnd mask i + 1 - i)).find? λk=>(o.getD (i + k) (some 0)).isNone with
  |some k=>exact⟨_,rfl⟩
  |none=>
   dsimp only
   cases k with
   |zero=>
    have hr:=jS hi
    have:=List.find?_eq_none.mp hf 0 (Og.mpr (by omega))
    have e:own o i=none:=hn
    have hi2:i < o.size:=by omega
    simp[own,Array.getD,hi2] at e this
    rw[e] at this;simp at this
   |succ k=>exact ih _ _ k (mS mask i q) (by omega) hn
structure Lay (mask:Nat)(o:Array (Option Nat))(hs:List Int):Prop where
 size:o.size=mask + 1
 all:∀k h,hs[k]? =some h->∃j,own o j=some k/\Reach mask (λx=>(own o x).isSome=true) h j
 one:∀j j' k,own o j=some k->own o j'=some k->j=j'
 le:∀j k,own o j=some k->j<=mask/\k < hs.length
def nt (hj:j < o.size):own (o.setIfInBounds j (some k)) x=if x=j then some k else own o x:=by
 unfold own
 rw[OQ,OQ,Array.getElem?_setIfInBounds]
 by_cases e:x=j
 ·subst e;simp[hj]
 ·rw[N8 e,N8 (λz=>e z.symm)]
def D8 {mask:Nat}(hm:BL mask){o:Array (Option Nat)}{hs:List Int}(L:Lay mask o hs)(h:Int)(hl:hs.length<=mask) :
  ∃j,layClean.free mask o (turns mask) (bits h % (mask + 1)) (bits h)=some j/\Lay mask (o.setIfInBounds j (some hs.length)) (hs ++ [h]):=by
 have hi:bits h % (mask + 1)<=mask:=Nat.lt_succ_iff.mp (Nat.mod_lt _ (Nat.succ_pos _))
 have hfree:∃j,j<=mask/\own o j=none:=by
  refine Classical.byContradiction λhc=>?_
  have hall:∀j,j<=mask->∃k,own o j=some k:=λj hj=>by
   cases e:own o j with
   |none=>exact absurd ⟨j,hj,e⟩ hc
   |some k=>exact⟨k,rfl⟩
  have nd:((List.range (mask + 1)).map λj=>(own o j).getD 0).Nodup:=by
   refine OP.mpr ?_
   refine OH ?_ PX
   intro a b ha hb hab e
   obtain⟨ka,ea⟩:=hall a (by have:=Og.mp ha;omega)
   obtain⟨kb,eb⟩:=hall b (by have:=Og.mp hb;omega)
   rw[ea,eb] at e
   simp at e
   subst e
   exact hab (L.one a b ka ea eb)
  have:=a9 (m:=List.range hs.length) nd λx hx=>by
   obtain⟨j,hj,rfl⟩:=N7.mp hx
   obtain⟨k,e⟩:=hall j (by have:=Og.mp hj;omega)
   rw[e]
   exact Og.mpr (L.le j k e).2
  simp at this
  omega
 obtain⟨j0,hj0,hn0⟩:=hfree
 obtain⟨k,hk,ek⟩:=qi hm hi (zP h) hj0
 obtain⟨j,hj⟩:=A3 L.size (turns mask) _ (bits h) k hi (by unfold turns;omega) (by rw[ek];exact hn0)
 refine⟨j,hj,?_⟩
 obtain⟨n,h1,h2,h3,h4,h5⟩:=AK L.size _ _ _ _ hi hj
 have hjs:j < o.size:=by rw[L.size];omega
 have grow:∀x,(own o x).isSome=true->(own (o.setIfInBounds j (some hs.length)) x).isSome=true:=λx hx=>by
  rw[nt hjs];split
  ·rfl
  ·exact hx
 refine⟨by rw[Array.size_setIfInBounds];exact L.size,λk g hg=>?_,λa b c ea eb=>?_,λa c ea=>?_⟩
 ·rcases OW k hs.length with c |c
  ·rw[OU c] at hg
   obtain⟨x,ex,rx⟩:=L.all k g hg
   refine⟨x,?_,rx.mono grow⟩
   rw[nt hjs,N8 (λz=>?_)]
   ·exact ex
   ·subst z;rw[ex] at h4;cases h4
  ·rw[OK c] at hg
   have:k=hs.length:=by
    have:=(N9.mp hg).1
    simp at this;omega
   subst this
   simp at hg
   subst hg
   exact⟨j,by rw[nt hjs,N1 rfl],n,h1,h2,λm hm=>grow _ (h3 m hm)⟩
 ·rw[nt hjs] at ea eb
  split at ea
  ·cases ea
   split at eb
   ·omega
   ·have:=(L.le _ _ eb).2;omega
  ·split at eb
   ·cases eb
    have:=(L.le _ _ ea).2;omega
   ·exact L.one _ _ _ ea eb
 ·rw[nt hjs] at ea
  rw[Ow]
  split at ea
  ·cases ea;simp;omega
  ·have:=L.le _ _ ea;simp;omega
theorem Ac {mask:Nat}(hm:BL mask):∀(rest hs:List Int) (o:Array (Option Nat)),Lay mask o hs->hs.length + rest.length<=mask->
  ∃o',rest.foldl (init:=some (o,hs.length)) (λacc h=>do
   let (owner,k) <-acc
   let j <-layClean.free mask owner (turns mask) (bits h % (mask + 1)) (bits h)
   pure (owner.setIfInBounds j (some k),k + 1))=some (o',hs.length + rest.length)/\Lay mask o' (hs ++ rest)
 | [],hs,o,L,_=>⟨o,rfl,by rw[Qz];exact L⟩
 |h :: rest,hs,o,L,hl=>by
  simp only[Ol] at hl
  obtain⟨j,e,L'⟩:=D8 hm L h (by omega)
  obtain⟨o',e',L2⟩:=Ac hm rest (hs ++ [h]) _ L' (by simp;omega)
  refine⟨o',?_,by rw[Pz] at L2;exact L2⟩
  rw[QS]
  simp only[Option.bind_eq_bind,Option.bind_some,e,Option.pure_def]
  have el:(hs ++ [h]).length=hs.length + 1:=by simp
  rw[el] at e'
  simp only[Option.bind_eq_bind,Option.pure_def] at e'
  rw[e']
  simp;omega
def zV (n j:Nat):own (Array.replicate n none) j=none:=by
 unfold own
 rw[OQ,Array.getElem?_replicate]
 split <;> rfl
def FQ (mask:Nat):Lay mask (Array.replicate (mask + 1) none) []:=
 ⟨by simp,λk h e=>by simp at e,λj j' k e _=>by (rw[zV] at e;cases e),λj k e=>by (rw[zV] at e;cases e)⟩
def su {mask:Nat}(hm:BL mask)(hs:Array Int)(hl:hs.size * 5 < mask * 3)(finger moves:Nat)(led:Bool) :
  ∃t order,laid mask finger moves led true hs=some (t,order)/\t.led=led/\t.mask=mask/\order.toList.Nodup/\(∀k,k∈order.toList↔k < hs.size)/\
   Tab t (order.toList.map λk=>hs.toList.getD k 0):=by
 obtain⟨o,e,L⟩:=Ac hm hs.toList [] _ (FQ mask) (by simp;omega)
 simp only[List.nil_append] at L
 have ec:layClean mask hs=some o:=by
  unfold layClean
  rw[<-Array.foldl_toList]
  simp only[Qk] at e
  rw[e];rfl
 have hlive:∀j k,(j,k)∈((List.range (mask + 1)).filterMap λj=>(o.getD j none).map (j, ·))↔own o j=some k:=λj k=>by
  rw[Qy]
  constructor
  ·rintro⟨x,_,q⟩
   cases ex:o.getD x none with
   |none=>rw[ex] at q;cases q
   |some y=>rw[ex] at q;simp at q;rw[<-q.1,<-q.2];exact ex
  ·intro q
   refine⟨j,Og.mpr (by have:=(L.le j k q).1;omega),?_⟩
   have:o.getD j none=some k:=q
   rw[this];rfl
 have hpw:((List.range (mask + 1)).filterMap λj=>(o.getD j none).map (j, ·)).Pairwise (λa b=>a.1 < b.1):=by
  refine List.pairwise_filterMap.mpr ?_
  refine List.Pairwise.imp ?_ QC
  intro a b hab x hx y hy
  cases ea:o.getD a none with
  |none=>rw[ea] at hx;cases hx
  |some u=>
   cases eb:o.getD b none with
   |none=>rw[eb] at hy;cases hy
   |some v=>
    rw[ea] at hx;rw[eb] at hy
    simp at hx hy
    rw[<-hx,<-hy];exact hab
 generalize hlv:((List.range (mask + 1)).filterMap λj=>(o.getD j none).map (j, ·))=live at hlive hpw
 refine⟨{mask,place:=(live.map (·.1)).toArray,dummies:=#[],finger,led,moves,plain:=true},(live.map (·.2)).toArray,?_,rfl,rfl,?_,λk=>?_,?_⟩
 ·unfold laid
  rw[ec]
  simp only[Option.bind_eq_bind,Option.bind_some,Option.pure_def,hlv]
 ·have:(live.map (·.2)).Nodup:=by
   refine OP.mpr (OH ?_ hpw)
   intro a b ha hb hab ee
   have h1:=(hlive a.1 a.2).mp ha
   have h2:=(hlive b.1 b.2).mp hb
   rw[ee] at h1
   have:=L.one _ _ _ h1 h2
   omega
  simpa using this
 ·rw[N7]
  constructor
  ·rintro⟨x,hx,rfl⟩
   have:=(L.le x.1 x.2 ((hlive x.1 x.2).mp hx)).2
   simpa using this
  ·intro hk
   have hk':k < hs.toList.length:=by simpa using hk
   obtain⟨j,ej,_⟩:=L.all k _ (NW hk')
   exact⟨(j,k),(hlive j k).mpr ej,rfl⟩
 ·have hord:live.length=hs.size:=by
   have a1:(live.map (·.2)).Nodup:=by
    refine OP.mpr (OH ?_ hpw)
    intro a b ha hb hab ee
    have h1:=(hlive a.1 a.2).mp ha
    have h2:=(hlive b.1 b.2).mp hb
    rw[ee] at h1
    have:=L.one _ _ _ h1 h2
    omega
   have b1:=a9 (m:=List.range hs.size) a1 λx hx=>by
    obtain⟨y,hy,rfl⟩:=N7.mp hx
    have:=(L.le y.1 y.2 ((hlive y.1 y.2).mp hy)).2
    exact Og.mpr (by simpa using this)
   have b2:=a9 (l:=List.range hs.size) (m:=live.map (·.2)) PX λx hx=>by
    have hk':x < hs.toList.length:=by simpa using Og.mp hx
    obtain⟨j,ej,_⟩:=L.all x _ (NW hk')
    exact N7.mpr ⟨(j,x),(hlive j x).mpr ej,rfl⟩
   simp at b1 b2
   omega
  refine⟨hm,rfl,?_,λj hj=>?_,?_,?_,λi j h hi hh=>?_,rfl⟩
  ·show (live.map (·.1)).toArray.toList.Pairwise _
   rw[O4]
   exact OP.mpr hpw
  ·have:j∈live.map (·.1):=by simpa using hj
   obtain⟨x,hx,rfl⟩:=N7.mp this
   exact (L.le x.1 x.2 ((hlive x.1 x.2).mp hx)).1
  ·simp
  ·show (live.map (·.1)).toArray.size * 5 < mask * 3
   simp[hord];exact hl
  ·have hi':(live.map (·.1))[i]? =some j:=by simpa using hi
   have hh':((live.map (·.2)).map λk=>hs.toList.getD k 0)[i]? =some h:=by simpa using hh
   rw[Oa] at hi'
   rw[Oa,Oa] at hh'
   cases ex:live[i]? with
   |none=>rw[ex] at hi';cases hi'
   |some x=>
    rw[ex] at hi' hh'
    simp at hi' hh'
    have hxl:=(hlive x.1 x.2).mp (Ob ex)
    have hk:=(L.le _ _ hxl).2
    have hk2:x.2 < hs.size:=by simpa using hk
    obtain⟨j2,ej2,r⟩:=L.all x.2 h (by
     rw[NW hk]
     simp[hk2] at hh'
     simpa using hh')
    have:j2=j:=by rw[<-hi'];exact L.one _ _ _ ej2 hxl
    subst this
    refine r.mono λy hy=>?_
    show y∈(live.map (·.1)).toArray
    cases ey:own o y with
    |none=>rw[ey] at hy;cases hy
    |some k=>
     have:y∈live.map (·.1):=N7.mpr ⟨(y,k),(hlive y k).mpr ey,rfl⟩
     simpa using this
abbrev Pr:=Int×Int
def hp (p:Pr):Int:=reduceHash (Builtin.Tuple.tupleHashOf [hashInt p.1,hashInt p.2])
def Sm (p:Pr):Prop:=(0<=p.1/\p.1 < 8)/\(0<=p.2/\p.2 < 8)
def qx:List Pr:=(List.range 64).map λk=>(((k / 8:Nat):Int),((k % 8:Nat):Int))
def mC (h:Sm p):p∈qx:=by
 unfold qx
 obtain⟨⟨a,b⟩,c,d⟩:=h
 refine N7.mpr ⟨p.1.toNat * 8 + p.2.toNat,Og.mpr (by omega),?_⟩
 refine Prod.ext ?_ ?_ <;> dsimp only <;> omega
def CP:(qx.map hp).Nodup:=by decide +kernel
theorem mU {α β:Type}{f:α->β}:∀{l:List α},(l.map f).Nodup->∀a b,a∈l->b∈l->f a=f b->a=b
 | [],_,_,_,h,_,_=>by cases h
 |x :: l,hn,a,b,ha,hb,e=>by
  have hn':=Ov.mp hn
  rcases NX.mp ha with ea |ha
  ·rcases NX.mp hb with eb |hb
   ·rw[ea,eb]
   ·exact absurd (N7.mpr ⟨b,hb,by rw[<-e,ea]⟩) hn'.1
  ·rcases NX.mp hb with eb |hb
   ·exact absurd (N7.mpr ⟨a,ha,by rw[e,eb]⟩) hn'.1
   ·exact mU hn'.2 a b ha hb e
def Ik (hp1:Sm p)(hq:Sm q)(e:hp p=hp q):p=q:=mU CP p q (mC hp1) (mC hq) e
def yB {l:List Pr}(hn:l.Nodup)(h:∀p,p∈l->Sm p):l.length<=64:=by
 have:=a9 (m:=qx) hn λx hx=>mC (h x hx)
 simpa[qx] using this
section
variable {prog:Program}{w:World}{A:Around}{E:Value->Shared->Prop}{s:Shared}
abbrev b5 (prog:Program)(w:World)(h:Heap)(p:Pr)(a:Addr):Prop:=IsTupleKey (intKind prog w) h [p.1,p.2] a
def b5.inj (x:b5 prog w h p a)(y:b5 prog w h q a):p=q:=by
 have:=IsTupleKey.inj x y
 simp at this
 exact Prod.ext this.1 this.2
structure uk (f:Pr->Int)(prog:Program)(w:World)(led:Bool)(h:Heap)(S:Addr)(ps:List (Addr×Pr)):Prop where
 ex:∃o ep t,h.get? S=some o/\o.ExactSet/\o.data=.set (ps.map λq=>(f q.2,Value.ref q.1)).toArray ep t/\Tab t (ps.map λq=>f q.2)/\t.led=led
 at':∀q,q∈ps->b5 prog w h q.2 q.1/\Sm q.2
 nd:(ps.map (·.2)).Nodup
def lr (T:Tab t hs)(e:n=hs.length):t.fits n=true:=by
 unfold SetTable.fits SetTable.fill
 have:=T.load'
 simp[T.size,T.dum,e]
 rw[T.size] at this;exact this
def Cy (a:Addr)(wanted:Nat):setRelay a wanted=(do
  let (es,_,t) <-setState a
  if SetTable.sizeAbove wanted > sizeLine then unsupported "set:memory"
  let (es,t) <-(do
   let some (t,order):=t.relaid (es.map (·.1)) wanted |unsupported "internal:set-table-without-room"
   let es':=order.filterMap (es[·]?)
   if es'.size != es.size then unsupported "internal:set-table-lost-an-element"
   pure (es',t))
  storeSet a es t):=rfl
def Bj (a:Addr)(x:Value)(h:Int)(fuel:Nat):setSearchFrom a x h true (fuel + 1) none=(do
  let (es,_,t) <-setState a
  if t.gaveWay then unsupported "set:on-a-table-that-gave-way"
  let some met:=t.probe (λi=>(es[i]?.map (·.1)).getD 0) h (t.probeStart h) |unsupported "internal:set-table-without-an-empty-slot"
  match met with
  | .empty j dummy=>
   match dummy with
   |none=>return .free j false
   |some d=>
    if true && t.slot d != .dummy then rule "set.search.the-dummy-was-taken";return <-setSearchFrom a x h true fuel none
    return .free d true
  | .candidate j i next=>
   if !t.led then
    if <-searchCouldBeSeen x ((es.filter (·.1 == h)).toList.map (·.2)) then unsupported "set:the-search-would-show-the-table"
   let some (_,y):=es[i]? |unsupported "internal:set-entry"
   let equal <-holding [y] (eqBool y x)
   let (es',_,t') <-setState a
   if true && equal then return .there none
   let some same:=t'.sameMemory t.moves t.mask |unsupported "set.changed-during-lookup:is-the-new-block-at-the-old-address"
   let still <-match (if same then t'.slot j else .empty) with
    | .live i'=>match es'[i']? with
     |some (_,y')=>do pure (if <-isSame y' y then some i' else none)
     |none=>pure none
    |_=>pure none
   match still with
   |none=>rule "set.search.anew";setSearchFrom a x h true fuel none
   |some i'=>if equal then return .there (some i') else setSearchFrom a x h true fuel (some next)):=rfl
theorem wI (n:Nat)(h:carriedByValue v=true):ofAClassStatement n v=pure false:=by
 cases v with
 |ref a=>simp[carriedByValue] at h
 |_=>first |rfl | (unfold ofAClassStatement;rfl)
def xJ (n:Nat)(h:(intKind prog w).is k v=true):hashByValue n v=pure true:=by
 obtain⟨t,rfl⟩:=P8 h
 cases n <;> rfl
def nu {Q:Bool->Shared->Prop}(hk:b5 prog w s.heap p a)(h:Q false s):wpAny (model prog w) A (ofAClassStatement 8 (.ref a)) Q E s:=by
 have hT:=hk.typeIs
 obtain⟨o,items,n,ho,hc,hd,hi⟩:=hk
 unfold ofAClassStatement
 refine NV (wpAny_typeOf hT ?_)
 dsimp only
 rw[N1 (by decide)]
 refine NV (N2 ?_)
 simp only[Qx,Oj,OR]
 refine NV (wpAny_seqItems ho hd ?_)
 dsimp only
 refine NV ?_
 rw[<-Array.forIn_toList]
 refine wpAny_forIn_list _ (λrest r s'=>r.1=none/\s'=s/\∀v∈rest,carriedByValue v=true) _ ?_ ?_ _ _ ⟨rfl,rfl,hi.byValue⟩
 ·rintro v rest r s' ⟨hr,rfl,hall⟩
  rw[wI _ (hall v N0)]
  refine NV (N2 ?_)
  simp only[Oj,OR]
  exact N2 ⟨rfl,rfl,λu hu'=>hall u (N5 _ hu')⟩
 ·rintro⟨r1,r2⟩ s' ⟨hr,rfl,_⟩
  simp only at hr
  subst hr
  exact N2 h
def xb {Q:Bool->Shared->Prop}(hk:b5 prog w s.heap p a)(h:Q true s):wpAny (model prog w) A (hashByValue 8 (.ref a)) Q E s:=by
 have hT:=hk.typeIs
 obtain⟨o,items,n,ho,hc,hd,hi⟩:=hk
 unfold hashByValue
 refine NV (wpAny_specialOf hT F.slot_tuple_hash.lookup ?_)
 dsimp only
 refine NV (wpAny_seqItems ho hd ?_)
 simp only[Option.getD_some]
 refine NV ?_
 rw[<-Array.forIn_toList]
 refine wpAny_forIn_list _ (λrest r s'=>r.1=none/\s'=s/\∀v∈rest,∃k,(intKind prog w).is k v=true) _ ?_ ?_ _ _ ⟨rfl,rfl,λv hv=>?_⟩
 ·rintro v rest r s' ⟨hr,rfl,hall⟩
  obtain⟨k,hk⟩:=hall v N0
  rw[xJ _ hk]
  refine NV (N2 ?_)
  simp only[Qx,Oj,OR]
  exact N2 ⟨rfl,rfl,λu hu'=>hall u (N5 _ hu')⟩
 ·rintro⟨r1,r2⟩ s' ⟨hr,rfl,_⟩
  simp only at hr
  subst hr
  exact N2 h
 ·generalize items.toList=l at *
  cases hi with
  |cons h1 hi=>
   cases hi with
   |cons h2 hi=>
    cases hi
    rcases NX.mp hv with rfl |hv
    ·exact⟨_,h1⟩
    ·rcases NX.mp hv with rfl |hv
     ·exact⟨_,h2⟩
     ·cases hv
def xP (hk:b5 prog w s.heap p a):∀(l:List Value) {Q:Bool->Shared->Prop},(∀v∈l,∃q b,v=.ref b/\b5 prog w s.heap q b)->Q false s->wpAny (model prog w) A (searchCouldBeSeen (.ref a) l) Q E s:=by
 intro l Q hl h
 unfold searchCouldBeSeen
 refine NV ?_
 refine wpAny_forIn_list _ (λrest r s'=>r.1=none/\s'=s/\∀v∈rest,∃q b,v=.ref b/\b5 prog w s.heap q b) _ ?_ ?_ _ _ ⟨rfl,rfl,hl⟩
 ·rintro v rest r s' ⟨hr,rfl,hall⟩
  obtain⟨q,b,rfl,hb⟩:=hall v N0
  have hrest:=λu hu'=>hall u (N5 _ hu')
  dsimp only
  split
  ·exact N2 ⟨rfl,rfl,hrest⟩
  ·refine NV (wpAny_eqIsQuiet_tuple hk ?_)
   simp only[Qx,Oj,OR]
   refine NV (wpAny_eqIsQuiet_tuple hb ?_)
   simp only[Qx,Oj,OR]
   refine NV (nu hk ?_)
   simp only[Oj,OR]
   refine NV (nu hb ?_)
   simp only[Oj,OR]
   exact N2 ⟨rfl,rfl,hrest⟩
 ·rintro⟨r1,r2⟩ s' ⟨hr,rfl,_⟩
  simp only at hr
  subst hr
  exact N2 h
end
section
variable {prog:Program}{w:World}{A:Around}{E:Value->Shared->Prop}{s:Shared}
def oK (t:SetTable)(hs:Array Int)(wanted:Nat)(hp:t.plain=true):t.relaid hs wanted=laid (sizeAbove wanted - 1) t.finger (t.movedTo (sizeAbove wanted - 1)) t.led true hs:=by
 unfold relaid;rw[hp]
def D7:sizeAbove (grown 5)=32/\sizeAbove (grown 19)=128:=by decide +kernel
theorem filterMap_get {α:Type}(es:Array α):∀(order:List Nat),(∀k,k∈order->k < es.size)->∃l:List α,order.filterMap (λi=>es[i]?)=l/\l.length=order.length/\(∀(i k:Nat),order[i]? =some k->l[i]? =es[k]?)/\∀x,x∈l->∃k,k∈order/\es[k]? =some x
 | [],_=>⟨[],rfl,rfl,λi k h=>by simp at h,λx hx=>by cases hx⟩
 |k :: r,h=>by
  obtain⟨l,e1,e2,e3,e4⟩:=filterMap_get es r λx hx=>h x (N5 _ hx)
  have hk:=h k (N0 ..)
  refine⟨es[k] :: l,by rw[QR,OD hk,e1],by simp[e2],λi x hi=>?_,λx hx=>?_⟩
  ·cases i with
   |zero=>simp at hi;subst hi;simp[hk]
   |succ i=>simp at hi;simpa using e3 i x hi
  ·rcases NX.mp hx with rfl |hx
   ·exact⟨k,N0 ..,by simp[hk]⟩
   ·obtain⟨y,hy,q⟩:=e4 x hx
    exact⟨y,N5 _ hy,q⟩
abbrev fg (f:Pr->Int)(q:Addr×Pr):Int×Value:=(f q.2,Value.ref q.1)
def uz (f:Pr->Int){mask:Nat}(hm:BL mask){ps:List (Addr×Pr)}(hl:ps.length * 5 < mask * 3)(finger moves:Nat)(led:Bool) :
  ∃(t:SetTable) (order:Array Nat) (ps':List (Addr×Pr)),laid mask finger moves led true ((ps.map (fg f)).toArray.map (·.1))=some (t,order)/\order.filterMap (λi=>(ps.map (fg f)).toArray[i]?)=(ps'.map (fg f)).toArray/\ps'.length=ps.length/\
   (∀q,q∈ps'↔q∈ps)/\Tab t (ps'.map λq=>f q.2)/\t.led=led:=by
 obtain⟨t,order,e,el,em,nd,mem,T⟩:=su hm ((ps.map (fg f)).toArray.map (·.1)) (by simpa using hl) finger moves led
 have hsz:((ps.map (fg f)).toArray.map (·.1)).size=ps.length:=by simp
 obtain⟨ps',f1,f2,f3,f4⟩:=filterMap_get ps.toArray order.toList λk hk=>by
  have:=(mem k).mp hk;rw[hsz] at this;simpa using this
 have hlen:order.toList.length=ps.length:=by
  have a1:=a9 (m:=List.range ps.length) nd λx hx=>Og.mpr (by have:=(mem x).mp hx;rwa [hsz] at this)
  have a2:=a9 (l:=List.range ps.length) (m:=order.toList) PX λx hx=>(mem x).mpr (by rw[hsz];exact Og.mp hx)
  simp at a1 a2 ⊢;omega
 refine⟨t,order,ps',e,?_,by omega,λq=>⟨λhq=>?_,λhq=>?_⟩,?_,el⟩
 ·apply Array.toList_inj.mp
  rw[Array.toList_filterMap,<-f1]
  simp only[O4]
  rw[List.map_filterMap]
  congr 1
  funext i
  simp
 ·obtain⟨k,_,q2⟩:=f4 q hq
  rw[P4] at q2
  exact Ob q2
 ·obtain⟨k,hk,q2⟩:=ON.mp hq
  have hko:k∈order.toList:=(mem k).mpr (by rw[hsz];exact hk)
  obtain⟨i,hi,e2⟩:=ON.mp hko
  have:=f3 i k (by rw[NW hi,e2])
  rw[P4,NW hk,q2] at this
  exact Ob this
 ·have:(order.toList.map λk=>((ps.map (fg f)).toArray.map (·.1)).toList.getD k 0)=ps'.map λq=>f q.2:=by
   apply QG
   intro i
   rw[Oa,Oa]
   cases hi:order.toList[i]? with
   |none=>
    have:ps'[i]? =none:=Qq.mpr (by rw[f2];exact Qq.mp hi)
    rw[this];rfl
   |some k=>
    have hk:k < ps.length:=by have:=(mem k).mp (Ob hi);rwa [hsz] at this
    have:=f3 i k hi
    rw[P4,NW hk] at this
    rw[this]
    simp[hk]
  rw[<-this];exact T
theorem oQ:∀{l m:List Int},m.Nodup->(∀x,x∈m->x∈l)->l.length<=m.length->l.Nodup
 | [],_,_,_,_=>P5
 |a :: l,m,hn,hs,hl=>by
  by_cases ha:a∈m
  ·have hnot:a∉l:=λz=>by
    have:=a9 (m:=l) hn λx hx=>by
     rcases NX.mp (hs x hx) with e |e
     ·rw[e];exact z
     ·exact e
    simp only[Ol] at hl;omega
   refine Ov.mpr ⟨hnot,oQ (m:=m.erase a) (hn.erase a) (λx hx=>?_) ?_⟩
   ·have:=(hn.mem_erase_iff).mp hx
    rcases NX.mp (hs x this.2) with e |e
    ·exact absurd e this.1
    ·exact e
   ·rw[QY ha];simp only[Ol] at hl;omega
  ·have:=a9 (m:=l) hn λx hx=>by
    rcases NX.mp (hs x hx) with e |e
    ·exact absurd (e▸hx) ha
    ·exact e
   simp only[Ol] at hl;omega
def uO (a:Addr)(es:Array (Int×Value)):byScan (.ref a) es=false:=by unfold byScan Value.scannable;simp
def yH {t:SetTable}(h:BL t.mask):t.gaveWay=false:=by
 unfold SetTable.gaveWay
 rcases h with e |e |e <;> rw[e] <;> decide
def uk.add {f:Pr->Int}(hinj:∀p q,Sm p->Sm q->f p=f q->p=q){led:Bool}{S a:Addr}{ps:List (Addr×Pr)}{p:Pr}{Q:Bool->Shared->Prop}(P:uk f prog w led s.heap S ps)(hk:b5 prog w s.heap p a)(hs:Sm p)(hu:A.units < cLine)
  (h:∀(b:Bool) (h':Heap) (ps':List (Addr×Pr)),Heap.SameBut S s.heap h'->uk f prog w led h' S ps'->(∀q,q∈ps'->q∈ps\/q=(a,p))->(∀q,q∈ps->q∈ps')->(∃q,q∈ps'/\q.2=p)->Q b {s with heap:=h'}) :
  wpAny (model prog w) A (setAddHashed S (.ref a) (f p)) Q E s:=by
 obtain⟨o,ep,t,ho,hex,hd,T,hled⟩:=P.ex
 have hfit:t.fits (ps.map (fg f)).toArray.size=true:=lr T (by simp)
 have ha:∀i,i < (ps.map λq=>f q.2).length->some ((((ps.map (fg f)).toArray)[i]?.map (·.1)).getD 0)=(ps.map λq=>f q.2)[i]?:=λi hi=>by
  have hi':i < ps.length:=by simpa using hi
  simp[hi']
 unfold setAddHashed
 refine O3 ?_
 unfold setAddHashedIn
 refine NV (OY ho hd hfit ?_)
 dsimp only
 rw[uO]
 simp only[Oj,OR]
 unfold setSearch
 rw[Bj]
 refine NV (NV (OY ho hd hfit ?_))
 dsimp only
 rw[yH T.mask]
 simp only[Oj,OR]
 by_cases hm:f p∈ps.map λq=>f q.2
 ·
  obtain⟨j,i,nx,e1,e2,e3,e4⟩:=T.present ha hm
  rw[e1]
  dsimp only
  have hi:i < ps.length:=by simpa using e3
  have e5:f (ps[i].2)=f p:=by
   rw[Oa,NW hi] at e4
   simpa using e4
  have hq:=P.at' ps[i] (Pu hi)
  have e6:ps[i].2=p:=hinj _ _ hq.2 hs e5
  have hget:((ps.map (fg f)).toArray)[i]? =some (f ps[i].2,.ref ps[i].1):=by simp[hi]
  have rest:wpAny (model prog w) A (do
    let some (_,y):=((ps.map (fg f)).toArray)[i]? |unsupported "internal:set-entry"
    let equal <-holding [y] (eqBool y (.ref a))
    let (es',_,t') <-setState S
    if true && equal then return SetFound.there none
    let some same:=t'.sameMemory t.moves t.mask |unsupported "set.changed-during-lookup:is-the-new-block-at-the-old-address"
    let still <-match (if same then t'.slot j else .empty) with
     | .live i'=>match es'[i']? with
      |some (_,y')=>do pure (if <-isSame y' y then some i' else none)
      |none=>pure none
     |_=>pure none
    match still with
    |none=>rule "set.search.anew";setSearchFrom S (.ref a) (f p) true 99999 none
    |some i'=>if equal then return .there (some i') else setSearchFrom S (.ref a) (f p) true 99999 (some nx))
    (λr s'=>s'=s/\r=.there none) E s:=by
   rw[hget]
   dsimp only
   refine NV (O3 (wpAny_eqBool_tuple hu hq.1 hk ?_))
   rw[N3 (by rw[e6])]
   refine NV (OY ho hd hfit ?_)
   dsimp only
   simp only[Bool.and_self,O7]
   exact N2 ⟨rfl,rfl⟩
  have fin:∀r s',s'=s/\r=SetFound.there none->wpAny (model prog w) A (match r with
    | .free slot wasDummy=>(do
     let (es,_,t) <-setState S
     let (t,p'):=t.put slot
     let byValue <-if t.plain then hashByValue 8 (.ref a) else pure true
     let t:=if byValue then t else {t with plain:=false}
     storeSet S (SetTable.insertAt es p' (f p,.ref a)) t
     if !wasDummy && t.tooFull then setRelay S (SetTable.grown (es.size + 1))
     return true)
    |_=>pure false) Q E s':=by
   rintro r s' ⟨rfl,rfl⟩
   exact N2 (h false s'.heap ps (Heap.SameBut.refl ..) P (λq hq=>.inl hq) (λq hq=>hq) ⟨ps[i],Pu hi,e6⟩)
  cases hl:led with
  |true=>
   rw[hled,hl]
   simp only[Qx,Oj,OR]
   exact PR rest (λr s' hr=>fin r s' hr) λ_ _ x=>x
  |false=>
   rw[hled,hl]
   simp only[Bool.not_false,O7]
   refine NV (xP hk _ (λv hv=>?_) ?_)
   ·obtain⟨x,hx,rfl⟩:=N7.mp hv
    have hx':x∈(ps.map (fg f)).toArray:=(Array.mem_filter.mp (Qp.mp hx)).1
    have hx2:x∈ps.map (fg f):=by simpa using hx'
    obtain⟨q,hq,rfl⟩:=N7.mp hx2
    exact⟨q.2,q.1,rfl,(P.at' q hq).1⟩
   ·simp only[Oj,OR]
    exact PR rest (λr s' hr=>fin r s' hr) λ_ _ x=>x
 ·
  obtain⟨j,e1,e2,e3,e4⟩:=T.absent ha hm
  rw[e1]
  dsimp only
  refine N2 ?_
  dsimp only
  refine NV (OY ho hd hfit ?_)
  dsimp only
  obtain⟨q1,q2⟩:=nO t j T.dum
  have hpl:(t.put j).1.plain=true:=by rw[q1];exact T.plain
  rw[hpl]
  simp only[O7]
  refine NV (xb hk ?_)
  simp only[O7]
  have hb:(t.put j).2<=ps.length:=by
   rw[q2]
   have:=(cz T.rise j).1
   rw[T.size] at this;simpa using this
  have hins:insertAt (ps.map (fg f)).toArray (t.put j).2 (f p,Value.ref a)=((ps.take (t.put j).2 ++ (a,p) :: ps.drop (t.put j).2).map (fg f)).toArray:=by
   apply Array.toList_inj.mp
   rw[bJ _ _ _ (by simpa using hb)]
   simp[map_take,map_drop]
  rw[hins]
  generalize hps':ps.take (t.put j).2 ++ (a,p) :: ps.drop (t.put j).2=ps1
  have mem1:∀q,q∈ps1↔q∈ps\/q=(a,p):=λq=>by
   rw[<-hps',Of,NX]
   conv=>rhs;rw[<-PB (t.put j).2 ps,Of]
   constructor
   ·rintro (z |z |z)
    ·exact .inl (.inl z)
    ·exact .inr z
    ·exact .inl (.inr z)
   ·rintro ((z |z) |z)
    ·exact .inl z
    ·exact .inr (.inr z)
    ·exact .inr (.inl z)
  have len1:ps1.length=ps.length + 1:=by rw[<-hps'];simp;omega
  have nd1:(ps1.map (·.2)).Nodup:=by
   have hnot:p∉ps.map (·.2):=λz=>by
    obtain⟨q,hq,e⟩:=N7.mp z
    exact hm (N7.mpr ⟨q,hq,by rw[e]⟩)
   have perm:(ps1.map (·.2)).Perm (p :: ps.map (·.2)):=by
    rw[<-hps']
    have:(ps.take (t.put j).2 ++ (a,p) :: ps.drop (t.put j).2).Perm ((a,p) :: ps):=by
     refine List.perm_middle.trans ?_
     rw[PB]
    exact this.map (·.2)
   exact perm.nodup_iff.mpr (Ov.mpr ⟨hnot,P.nd⟩)
  have ne:∀b q,b5 prog w s.heap q b->b≠S:=λb q ⟨o',_,_,ho',_,hd',_⟩ e=>by
   subst e
   rw[ho] at ho';cases ho'
   rw[hd] at hd';cases hd'
  have at1:∀{h':Heap},Heap.SameBut S s.heap h'->∀q,q∈ps1->b5 prog w h' q.2 q.1/\Sm q.2:=λ{h'} hsb q hq=>by
   have key:∀{b:Addr} {q:Pr},b5 prog w s.heap q b->b5 prog w h' q b:=λ{b q} hb=>by
    have hne:=ne b q hb
    obtain⟨o',i',n',ho',r'⟩:=hb
    exact⟨o',i',n',(hsb.2 b hne).trans ho',r'⟩
   rcases (mem1 q).mp hq with z |z
   ·exact⟨key (P.at' q z).1,(P.at' q z).2⟩
   ·subst z;exact⟨key hk,hs⟩
  have hlen64:ps1.length<=64:=by
   have:=yB nd1 λx hx=>by
    obtain⟨q,hq,rfl⟩:=N7.mp hx
    exact (at1 (Heap.SameBut.refl ..) q hq).2
   simpa using this
  have hsize:((ps1.map (fg f)).toArray).size<=sizeLine:=by rw[Oo];simp;omega
  refine NV (Ri ho hd ?_ hsize)
  have ho1:(s.heap.update S (Obj.putSet (ps1.map (fg f)).toArray (t.put j).1)).get? S=some {o with data:=.set (ps1.map (fg f)).toArray (ep + 1) (t.put j).1}:=by
   have:=OT (Obj.putSet (ps1.map (fg f)).toArray (t.put j).1) ho (by rw[Q0 _ _ hd];rfl)
   rw[Q0 _ _ hd] at this;exact this
  have sb1:=Heap.SameBut.update s.heap S (Obj.putSet (ps1.map (fg f)).toArray (t.put j).1)
  have hex1:({o with data:=.set (ps1.map (fg f)).toArray (ep + 1) (t.put j).1}:Obj).ExactSet:=hex
  have psz:(t.put j).1.place.size=ps.length + 1:=by
   rw[q1]
   show (insertAt t.place (below t.place j) j).size=_
   rw[<-Qs,bJ _ _ _ (cz T.rise j).1]
   have:=T.size
   simp at this ⊢
   have:=(cz T.rise j).1
   omega
  have dum1:(t.put j).1.dummies=#[]:=by rw[q1];exact T.dum
  have mask1:(t.put j).1.mask=t.mask:=by rw[q1]
  have tsz:t.place.size=ps.length:=by simpa using T.size
  simp only[Bool.not_false,Bool.true_and]
  cases htf:(t.put j).1.tooFull with
  |false=>
   simp only[Oj,OR]
   have hload:(t.place.size + 1) * 5 < t.mask * 3:=by
    unfold SetTable.tooFull SetTable.fill at htf
    rw[psz,dum1,mask1] at htf
    simp at htf
    rw[tsz];exact htf
   obtain⟨T1,_⟩:=T.put e2 e3 e4 hload
   refine NV (N2 (N2 (h true _ ps1 sb1 ⟨⟨_,ep + 1,_,ho1,hex1,rfl,?_,?_⟩,at1 sb1,nd1⟩ (λq hq=>(mem1 q).mp hq) (λq hq=>(mem1 q).mpr (.inl hq)) ⟨(a,p),(mem1 _).mpr (.inr rfl),rfl⟩)))
   ·rw[<-hps']
    simpa[map_take,map_drop] using T1
   ·rw[q1];exact hled
  |true=>
   simp only[O7]
   have hfull:t.mask * 3<=(ps.length + 1) * 5:=by
    unfold SetTable.tooFull SetTable.fill at htf
    rw[psz,dum1,mask1] at htf
    simpa using htf
   have hload:=T.load
   rw[tsz] at hload
   have hcase:∃mask',BL mask'/\sizeAbove (grown (ps.length + 1)) - 1=mask'/\sizeAbove (grown (ps.length + 1))<=sizeLine/\(ps.length + 1) * 5 < mask' * 3:=by
    rcases T.mask with e |e |e
    ·have:ps.length + 1=5:=by rw[e] at hfull hload;omega
     rw[this,D7.1]
     exact⟨31,.inr (.inl rfl),rfl,by rw[Oo];decide,by decide⟩
    ·have:ps.length + 1=19:=by rw[e] at hfull hload;omega
     rw[this,D7.2]
     exact⟨127,.inr (.inr rfl),rfl,by rw[Oo];decide,by decide⟩
    ·rw[e] at hfull;omega
   obtain⟨mask',hm3,em,hline,hl2⟩:=hcase
   have hes:(ps.map (fg f)).toArray.size + 1=ps.length + 1:=by simp
   rw[hes,Cy]
   have hfit1:(t.put j).1.fits ((ps1.map (fg f)).toArray).size=true:=by
    unfold SetTable.fits SetTable.fill
    have hpl2:ps.length + 1<=t.mask:=by
     rcases T.mask with e |e |e <;> rw[e] at hload ⊢ <;> omega
    rw[psz,dum1,mask1]
    simp[len1,hpl2]
   refine NV (NV (OY ho1 rfl hfit1 ?_))
   dsimp only
   rw[N8 (by omega)]
   rw[oK _ _ _ hpl,em]
   obtain⟨t2,order,ps2,g1,g2,g3,g4,g5,g6⟩:=uz f hm3 (ps:=ps1) (by rw[len1];exact hl2) (t.put j).1.finger ((t.put j).1.movedTo mask') (t.put j).1.led
   rw[g1]
   simp only[bind_pure_comp,pure_bind]
   rw[g2]
   have hne:((ps2.map (fg f)).toArray.size != (ps1.map (fg f)).toArray.size)=false:=by simp[g3]
   rw[hne]
   simp only[Oj,OR]
   have hsize2:((ps2.map (fg f)).toArray).size<=sizeLine:=by rw[Oo];simp;omega
   refine NV (N2 ?_)
   refine Ri ho1 rfl ?_ hsize2
   have ho2:((s.heap.update S (Obj.putSet (ps1.map (fg f)).toArray (t.put j).1)).update S (Obj.putSet (ps2.map (fg f)).toArray t2)).get? S=some {o with data:=.set (ps2.map (fg f)).toArray (ep + 1 + 1) t2}:=by
    have:=OT (Obj.putSet (ps2.map (fg f)).toArray t2) ho1 (by rw[Q0 (ep:=ep + 1) _ _ rfl];rfl)
    rw[Q0 (ep:=ep + 1) _ _ rfl] at this;exact this
   have sb2:=sb1.trans (Heap.SameBut.update _ S (Obj.putSet (ps2.map (fg f)).toArray t2))
   have nd2:(ps2.map (·.2)).Nodup:=by
    have hmem:∀q,q∈ps2.map (·.2)↔q∈ps1.map (·.2):=λq=>by
     rw[N7,N7]
     exact⟨λ⟨x,hx,e⟩=>⟨x,(g4 x).mp hx,e⟩,λ⟨x,hx,e⟩=>⟨x,(g4 x).mpr hx,e⟩⟩
    have hnd:(ps2.map λq=>f q.2).Nodup:=by
     refine oQ (m:=ps1.map λq=>f q.2) ?_ (λx hx=>?_) (by simp[g3])
     ·have:(ps1.map λq=>f q.2)=(ps1.map (·.2)).map f:=by simp
      rw[this]
      refine OP.mpr (OH ?_ nd1)
      intro x y hx hy hxy e
      obtain⟨q,hq,rfl⟩:=N7.mp hx
      obtain⟨r,hr,rfl⟩:=N7.mp hy
      exact hxy (hinj _ _ (at1 sb1 q hq).2 (at1 sb1 r hr).2 e)
     ·obtain⟨q,hq,rfl⟩:=N7.mp hx
      exact N7.mpr ⟨q,(g4 q).mpr hq,rfl⟩
    have:(ps2.map λq=>f q.2)=(ps2.map (·.2)).map f:=by simp
    rw[this] at hnd
    exact (OP.mp hnd).imp λhxy e=>hxy (by rw[e])
   refine N2 (h true _ ps2 sb2 ⟨⟨_,ep + 1 + 1,t2,ho2,hex,rfl,g5,?_⟩,λq hq=>at1 sb2 q ((g4 q).mp hq),nd2⟩ (λq hq=>(mem1 q).mp ((g4 q).mp hq)) (λq hq=>(g4 q).mpr ((mem1 q).mpr (.inl hq))) ⟨(a,p),(g4 _).mpr ((mem1 _).mpr (.inr rfl)),rfl⟩)
   rw[g6,q1];exact hled
end
def dB (w:World):Bool:= !(w.params.followText "set-order")
def BR (prog:Program)(w:World)(p:Pr):Int:=tupleKeyHash (intKind prog w) [p.1,p.2]
def FN (prog:Program)(w:World):∀p q,Sm p->Sm q->BR prog w p=BR prog w q->p=q:=λp q h1 h2 e=>Ik h1 h2 e
section
variable {prog:Program}{w:World}{A:Around}{E:Value->Shared->Prop}{s:Shared}{R:Result->Shared->Prop}{I:Addr}{fp wr:List Addr}{n:Nat}{P:Nat->Value->Prop}{St:Nat->Heap->Prop}
def dP (prog:Program)(w:World)(h:Heap)(vs:List Value)(ps:List Pr):Prop:=vs.length=ps.length/\∀(i:Nat) (v:Value) (p:Pr),vs[i]? =some v->ps[i]? =some p->∃a,v=.ref a/\b5 prog w h p a/\Sm p
abbrev pk (prog:Program)(w:World)(h:Heap)(S:Addr)(vs:List Value)(ps:List Pr)(k:Nat):Prop:=∃qs:List (Addr×Pr),uk (BR prog w) prog w (dB w) h S qs/\
 (∀q,q∈qs->Value.ref q.1∈vs.take k/\q.2∈ps.take k)/\∀p,p∈ps.take k->p∈qs.map (·.2)
theorem mW (W:Walks prog w A.in1 I fp wr n P St)(S:Addr)(hSf:S∉fp){ps:List Pr}(hn:vs.length=n)(hP:∀i v,P i v->vs[i]? =some v)(hu:A.in1.units < cLine)(h₀:Heap)
  (hps:dP prog w h₀ vs ps) (hwr:∀b o,b∈S :: wr->h₀.get? b=some o->False):∀(k i:Nat) (s:Shared),n - i=k->i<=n->St i s.heap->(∀b o,h₀.get? b=some o->s.heap.get? b=some o)->pk prog w s.heap S vs ps i->
   (∀h' tk,(∀b o,b∉S :: wr->s.heap.get? b=some o->h'.get? b=some o)->pk prog w h' S vs ps n->R (.ok (.ret .none)) {s with heap:=h',toks:=tk})->
   codeAny (model prog w) A (.builtin "set.update.loop" ⟨[.ref S,.ref I],[]⟩) R s:=by
 have nw:S∉wr:=λh=>hSf (W.sub _ h)
 intro k
 induction k with
 |zero=>
  intro i s hk hi hst hk0 hF hR
  obtain rfl:i=n:=by omega
  refine Pb PD ?_
  rw[PH OZ _]
  show wpAny _ A.in1 (pyNext (.ref I) >>= λr=>_) _ _ s
  refine NV (W.done s _ _ hst λh' tk hm=>?_)
  show wpAny _ A.in1 (ret Value.none) _ _ _
  refine N2 (hR h' tk (λb o hb e=>hm b o (λz=>hb (N5 _ z)) e) ?_)
  obtain⟨qs,Q1,Q2,Q3⟩:=hF
  obtain⟨o,ep,t,ho,r⟩:=Q1.ex
  refine⟨qs,⟨⟨o,ep,t,hm S o nw ho,r⟩,λq hq=>⟨?_,(Q1.at' q hq).2⟩,Q1.nd⟩,Q2,Q3⟩
  obtain⟨m,hm1,hm2⟩:=ON.mp (PJ (Q2 q hq).1)
  have hm1':m < ps.length:=by rw[<-hps.1];exact hm1
  obtain⟨a,ea,ha,_⟩:=hps.2 m vs[m] ps[m] (NW hm1) (NW hm1')
  rw[hm2] at ea
  cases ea
  obtain⟨o',it',n',ho',r'⟩:=(Q1.at' q hq).1
  obtain⟨o2,it2,n2,ho2,r2⟩:=ha
  have:o'=o2:=Option.some.inj (ho'.symm.trans (hk0 _ _ ho2))
  subst this
  exact⟨o',it',n',hm _ _ (λz=>hwr _ _ (N5 _ z) ho2) ho',r'⟩
 |succ k ih=>
  intro i s hk hi hst hk0 hF hR
  have hlt:i < n:=by omega
  refine Pb PD ?_
  rw[PH OZ _]
  show wpAny _ A.in1 (pyNext (.ref I) >>= λr=>_) _ _ s
  refine NV (W.item i s _ _ hlt hst λv h1 tk1 hv hst1 hm=>?_)
  have hvi:=hP i v hv
  have hip:i < ps.length:=by rw[<-hps.1,hn];exact hlt
  obtain⟨a,rfl,ha,hsm⟩:=hps.2 i v ps[i] hvi (NW hip)
  have k1:∀b o,h₀.get? b=some o->h1.get? b=some o:=λb o e=>hm b o (λz=>hwr b o (N5 _ z) e) (hk0 b o e)
  obtain⟨qs,Q1,Q2,Q3⟩:=hF
  have old:∀{q:Addr×Pr} {h:Heap},q∈qs->(∀b o,h₀.get? b=some o->h.get? b=some o)->b5 prog w h q.2 q.1:=λ{q h} hq kk=>by
   obtain⟨m,hm1,hm2⟩:=ON.mp (PJ (Q2 q hq).1)
   have hm1':m < ps.length:=by rw[<-hps.1];exact hm1
   obtain⟨a,ea,ha,_⟩:=hps.2 m vs[m] ps[m] (NW hm1) (NW hm1')
   rw[hm2] at ea
   cases ea
   obtain⟨o',it',n',ho',r'⟩:=(Q1.at' q hq).1
   obtain⟨o2,it2,n2,ho2,r2⟩:=ha
   have:o'=o2:=Option.some.inj (ho'.symm.trans (hk0 _ _ ho2))
   subst this
   exact⟨o',it',n',kk _ _ ho2,r'⟩
  have P1:uk (BR prog w) prog w (dB w) h1 S qs:=by
   obtain⟨o,ep,t,ho,r⟩:=Q1.ex
   exact⟨⟨o,ep,t,hm S o nw ho,r⟩,λq hq=>⟨old hq k1,(Q1.at' q hq).2⟩,Q1.nd⟩
  have ha1:b5 prog w h1 ps[i] a:=by
   obtain⟨o',it',n',ho',r'⟩:=ha
   exact⟨o',it',n',k1 _ _ ho',r'⟩
  show wpAny _ A.in1 (holding [Value.ref a] (setAdd S (.ref a)) >>= λ_=>_) _ _ _
  refine NV (O3 ?_)
  unfold setAdd
  refine O3 (NV (wpAny_pyHash_tuple hu ha1 ?_))
  refine uk.add (FN prog w) (s:={s with heap:=h1,toks:=tk1 + ([ps[i].1,ps[i].2].length + 1)}) P1 ha1 hsm hu λb h2 qs' sb P2 m1 m2 m3=>?_
  have sbS:∀b o,h₀.get? b=some o->h2.get? b=some o:=λb o e=>(sb.2 b (λz=>hwr b o (by rw[z];exact N0) e)).trans (k1 b o e)
  refine N2 ⟨plainId_quiet OZ _,ih (i + 1) _ (by omega) hlt (W.frame _ _ _ hst1 λb hb o e=>?_) sbS ⟨qs',P2,λq hq=>?_,λp hp=>?_⟩ λh' tk hm' F'=>?_⟩
  ·rw[sb.2 b λz=>hSf (by rw[<-z];exact hb)];exact e
  ·have htk:∀{α:Type} {l:List α} {x:α},x∈l.take i->x∈l.take (i + 1):=λ{α l x} hx=>by
    rw[Pj];exact Pa _ hx
   rcases m1 q hq with z |z
   ·exact⟨htk (Q2 q z).1,htk (Q2 q z).2⟩
   ·subst z
    refine⟨?_,?_⟩
    ·rw[Pj,hvi];exact Ox _ (by simp)
    ·rw[Pj,NW hip];exact Ox _ (by simp)
  ·rw[Pj,NW hip] at hp
   rcases Of.mp hp with z |z
   ·obtain⟨q,hq,rfl⟩:=N7.mp (Q3 p z)
    exact N7.mpr ⟨q,m2 q hq,rfl⟩
   ·have:p=ps[i]:=by simpa using z
    obtain⟨q,hq,e⟩:=m3
    exact N7.mpr ⟨q,hq,by rw[e,this]⟩
  ·refine hR h' tk (λb o hb e=>hm' b o hb ?_) F'
   show h2.get? b=some o
   rw[sb.2 b λz=>hb (by rw[z];exact N0)]
   exact hm b o (λz=>hb (N5 _ z)) e
def lB (a:Value){Q1:Value->Shared->Prop}
  (h:Q1 (.ref s.heap.objs.size) {s with heap:=s.heap.push {cls:=.type "set",dict:=none,data:=.set #[] 0 (.fresh 0 0 (dB w))}}) :
  codeAny (model prog w) A (.call (.builtin "set.__new__") ⟨[.type "set",a],[]⟩) (wants Q1 E) s:=by
 refine codeAny_of_tree ?_
 show wpAny _ A.in1 (do (checkBuiltinCall "set.__new__" ⟨[.type "set",a],[]⟩);again (.builtin "set.__new__" ⟨[.type "set",a],[]⟩)) _ _ s
 refine NV (wpAny_of_eq (F.newCall_set_1 a) (N2 ⟨plainId_quiet F.plain_set_new _,Pb F.entry_set_new ?_⟩))
 rw[PH F.plain_set_new _]
 (unfold Builtin.«set.__new__» Builtin.Frozenset.newClass)
 have hsub0:=sub_set_self
 obtain⟨hp0,g0,d0,tk0,os0⟩:=s
 dsimp only
 wp_walk
 (refine QN (N2 ?_))
 dsimp only
 simp only[newObj]
 (refine NV (wpAny_alloc (N2 ?_)))
 exact N2 h
def sv (led:Bool):Tab (.fresh 0 0 led) []:=
 ⟨.inl rfl,rfl,List.Pairwise.nil,λj h=>(by cases (Qp.mpr h)),rfl,(by show (0:Nat) * 5 < 7 * 3;decide),λi j h e=>(by simp[SetTable.fresh] at e),rfl⟩
structure Src (prog:Program)(w:World)(h:Heap)(l:Addr)(vs:List Value)(T:String)(itO:Obj)(St:Addr->Nat->Heap->Prop):Prop where
 ty:∃o,h.get? l=some o/\o.cls=.type T
 ns:isSubtype (.type T) (.type "set")=pure false
 nf:isSubtype (.type T) (.type "frozenset")=pure false
 nd:(Value.type T == Value.type "dict")=false
 it:∀(A:Around) (s1:Shared) (Q:Value->Shared->Prop) (E:Value->Shared->Prop),(∀b o,h.get? b=some o->s1.heap.get? b=some o)->Q (.ref s1.heap.objs.size) {s1 with heap:=s1.heap.push itO}->wpAny (model prog w) A (pyIter (.ref l)) Q E s1
 st:∀(h1:Heap),(∀b o,h.get? b=some o->h1.get? b=some o)->St h1.objs.size 0 (h1.push itO)
 wk:∀(A:Around) (I:Addr),A.handled=none->l≠I->Walks prog w A I [I,l] [I] vs.length (λi v=>vs[i]? =some v) (St I)
def Src.list (hl:h.IsList l vs.toArray):Src prog w h l vs "list" {cls:=.type "list_iterator",data:=.fields #[.ref l,.int 0 0]} (λI i h'=>h'.IsListIter I l i/\h'.IsList l vs.toArray):=by
 obtain⟨o,ho,hc,n,hd⟩:=id hl
 refine⟨⟨o,ho,hc⟩,F.sub_list_set,F.sub_list_frozenset,by decide,λA s1 Q E k hQ=>QE ⟨o,k _ _ ho,hc,n,hd⟩ hQ,λh1 k=>⟨⟨_,Od _ rfl,rfl,rfl⟩,⟨o,NY _ (k _ _ ho),hc,n,hd⟩⟩,λA I hh hne=>?_⟩
 have:=Walks.list (prog:=prog) (w:=w) hh I l hne vs.toArray
 simpa using this
def sub_tuple_set:isSubtype (.type "tuple") (.type "set")=pure false:=by rw[Rf];kernel_rfl
def sub_tuple_frozenset:isSubtype (.type "tuple") (.type "frozenset")=pure false:=by rw[Rf];kernel_rfl
def Src.tuple (hl:h.IsTuple l vs.toArray):Src prog w h l vs "tuple" {cls:=.type "tuple_iterator",data:=.fields #[.ref l,.int 0 0]} (λI i h'=>h'.IsTupleIter I l i/\h'.IsTuple l vs.toArray):=by
 obtain⟨o,ho,hc,n,hd⟩:=id hl
 refine⟨⟨o,ho,hc⟩,sub_tuple_set,sub_tuple_frozenset,by decide,λA s1 Q E k hQ=>QA ⟨o,k _ _ ho,hc,n,hd⟩ hQ,λh1 k=>⟨⟨_,Od _ rfl,rfl,rfl⟩,⟨o,NY _ (k _ _ ho),hc,n,hd⟩⟩,λA I hh hne=>?_⟩
 have:=Walks.tuple (prog:=prog) (w:=w) hh I l hne vs.toArray
 simpa using this
set_option maxHeartbeats 3200000 in
theorem p0 {St:Addr->Nat->Heap->Prop}{Q:Value->Shared->Prop}(X:Src prog w s.heap l vs T itO St)(hh:A.handled=none)(hu:A.units + 64 < cLine)(hps:dP prog w s.heap vs ps)
  (h:∀(h':Heap) (tk:Nat),pk prog w h' s.heap.objs.size vs ps vs.length->(∀b o,s.heap.get? b=some o->h'.get? b=some o)->Q (.ref s.heap.objs.size) {s with heap:=h',toks:=tk}) :
  wpAny (model prog w) A (call (.type "set") [.ref l]) Q E s:=by
 obtain⟨c0,tl0,hmro0⟩:=OI.mro
 have hmade0:=OI.made
 have hsub0:=OI.sub
 refine wpAny_call (codeAny_of_tree ?_)
 show wpAny _ _ (callAny (.type "set") ⟨[.ref l],[]⟩) _ _ _
 refine N2 ⟨Q4 _ (by decide +kernel),Pb F.entry_type_call ?_⟩
 (rw[Around.under_plain (weight_type_call_type "set" [.ref l] []) rfl])
 have g1:=OI.notType
 have g2:=OI.canCreate
 have g3:=F.typeCall_set_1 (.ref l)
 repeat (any_goals (first |assumption |wp_step))
 refine P6 (lB (.ref l) (E:=E) (Q1:=λobj s1=>obj=.ref s.heap.objs.size/\s1={s with heap:=s.heap.push {cls:=.type "set",dict:=none,data:=.set #[] 0 (.fresh 0 0 (dB w))}}) ⟨rfl,rfl⟩) λr s1 hr=>?_
 cases r with
 |error e=>exact hr
 |ok fl=>
  cases fl with
  |ret obj=>
   obtain⟨rfl,rfl⟩:=hr
   generalize hO:({cls:=.type "set",dict:=none,data:=.set #[] 0 (.fresh 0 0 (dB w))}:Obj)=O
   have hS0:(s.heap.push O).get? s.heap.objs.size=some O:=Od _ (by rw[<-hO];rfl)
   have hT0:Shared.TypeIs {s with heap:=s.heap.push O} (.ref s.heap.objs.size) "set":=⟨_,hS0,by rw[<-hO]⟩
   have g4:=OI.init.lookup
   have g5:=OI.init.bind (.ref s.heap.objs.size)
   repeat (any_goals (first |assumption |wp_step))
   refine P6 (codeAny_call_builtin (R:=wants (λr s2=>r=.none/\∃h' tk,s2={s with heap:=h',toks:=tk}/\pk prog w h' s.heap.objs.size vs ps vs.length/\(∀b o,s.heap.get? b=some o->h'.get? b=some o)) E)
    OI.init.plain F.entry_set_init (check_set_init_1 hT0 ?_)) λr2 s2 hr2=>?_
   ·obtain⟨ol,hol,hcl⟩:=X.ty
    have hol':(s.heap.push O).get? l=some ol:=NY _ hol
    have e1:=X.ns
    have e2:=X.nf
    have e3:=X.nd
    have hTl:Shared.TypeIs {s with heap:=s.heap.push O} (.ref l) T:=⟨ol,hol',hcl⟩
    have hdat:O.data=.set #[] 0 (.fresh 0 0 (dB w)):=by rw[<-hO]
    (unfold Builtin.«set.__init__» noKeywords Builtin.Frozenset.updateFrom)
    subst hO
    obtain⟨oc,od,odt,osl⟩:=ol
    simp only at hcl
    subst hcl
    (generalize hPI0:pyIter=PI0)
    wp_walk
    subst hPI0
    have kp:∀b o,s.heap.get? b=some o->(s.heap.push {cls:=.type "set",dict:=none,data:=.set #[] 0 (.fresh 0 0 (dB w))}).get? b=some o:=λb o e=>NY _ e
    refine X.it _ _ _ _ kp ?_
    refine NV (Rg ?_)
    have hlS:l < s.heap.objs.size:=Oc hol
    have hh3:A.in1.in1.in1.handled=none:=by simp[hh]
    have hneI:l≠(s.heap.push {cls:=.type "set",dict:=none,data:=.set #[] 0 (.fresh 0 0 (dB w))}).objs.size:=by
     rw[O9];exact Oz (QH hlS)
    have hSf:s.heap.objs.size∉ [(s.heap.push {cls:=.type "set",dict:=none,data:=.set #[] 0 (.fresh 0 0 (dB w))}).objs.size,l]:=by
     rw[O9]
     intro z
     rcases NX.mp z with e |z
     ·exact absurd e (Oz (Nat.lt_succ_self _))
     ·exact absurd (N6.mp z) (QW hlS)
    refine mW (X.wk _ _ hh3 hneI) s.heap.objs.size hSf rfl (λi v e=>e) (by simp;omega) s.heap hps (λb o hb e=>?_) (vs.length - 0) 0 _ (by omega) (OJ _) (X.st _ kp) (λb o e=>NY _ (kp b o e)) ?_ ?_
    ·have hlt:=Oc e
     rw[O9] at hb
     rcases NX.mp hb with z |z
     ·exact absurd hlt (by rw[z];exact OO _)
     ·rw[N6.mp z] at hlt
      exact absurd hlt (Nat.not_lt.mpr (Qh _))
    ·refine⟨[],⟨⟨_,0,_,NY _ hS0,⟨rfl,rfl,rfl⟩,rfl,sv _,rfl⟩,λq hq=>(by cases hq),P5⟩,λq hq=>(by cases hq),λp hp=>(by simp at hp)⟩
    ·intro h' tk hm F'
     show wpAny _ _ _ _ _ _
     refine N2 ?_
     show wpAny _ _ (ret Value.none) _ _ _
     refine N2 ⟨rfl,h',tk,rfl,F',λb o e=>hm b o (λz=>?_) (NY _ (kp b o e))⟩
     have hlt:=Oc e
     rw[O9] at z
     rcases NX.mp z with z |z
     ·exact absurd hlt (by rw[z];exact OO _)
     ·rw[N6.mp z] at hlt
      exact absurd hlt (Nat.not_lt.mpr (Qh _))
   ·cases r2 with
    |error e=>exact hr2
    |ok fl2=>
     cases fl2 with
     |ret r=>
      obtain⟨rfl,h',tk,rfl,hF,hk⟩:=hr2
      repeat (any_goals (first |assumption |wp_step))
      exact h _ _ hF hk
     |_=>exact hr2.elim
  |_=>exact hr.elim
end
end L2.ST
namespace L2.SO
open PySem PySem.W PyProof.Rows
def kT {α:Type}(lt:Nat->Nat->Bool):KasT α->α
 | .ret a=>a
 | .ask i j k=>kT lt (k (lt i j))
theorem gp {α β:Type}(lt:Nat->Nat->Bool)(f:α->KasT β):∀t:KasT α,kT lt (t.bind f)=kT lt (f (kT lt t))
 | .ret _=>rfl
 | .ask i j k=>gp lt f (k (lt i j))
def vb {α:Type}(n:Nat)(lt:Nat->Nat->Bool):KasT α->Prop
 | .ret _=>True
 | .ask i j k=>i < n/\j < n/\vb n lt (k (lt i j))
theorem iP {α β:Type}{n:Nat}{lt:Nat->Nat->Bool}{f:α->KasT β}:∀{t:KasT α},vb n lt t->vb n lt (f (kT lt t))->vb n lt (t.bind f)
 | .ret _,_,h=>h
 | .ask i j k,h,h'=>⟨h.1,h.2.1,iP h.2.2 h'⟩
section
variable {n:Nat}{key:Nat->Int}
abbrev oI (key:Nat->Int)(i j:Nat):Bool:=decide (key i < key j)
abbrev Kp (key:Nat->Int)(p:Array Nat)(k:Nat):Int:=key (p.getD k 0)
structure Pm (n:Nat)(p:Array Nat):Prop where
 sz:p.size=n
 nd:p.toList.Nodup
 lt:∀x,x∈p->x < n
def Pm.at (P:Pm n p)(hk:k < n):p.getD k 0 < n:=by
 have h:k < p.size:=by rw[P.sz];exact hk
 simp only[Array.getD,h,dif_pos]
 exact P.lt _ (Rh h)
def Pm.ne (P:Pm n p)(hi:i < n)(hk:k < n)(hne:i≠k):p.getD i 0≠p.getD k 0:=by
 have h1:i < p.toList.length:=by simpa using (by rw[P.sz];exact hi:i < p.size)
 have h2:k < p.toList.length:=by simpa using (by rw[P.sz];exact hk:k < p.size)
 have h1':i < p.size:=by rw[P.sz];exact hi
 have h2':k < p.size:=by rw[P.sz];exact hk
 have a1:p.getD i 0=p.toList[i]:=by simp[Array.getD,h1']
 have a2:p.getD k 0=p.toList[k]:=by simp[Array.getD,h2']
 rw[a1,a2]
 have q:=O2.mp P.nd
 rcases OW i k with c |c
 ·exact q i k h1 h2 c
 ·exact (q k i h2 h1 (by omega)).symm
def Pm.perm (P:Pm n p)(h:q.Perm p):Pm n q:=by
 have h':=Array.perm_iff_toList_perm.mp h
 exact⟨by rw[h.size_eq];exact P.sz,h'.nodup_iff.mpr P.nd,λx hx=>P.lt x (by simpa using h'.mem_iff.mp (by simpa using hx))⟩
def wy (n:Nat):Pm n (List.toArray (List.range n)):=⟨by simp,by simpa using PX,λx hx=>by simpa using hx⟩
def Inj (n:Nat)(key:Nat->Int):Prop:=∀i j,i < n->j < n->key i=key j->i=j
def Pm.tri (P:Pm n p)(hi:Inj n key)(h1:i < n)(h2:k < n)(hne:i≠k):Kp key p i < Kp key p k\/Kp key p k < Kp key p i:=by
 have:Kp key p i≠Kp key p k:=λe=>P.ne h1 h2 hne (hi _ _ (P.at h1) (P.at h2) e)
 omega
def Up (key:Nat->Int)(p:Array Nat)(m:Nat):Prop:=∀i j,i < j->j < m->Kp key p i < Kp key p j
def Dn (key:Nat->Int)(p:Array Nat)(m:Nat):Prop:=∀i j,i < j->j < m->Kp key p j < Kp key p i
def Up.snoc (U:Up key p m)(h1:1<=m)(h:Kp key p (m - 1) < Kp key p m):Up key p (m + 1):=λi j hij hj=>by
 rcases OW j m with c |c
 ·exact U i j hij c
 ·have:j=m:=by omega
  subst this
  rcases OW i (j - 1) with d |d
  ·exact Int.lt_trans (U i (j - 1) d (by omega)) h
  ·have:i=j - 1:=by omega
   rw[this];exact h
def Dn.snoc (U:Dn key p m)(h1:1<=m)(h:Kp key p m < Kp key p (m - 1)):Dn key p (m + 1):=λi j hij hj=>by
 rcases OW j m with c |c
 ·exact U i j hij c
 ·have:j=m:=by omega
  subst this
  rcases OW i (j - 1) with d |d
  ·exact Int.lt_trans h (U i (j - 1) d (by omega))
  ·have:i=j - 1:=by omega
   rw[this];exact h
theorem qV (P:Pm n p)(hi:Inj n key):∀(f m:Nat),1<=m->m + f<=n->Up key p m->
  ∃r,(kT (oI key) (kas_asc p f m)=r/\vb n (oI key) (kas_asc p f m))/\m<=r/\r<=m + f/\Up key p r/\(r < m + f->Kp key p r < Kp key p (r - 1))
 | 0,m,_,_,U=>⟨m,⟨rfl,trivial⟩,N4 _,N4 _,U,λh=>absurd h (OO _)⟩
 |f + 1,m,h1,hn,U=>by
  have b1:p.getD m 0 < n:=P.at (by omega)
  have b2:p.getD (m - 1) 0 < n:=P.at (by omega)
  unfold kas_asc kT vb
  by_cases c:Kp key p m < Kp key p (m - 1)
  ·rw[show oI key (p.getD m 0) (p.getD (m - 1) 0)=true from N3 c]
   simp only[O7]
   exact⟨m,⟨rfl,b1,b2,trivial⟩,N4 _,by omega,U,λ_=>c⟩
  ·rw[show oI key (p.getD m 0) (p.getD (m - 1) 0)=false from Oe c]
   simp only[Oj,OR]
   have up:Kp key p (m - 1) < Kp key p m:=(P.tri hi (by omega) (by omega) (by omega)).resolve_right c
   obtain⟨r,⟨e,o⟩,a,b,u,d⟩:=qV P hi f (m + 1) (by omega) (by omega) (U.snoc h1 up)
   exact⟨r,⟨e,b1,b2,o⟩,by omega,by omega,u,λh=>d (by omega)⟩
theorem tw (P:Pm n p)(hi:Inj n key):∀(f m:Nat),1<=m->m + f<=n->Dn key p m->
  ∃r,(kT (oI key) (kas_desc f p m 0)=(p,r,0)/\vb n (oI key) (kas_desc f p m 0))/\m<=r/\r<=m + f/\Dn key p r
 | 0,m,_,_,U=>⟨m,⟨rfl,trivial⟩,N4 _,N4 _,U⟩
 |f + 1,m,h1,hn,U=>by
  have b1:p.getD m 0 < n:=P.at (by omega)
  have b2:p.getD (m - 1) 0 < n:=P.at (by omega)
  unfold kas_desc kT vb
  by_cases c:Kp key p m < Kp key p (m - 1)
  ·rw[show oI key (p.getD m 0) (p.getD (m - 1) 0)=true from N3 c]
   simp only[O7,OO,gt_iff_lt,OR]
   obtain⟨r,⟨e,o⟩,a,b,u⟩:=tw P hi f (m + 1) (by omega) (by omega) (U.snoc h1 c)
   exact⟨r,⟨e,b1,b2,o⟩,by omega,by omega,u⟩
  ·rw[show oI key (p.getD m 0) (p.getD (m - 1) 0)=false from Oe c]
   simp only[Oj,OR]
   unfold kT vb
   have up:Kp key p (m - 1) < Kp key p m:=(P.tri hi (by omega) (by omega) (by omega)).resolve_right c
   rw[show oI key (p.getD (m - 1) 0) (p.getD m 0)=true from N3 up]
   simp only[O7]
   exact⟨m,⟨rfl,b1,b2,b2,b1,trivial⟩,N4 _,by omega,U⟩
def Dy (hj:j<=p.size)(hk:k < j):(kas_rev p 0 j).getD k 0=p.getD (j - 1 - k) 0:=by
 unfold kas_rev
 rw[OQ,getElem?_mirror_all hj k,N1 ⟨OJ _,hk⟩,OQ]
 congr 2
 omega
def Jy (hm:m<=p.size)(D:Dn key p m):Up key (kas_rev p 0 m) m:=λi j hij hj=>by
 unfold Kp
 rw[Dy hm (by omega),Dy hm hj]
 exact D (m - 1 - j) (m - 1 - i) (by omega) (by omega)
def Pm.rev (P:Pm n p)(j:Nat):Pm n (kas_rev p 0 j):=P.perm (mirror_perm ..)
def yS (P:Pm n p)(hi:Inj n key)(h1:1<=n) :
  ∃m q,(kT (oI key) (kas_count n p)=(m,q)/\vb n (oI key) (kas_count n p))/\Pm n q/\1<=m/\m<=n/\Up key q m:=by
 obtain⟨r,⟨e,o⟩,a,b,u,d⟩:=qV P hi (n - 1) 1 (N4 _) (by omega) (λi j hij hj=>by omega)
 have rest:∃m q,(kT (oI key) (if (r == n)=true then KasT.ret (r,p) else if r > 1 then .ask (p.getD 0 0) (p.getD (r - 1) 0) λc=>if c=true then .ret (r,p) else kas_descPart r n (kas_rev p 0 r) else kas_descPart r n p)=(m,q)/\
   vb n (oI key) (if (r == n)=true then KasT.ret (r,p) else if r > 1 then .ask (p.getD 0 0) (p.getD (r - 1) 0) λc=>if c=true then .ret (r,p) else kas_descPart r n (kas_rev p 0 r) else kas_descPart r n p))/\Pm n q/\1<=m/\m<=n/\Up key q m:=by
  by_cases c:(r == n)=true
  ·rw[N1 c]
   exact⟨r,p,⟨rfl,trivial⟩,P,a,by omega,u⟩
  ·rw[N8 c]
   have hrn:r≠n:=by simpa using c
   have dd:=d (by omega)
   by_cases c2:r > 1
   ·rw[N1 c2]
    unfold kT vb
    rw[show oI key (p.getD 0 0) (p.getD (r - 1) 0)=true from N3 (u 0 (r - 1) (by omega) (by omega))]
    simp only[O7]
    exact⟨r,p,⟨rfl,P.at (by omega),P.at (by omega),trivial⟩,P,a,by omega,u⟩
   ·rw[N8 c2]
    have hr1:r=1:=by omega
    subst hr1
    unfold kas_descPart
    rw[gp]
    have D2:Dn key p 2:=λi j hij hj=>by
     have e1:i=0:=by omega
     have e2:j=1:=by omega
     rw[e1,e2];exact dd
    obtain⟨x,⟨e2,o2⟩,a2,b2,u2⟩:=tw P hi (n - 2) 2 (by omega) (by omega) D2
    obtain⟨y,⟨e3,o3⟩,a3,b3,u3,_⟩:=qV (P.rev x) hi (n - x) x (by omega) (by omega) (Jy (by rw[P.sz];omega) u2)
    rw[show n - (1 + 1)=n - 2 from rfl,show (1 + 1:Nat)=2 from rfl]
    have t3:vb n (oI key) (kas_tail3 x n p):=by
     unfold kas_tail3
     exact iP o3 trivial
    refine⟨y,kas_rev p 0 x,⟨?_,iP o2 ?_⟩,P.rev x,by omega,by omega,u3⟩
    ·rw[e2]
     simp only[OO,gt_iff_lt,OR]
     unfold kas_tail3
     rw[gp,e3]
     rfl
    ·rw[e2]
     simp only[OO,gt_iff_lt,OR]
     exact t3
 obtain⟨m,q,⟨f1,f2⟩,f3⟩:=rest
 refine⟨m,q,⟨?_,?_⟩,f3⟩
 ·unfold kas_count
  rw[gp,e]
  exact f1
 ·unfold kas_count
  refine iP o ?_
  rw[e]
  exact f2
theorem place_spec (P:Pm n p)(hi:Inj n key)(hk:k < n)(U:Up key p k):∀(f l r:Nat),l<=r->r<=k->r - l<=f->(∀i,i < l->Kp key p i < Kp key p k)->(∀i,r<=i->i < k->Kp key p k < Kp key p i)->
  ∃x,(kT (oI key) (kas_place p k f l r)=x/\vb n (oI key) (kas_place p k f l r))/\x<=k/\(∀i,i < x->Kp key p i < Kp key p k)/\(∀i,x<=i->i < k->Kp key p k < Kp key p i)
 | 0,l,r,h1,h2,h3,a,b=>⟨l,⟨rfl,trivial⟩,by omega,a,λi hi=>b i (by omega)⟩
 |f + 1,l,r,h1,h2,h3,a,b=>by
  unfold kas_place
  by_cases c:l>=r
  ·rw[N1 c]
   exact⟨l,⟨rfl,trivial⟩,by omega,a,λi hi=>b i (by omega)⟩
  ·rw[N8 c]
   have b1:p.getD k 0 < n:=P.at hk
   have b2:p.getD ((l + r) / 2) 0 < n:=P.at (by omega)
   unfold kT vb
   by_cases d:Kp key p k < Kp key p ((l + r) / 2)
   ·rw[show oI key (p.getD k 0) (p.getD ((l + r) / 2) 0)=true from N3 d]
    simp only[O7]
    have side:∀i,(l + r) / 2<=i->i < k->Kp key p k < Kp key p i:=λi h1 h2=>by
     rcases OW ((l + r) / 2) i with z |z
     ·exact Int.lt_trans d (U _ _ z h2)
     ·have:i=(l + r) / 2:=by omega
      rw[this];exact d
    obtain⟨x,⟨e1,e2⟩,e3⟩:=place_spec P hi hk U f l ((l + r) / 2) (by omega) (by omega) (by omega) a side
    exact⟨x,⟨e1,b1,b2,e2⟩,e3⟩
   ·rw[show oI key (p.getD k 0) (p.getD ((l + r) / 2) 0)=false from Oe d]
    simp only[Oj,OR]
    have d':Kp key p ((l + r) / 2) < Kp key p k:=(P.tri hi (by omega) hk (by omega)).resolve_right d
    have side:∀i,i < (l + r) / 2 + 1->Kp key p i < Kp key p k:=λi h=>by
     rcases OW i ((l + r) / 2) with z |z
     ·exact Int.lt_trans (U _ _ z (by omega)) d'
     ·have:i=(l + r) / 2:=by omega
      rw[this];exact d'
    obtain⟨x,⟨e1,e2⟩,e3⟩:=place_spec P hi hk U f ((l + r) / 2 + 1) r (by omega) h2 (by omega) side b
    exact⟨x,⟨e1,b1,b2,e2⟩,e3⟩
def CL (hk:k < p.size)(hl:l<=k):(bubble p k (k - l)).getD j 0=if j=l then p.getD k 0 else if l < j/\j<=k then p.getD (j - 1) 0 else p.getD j 0:=by
 rw[OQ,getElem?_bubble hk (k - l) (by omega) j,show k - (k - l)=l by omega]
 simp only[OQ]
 split
 ·rfl
 ·split <;> rfl
theorem xl (hi:Inj n key):∀(f k:Nat) (p:Array Nat),Pm n p->1<=k->k + f=n->Up key p k->∃q,(kT (oI key) (kas_bin f p k)=q/\vb n (oI key) (kas_bin f p k))/\Pm n q/\Up key q n
 | 0,k,p,P,_,e,U=>⟨p,⟨rfl,trivial⟩,P,by rw[<-e];exact U⟩
 |f + 1,k,p,P,h1,e,U=>by
  have hk:k < n:=by omega
  obtain⟨l,⟨el,ol⟩,hl,a,b⟩:=place_spec P hi hk U k 0 k (OJ _) (N4 _) (by omega) (λi h=>by omega) (λi h h'=>by omega)
  have side:Up key (bubble p k (k - l)) (k + 1):=λi j hij hj=>by
   have hks:k < p.size:=by rw[P.sz];exact hk
   unfold Kp
   rw[CL hks hl,CL hks hl]
   by_cases i1:i=l
   ·rw[N1 i1,N8 (by omega)]
    by_cases j2:l < j/\j<=k
    ·rw[N1 j2];exact b _ (by omega) (by omega)
    ·omega
   ·rw[N8 i1]
    by_cases i2:l < i/\i<=k
    ·rw[N1 i2,N8 (by omega),N1 (by omega)]
     exact U _ _ (by omega) (by omega)
    ·rw[N8 i2]
     by_cases j1:j=l
     ·rw[N1 j1];exact a _ (by omega)
     ·rw[N8 j1]
      by_cases j2:l < j/\j<=k
      ·rw[N1 j2]
       rcases OW i (j - 1) with z |z
       ·exact U _ _ z (by omega)
       ·omega
      ·rw[N8 j2];exact U _ _ hij (by omega)
  obtain⟨q,⟨q1,q2⟩,q3⟩:=xl hi f (k + 1) (bubble p k (k - l)) (P.perm (bubble_perm ..)) (by omega) (by omega) side
  refine⟨q,⟨?_,?_⟩,q3⟩
  ·unfold kas_bin;rw[gp,el];exact q1
  ·unfold kas_bin;refine iP ol ?_;rw[el];exact q2
def Ay (hi:Inj n key)(h2:2<=n):∃q,(kT (oI key) (kas_sort n)=q/\vb n (oI key) (kas_sort n))/\Pm n q/\Up key q n:=by
 obtain⟨m,q,⟨e,o⟩,P,a,b,u⟩:=yS (wy n) hi (by omega)
 by_cases c:m < n
 ·obtain⟨q',⟨e1,o1⟩,r⟩:=xl hi (n - m) m q P a (by omega) u
  refine⟨q',⟨?_,?_⟩,r⟩
  ·unfold kas_sort;rw[gp,e];dsimp only;rw[N1 c,Nat.max_eq_left a];exact e1
  ·unfold kas_sort;refine iP o ?_;rw[e];dsimp only;rw[N1 c,Nat.max_eq_left a];exact o1
 ·refine⟨q,⟨?_,?_⟩,P,λi j hij hj=>u i j hij (by omega)⟩
  ·unfold kas_sort;rw[gp,e];dsimp only;rw[N8 c];rfl
  ·unfold kas_sort;refine iP o ?_;rw[e];dsimp only;rw[N8 c];trivial
theorem wp_run {α:Type}{n:Nat}{lt:Nat->Nat->Bool}{cmp:Nat->Nat->(Bool->Shared->Prop)->Shared->Prop}{Q:α->Shared->Prop}{s:Shared} :
  ∀(t:KasT α),(∀i j C,i < n->j < n->C (lt i j) s->cmp i j C s)->vb n lt t->Q (kT lt t) s->t.kasWp cmp Q s
 | .ret a,_,_,h=>h
 | .ask i j k,hc,ho,h=>hc i j _ ho.1 ho.2.1 (wp_run (k (lt i j)) hc ho.2.2 h)
end
end L2.SO
namespace L2.ST
open PySem PySem.SetTable PySem.W PyProof.Rows
def code (p:Pr):Int:=p.1 * 8 + p.2
def Aq (h1:Sm p)(h2:Sm q):code p < code q↔p.1 < q.1\/(p.1=q.1/\p.2 < q.2):=by
 unfold code Sm at *;omega
def code_inj (h1:Sm p)(h2:Sm q)(e:code p=code q):p=q:=by
 unfold code Sm at *
 refine Prod.ext ?_ ?_ <;> omega
section
variable {prog:Program}{w:World}{A:Around}{E:Value->Shared->Prop}{s:Shared}
abbrev rL (ps:List Pr)(i:Nat):Int:=code (ps.getD i (0,0))
def Dp (nd:ps.Nodup)(hs:∀p,p∈ps->Sm p):L2.SO.Inj ps.length (rL ps):=λi j hi hj e=>by
 have a1:ps.getD i (0,0)=ps[i]:=by simp[hi]
 have a2:ps.getD j (0,0)=ps[j]:=by simp[hj]
 unfold rL at e
 rw[a1,a2] at e
 have e':=code_inj (hs _ (Pu hi)) (hs _ (Pu hj)) e
 have q:=O2.mp nd
 rcases P9 i j with c |c |c
 ·exact absurd e' (q i j hi hj c)
 ·exact c
 ·exact absurd e'.symm (q j i hj hi c)
theorem ED {Q:Bool->Shared->Prop}(ha:b5 prog w s.heap p a)(hb:b5 prog w s.heap q b)(hp:Sm p)(hq:Sm q)(h:Q (decide (code p < code q)) s) :
  wpAny (model prog w) A (keyLt' (tuples' true) (.ref a) (.ref b)) Q E s:=by
 obtain⟨oa,ia,na,hoa,hca,hda,hia⟩:=ha
 obtain⟨ob,ib,nb,hob,hcb,hdb,hib⟩:=hb
 obtain⟨l1,rfl⟩:∃l,ia=List.toArray l:=⟨ia.toList,by simp⟩
 obtain⟨l2,rfl⟩:∃l,ib=List.toArray l:=⟨ib.toList,by simp⟩
 simp only[O4] at hia hib
 cases hia with
 | @cons _ v1 _ _ h1 hia=>
  cases hia with
  | @cons _ v2 _ _ h2 hia=>
   cases hia
   cases hib with
   | @cons _ u1 _ _ g1 hib=>
    cases hib with
    | @cons _ u2 _ _ g2 hib=>
     cases hib
     obtain⟨t1,rfl⟩:=P8 h1
     obtain⟨t2,rfl⟩:=P8 h2
     obtain⟨t3,rfl⟩:=P8 g1
     obtain⟨t4,rfl⟩:=P8 g2
     refine kat_lt hoa hda hob hdb ?_
     have hc:=Aq hp hq
     refine kat_cons (wpAny_eqBool_int ?_)
     by_cases e1:p.1=q.1
     ·rw[show (p.1 == q.1)=true by simpa using e1]
      refine kat_yes (kat_cons (wpAny_eqBool_int ?_))
      by_cases e2:p.2=q.2
      ·rw[show (p.2 == q.2)=true by simpa using e2]
       refine kat_yes (kat_nil ?_)
       have:decide (code p < code q)=false:=Oe (by rw[hc];omega)
       rw[this] at h
       simpa using h
      ·rw[show (p.2 == q.2)=false by simpa using e2]
       refine kat_no ?_
       show wpAny _ _ (oneLt' false _ _) _ _ _
       refine kat_one _ _ (lt_int ?_)
       have:decide (code p < code q)=decide (p.2 < q.2):=by
        by_cases z:p.2 < q.2
        ·rw[N3 z];exact N3 (hc.mpr (.inr ⟨e1,z⟩))
        ·rw[Oe z];exact Oe (by rw[hc];omega)
       rw[this] at h;exact h
     ·rw[show (p.1 == q.1)=false by simpa using e1]
      refine kat_no ?_
      show wpAny _ _ (oneLt' true _ _) _ _ _
      refine oneLt_int ?_
      have:decide (code p < code q)=decide (p.1 < q.1):=by
       by_cases z:p.1 < q.1
       ·rw[N3 z];exact N3 (hc.mpr (.inl z))
       ·rw[Oe z];exact Oe (by rw[hc];omega)
      rw[this] at h;exact h
theorem zM:∀{vs:List Value} {ps:List Pr},dP prog w s.heap vs ps->∃fs,KatTups s.heap vs fs/\fs.length=vs.length/\∀v∈fs,∃(i:Int) (t:Tok),v=.int i t
 | [],ps,_=>⟨[],KatTups.nil,rfl,λv hv=>by cases hv⟩
 |v :: vs,[],h=>by have:=h.1;simp at this
 |v :: vs,p :: ps,h=>by
  obtain⟨a,rfl,⟨o,items,n,ho,hc,hd,hi⟩,_⟩:=h.2 0 v p rfl rfl
  obtain⟨fs,k,e,f⟩:=zM (vs:=vs) (ps:=ps) ⟨by simpa using h.1,λi v p h1 h2=>h.2 (i + 1) v p (by simpa using h1) (by simpa using h2)⟩
  obtain⟨l1,rfl⟩:∃l,items=List.toArray l:=⟨items.toList,by simp⟩
  simp only[O4] at hi
  cases hi with
  | @cons _ v1 _ _ h1 hi=>
   obtain⟨t1,rfl⟩:=P8 h1
   exact⟨_ :: fs,KatTups.cons ho hc hd rfl k,by simp[e],λv hv=>by
    rcases NX.mp hv with z |z
    ·exact⟨_,_,z⟩
    ·exact f v z⟩
def wX {P:PySem.Fin->Shared->Prop}(ho:s.heap.get? a=some (seqObj "list" vs.toArray n))(hps:dP prog w s.heap vs ps)(nd:ps.Nodup)(h64:vs.length < 64)
  (h:∀(h':Heap) (c:Nat) (ix:Array Nat),L2.SO.Pm vs.length ix->L2.SO.Up (rL ps) ix vs.length->(∀b o,b≠a->s.heap.get? b=some o->h'.get? b=some o)->
   h'.get? a=some (seqObj "list" (ix.toList.map λi=>vs.getD i Value.none).toArray c)->P (.done (.ret .none)) {s with heap:=h'}) :
  wpAny (model prog w) A (Builtin.«list.sort» ⟨[.ref a],[]⟩) P E s:=by
 have ha:a < s.heap.objs.size:=Oc ho
 obtain⟨e1,ho1⟩:∃e1,(s.heap.update a (Obj.mapSeq λ_=>(#[]:Array Value))).get? a=some (seqObj "list" #[] e1):=⟨_,get?_update_seq ho λ_=>#[]⟩
 generalize hH1:(s.heap.update a (Obj.mapSeq λ_=>(#[]:Array Value)))=H1 at ho1
 have sb1:Heap.SameBut a s.heap H1:=by rw[<-hH1];exact Heap.SameBut.update ..
 have kp2:∀b o,H1.get? b=some o->((H1.push (seqObj "tuple" vs.toArray 0)).push (seqObj "list" #[] 0)).get? b=some o:=λb o e=>NY _ (NY _ e)
 generalize hH2:((H1.push (seqObj "tuple" vs.toArray 0)).push (seqObj "list" #[] 0))=H2 at kp2
 have kp:∀b o,b≠a->s.heap.get? b=some o->H2.get? b=some o:=λb o hb e=>kp2 b o ((sb1.2 b hb).trans e)
 have ho2:=kp2 _ _ ho1
 have hps2:dP prog w H2 vs ps:=⟨hps.1,λi v p h1 h2=>by
  obtain⟨b,e,⟨o,it,m,hb,hc,hd,r⟩,hs⟩:=hps.2 i v p h1 h2
  refine⟨b,e,⟨o,it,m,kp b o (λz=>?_) hb,hc,hd,r⟩,hs⟩
  subst z
  rw[ho] at hb;cases hb
  exact absurd hc (by simp[seqObj])⟩
 have hz:vs.length<=sizeLine:=by rw[Oo];omega
 rw[list_sort_plain]
 refine NV (listItems_at ho rfl (NV (listUpdate_at ho rfl ?_ (by simpa using hz) (OJ _))))
 rw[hH1]
 refine NV (seqEpoch_at (s:={s with heap:=H1}) ho1 rfl (NV (wpAny_newTuple ?_ (by simpa using hz))))
 refine NV (QQ ?_ (OJ _))
 refine O3 ?_
 show wpAny (model prog w) A _ P E {s with heap:=(H1.push (seqObj "tuple" vs.toArray 0)).push (seqObj "list" #[] 0)}
 rw[hH2]
 have fin:∀(ix:Array Nat) (st:SortSt),L2.SO.Pm vs.length ix->L2.SO.Up (rL ps) ix vs.length->(arrOf st).map (·.2)=List.toArray (ix.toList.map λi=>vs.getD i Value.none)->failedOf st=none->
   wpAny (model prog w) A (do
    let sorted:=(arrOf st).map (·.2)
    let touched:=(<-seqEpoch a) != e1
    Builtin.List.listUpdate (.ref a) λ_=>sorted
    if let some e:=failedOf st then rule "list.sort.comparison-raised";throw e
    if touched then rule "list.sort.modified";raiseError "ValueError" "list modified during sort"
    ret .none) P E {s with heap:=H2}:=λix st P1 U1 hout hf=>by
  dsimp only
  rw[hout]
  have hsz:(List.toArray (ix.toList.map λi=>vs.getD i Value.none)).size=vs.length:=by simp[P1.sz]
  refine NV (seqEpoch_at (s:={s with heap:=H2}) ho2 rfl ?_)
  refine NV (listUpdate_at (s:={s with heap:=H2}) ho2 rfl ?_ (OJ _) (Pl (Nat.le_of_eq hsz) (Nat.le_succ_of_le hz)))
  rw[hf]
  simp only[bne_self_eq_false,Oj,OR]
  obtain⟨c2,hc2⟩:∃c2,(H2.update a (Obj.mapSeq λ_=>List.toArray (ix.toList.map λi=>vs.getD i Value.none))).get? a=some (seqObj "list" (List.toArray (ix.toList.map λi=>vs.getD i Value.none)) c2):=⟨_,get?_update_seq ho2 λ_=>List.toArray (ix.toList.map λi=>vs.getD i Value.none)⟩
  exact N2 (h _ c2 ix P1 U1 (λb o hb e=>((Heap.SameBut.update H2 a _).2 b hb).trans (kp b o hb e)) hc2)
 by_cases h2:vs.length < 2
 ·have h2':vs.toArray.size < 2:=by simpa using h2
  dsimp only
  rw[N1 h2',N1 h2']
  refine NV (N2 ?_)
  rw[StateT.run_pure]
  refine NV (N2 ?_)
  refine fin (List.toArray (List.range vs.length)) (SortSt.mk' general' (vs.toArray.zip vs.toArray) #[] 7 none) (L2.SO.wy _) (λi j hij hj=>by omega) ?_ rfl
  have:∀{l:List Value},l.length < 2->((l.toArray.zip l.toArray).map (·.2))=List.toArray ((List.range l.length).map λi=>l.getD i Value.none):=λ{l} hl=>by
   match l,hl with
   | [],_=>simp
   | [x],_=>simp
  exact (this h2).trans (by simp)
 ·have h2':¬vs.toArray.size < 2:=by simpa using h2
  dsimp only
  rw[N8 h2',N8 h2']
  obtain⟨fs,kt,fl,ff⟩:=zM (s:={s with heap:=H2}) hps2
  refine NV (kat_kind (s:={s with heap:=H2}) (T:=.type "int") kt (by omega) (λv hv=>?_) (by decide) ?_)
  ·obtain⟨i,t,rfl⟩:=ff v hv
   exact .now
  ·rw[show ((Value.type "int" != Value.type "tuple"):Bool)=true by decide]
   have hinj:L2.SO.Inj vs.length (rL ps):=by
    rw[hps.1]
    refine Dp nd λp hp=>?_
    obtain⟨i,hi,e⟩:=ON.mp hp
    have hi':i < vs.length:=by rw[hps.1];exact hi
    obtain⟨_,_,_,hs⟩:=hps.2 i vs[i] p (NW hi') (by rw[NW hi,e])
    exact hs
   obtain⟨ix,⟨er,ok⟩,P1,U1⟩:=L2.SO.Ay hinj (by omega)
   refine NV (PR (kat_run (s:={s with heap:=H2}) (κ:=tuples' true) (ks:=vs) (Q:=λst s'=>s'={s with heap:=H2}/\arrOf st=ix.map (kas_item (vs.toArray.zip vs.toArray))/\failedOf st=none)
    (G:=λp s'=>p=ix/\s'={s with heap:=H2}) rfl (by omega) h64 (λp st s' a1 a2 a3 a4=>?_) (L2.SO.wp_run (n:=vs.length) (lt:=L2.SO.oI (rL ps)) _ (λi j C hi hj hC=>?_) ok ⟨er,rfl⟩)) ?_ λ_ _ x=>x)
   ·obtain⟨rfl,rfl⟩:=a4
    exact⟨rfl,a2,a3⟩
   ·unfold kas_ask
    have hi':i < ps.length:=by rw[<-hps.1];exact hi
    have hj':j < ps.length:=by rw[<-hps.1];exact hj
    obtain⟨b1,eb1,hb1,s1⟩:=hps2.2 i vs[i] ps[i] (NW hi) (NW hi')
    obtain⟨b2,eb2,hb2,s2⟩:=hps2.2 j vs[j] ps[j] (NW hj) (NW hj')
    have e1:vs.getD i Value.none=.ref b1:=by rw[<-eb1];simp[hi]
    have e2:vs.getD j Value.none=.ref b2:=by rw[<-eb2];simp[hj]
    rw[e1,e2]
    refine ED (s:={s with heap:=H2}) hb1 hb2 s1 s2 ?_
    have:L2.SO.oI (rL ps) i j=decide (code ps[i] < code ps[j]):=by
     unfold L2.SO.oI rL;simp[hi',hj']
    rw[<-this];exact hC
   ·rintro⟨⟨⟩,st⟩ s' ⟨rfl,har,hf⟩
    exact fin ix st P1 U1 (kat_snds rfl har) hf
end
def cu:Slot "set_iterator" "__next__" "set_iterator.__next__":=
 Slot.of (owner:="set_iterator") (n:="__next__") (by rw[typeLookup_type,builtinLookup_eq_fast];kernel_rfl) (by decide +kernel) (by decide +kernel) (by decide +kernel) (by first |exact .inl (by decide +kernel) |exact .inr (by decide +kernel)) (by rw[Rf];kernel_rfl)
def jN:entryFor table "set_iterator.__next__"=some Builtin.«set_iterator.__next__»:=entryFor_of_tree (by kernel_rfl)
def kN (a:Value):argsOk "set_iterator.__next__" ⟨[a],[]⟩:=by unfold argsOk;kernel_rfl
def qL:entryFor table "set.__iter__"=some Builtin.«frozenset.__iter__»:=entryFor_alias (id':="frozenset.__iter__") (by kernel_rfl) rfl (by decide +kernel) (by kernel_rfl)
def kQ:Slot "set_iterator" "__iter__" "set_iterator.__iter__":=
 Slot.of (owner:="set_iterator") (n:="__iter__") (by rw[typeLookup_type,builtinLookup_eq_fast];kernel_rfl) (by decide +kernel) (by decide +kernel) (by decide +kernel) (by first |exact .inl (by decide +kernel) |exact .inr (by decide +kernel)) (by rw[Rf];kernel_rfl)
def nY:entryFor table "set_iterator.__iter__"=some Builtin.«dict_keyiterator.__iter__»:=entryFor_alias (id':="dict_keyiterator.__iter__") (by kernel_rfl) rfl (by decide +kernel) (by kernel_rfl)
def oV (a:Value):argsOk "set_iterator.__iter__" ⟨[a],[]⟩:=by unfold argsOk;kernel_rfl
def EK (a:Addr)(slot given ep0:Nat):setNext a slot given ep0=(do
  let (es,epoch,t) <-setState a
  if (<-ask).params.followText "set-order" then
   if epoch != ep0 then unsupported "set_iterator.__next__:elements-changed"
   return ((<-setWalk a)[given]?).map λe=>(e.2,slot)
  if !t.plain && es.size > 1 then unsupported "set_iterator.__next__:the-table-is-plain-no-more"
  let u:Unit <-(show Sem Unit from do if !t.led && !es.isEmpty then unsupported "set:maker-not-led")
  let i:=SetTable.below t.place slot
  return match es[i]?,t.place[i]? with
   |some (_,x),some j=>some (x,j + 1)
   |_,_=>none):=by
 unfold setNext setsByText
 simp only[bind_assoc,pure_bind]
 rfl
def FF (a:Addr):setWalk a=(do
  let (es,epoch,t) <-setState a
  if (<-ask).params.followText "set-order" then return pickOrder ((<-ask).params.setOrder a epoch) es
  if !t.plain && es.size > 1 then return (<-drawOrder es.size es.toList).toArray
  let u:Unit <-(show Sem Unit from do if !t.led && es.size > 1 then unsupported "set:maker-not-led")
  return es):=by
 unfold setWalk setsByText
 simp only[bind_assoc,pure_bind]
 rfl
def Cp (a:Addr):setDrawn a=(do
  let (es,_,t) <-setState a
  let byText <-(do return (<-ask).params.followText "set-order")
  return !byText && (!t.plain && es.size > 1)):=rfl
theorem i5 {α:Type}:∀(l:List α) (i:Nat) (h:i < l.length),(l[i] :: l.eraseIdx i).Perm l
 |a :: l,0,_=>List.Perm.refl _
 |a :: l,i + 1,h=>by
  have hi:i < l.length:=by simpa using h
  show (l[i] :: a :: l.eraseIdx i).Perm (a :: l)
  exact (List.Perm.swap ..).trans ((i5 l i hi).cons a)
theorem sW {α:Type}(next:Nat->Nat):∀(fuel k:Nat) (left:List α) (out:Array α),left.length=fuel->(pickOrder.go next fuel k left out).toList.Perm (out.toList ++ left)
 | 0,k,left,out,h=>by
  have:left= []:=Qu.mp h
  subst this
  unfold pickOrder.go
  simp
 |fuel + 1,k,left,out,h=>by
  unfold pickOrder.go
  have hlt:next k % left.length < left.length:=Nat.mod_lt _ (by omega)
  rw[NW hlt]
  dsimp only
  refine (sW next fuel (k + 1) _ _ (by rw[List.length_eraseIdx_of_lt hlt];omega)).trans ?_
  rw[Array.toList_push,Pz]
  refine QK _ ?_
  exact i5 left _ hlt
def k8 {α:Type}(next:Nat->Nat)(xs:Array α):(pickOrder next xs).toList.Perm xs.toList:=by
 have:=sW next xs.size 0 xs.toList #[] (by simp)
 simpa[pickOrder] using this
section
variable {prog:Program}{w:World}{A:Around}{E:Value->Shared->Prop}{s:Shared}
def told (w:World)(S:Addr)(ep:Nat)(es:Array (Int×Value)):Array (Int×Value):=if w.params.followText "set-order" then pickOrder (w.params.setOrder S ep) es else es
def nW (w:World)(S:Addr)(ep:Nat)(es:Array (Int×Value)):(told w S ep es).toList.Perm es.toList:=by
 unfold told;split
 ·exact k8 _ _
 ·exact List.Perm.refl _
abbrev vD (S:Addr)(slot k n ep:Nat):Obj:={cls:=.type "set_iterator",data:=.fields #[.int (slot:Int) 0,.int (k:Int) 0,.ref S,.int (n:Int) 0,.int (ep:Int) 0]}
structure nj (w:World)(S:Addr)(o:Obj)(es:Array (Int×Value))(ep:Nat)(t:SetTable)(I:Addr)(k:Nat)(h:Heap):Prop where
 set:h.get? S=some o
 data:o.data=.set es ep t
 cls:o.cls=.type "set"
 tab:Tab t (es.toList.map (·.1))
 led:t.led=dB w
 it:∃slot,h.get? I=some (vD S slot k es.size ep)/\(dB w=true->slot=if k=0 then 0 else t.place.getD (k - 1) 0 + 1)
def nj.fits (X:nj w S o es ep t I k h):t.fits es.size=true:=lr X.tab (by simp)
theorem y9 {S I:Addr}{o:Obj}{es:Array (Int×Value)}{ep k slot:Nat}{t:SetTable}{Q:Option (Value×Nat)->Shared->Prop}(X:nj w S o es ep t I k s.heap)(hk:k<=es.size)(hs:dB w=true->slot=if k=0 then 0 else t.place.getD (k - 1) 0 + 1)
  (h:∀(r:Option (Value×Nat)),(k < es.size->∃x nx,r=some (x,nx)/\(told w S ep es)[k]?.map (·.2)=some x/\(dB w=true->nx=t.place.getD k 0 + 1))->(k=es.size->r=none)->Q r s) :
  wpAny (model prog w) A (setNext S slot k ep) Q E s:=by
 rw[EK]
 refine NV (OY X.set X.data X.fits ?_)
 dsimp only
 refine NV (QN ?_)
 dsimp only
 cases hb:w.params.followText "set-order" with
 |true=>
  rw[N1 (show (model prog w).w.params.followText "set-order"=true from hb)]
  simp only[bne_self_eq_false,Oj,OR]
  rw[FF]
  refine NV (NV (OY X.set X.data X.fits ?_))
  dsimp only
  refine NV (QN ?_)
  dsimp only
  rw[N1 (show (model prog w).w.params.followText "set-order"=true from hb)]
  refine NV (QN (N2 (N2 ?_)))
  have et:told w S ep es=pickOrder (w.params.setOrder S ep) es:=by unfold told;rw[N1 hb]
  have hsz:(pickOrder (w.params.setOrder S ep) es).size=es.size:=by
   have:=(k8 (w.params.setOrder S ep) es).length_eq;simpa using this
  refine h _ (λhlt=>?_) (λe=>?_)
  ·have hlt':k < (pickOrder (w.params.setOrder S ep) es).size:=by rw[hsz];exact hlt
   refine⟨(pickOrder (w.params.setOrder S ep) es)[k].2,slot,?_,?_,λz=>?_⟩
   ·show Option.map _ (pickOrder (w.params.setOrder S ep) es)[k]? =_
    rw[OD hlt'];rfl
   ·rw[et,OD hlt'];rfl
   ·unfold dB at z;rw[hb] at z;cases z
  ·show Option.map _ (pickOrder (w.params.setOrder S ep) es)[k]? =_
   rw[QD (by rw[hsz];omega)];rfl
 |false=>
  rw[N8 (show ¬(model prog w).w.params.followText "set-order"=true by intro z;rw[show (model prog w).w.params.followText "set-order"=false from hb] at z;cases z)]
  have hl:dB w=true:=by unfold dB;rw[hb];rfl
  rw[X.tab.plain,X.led,hl]
  simp only[Qx,Bool.false_and,Oj,OR]
  have et:told w S ep es=es:=by unfold told;rw[hb];simp
  have hps:t.place.size=es.size:=by simpa using X.tab.size
  have hbl:below t.place slot=k:=by
   rw[hs hl]
   obtain⟨b1,b2,b3⟩:=cz X.tab.rise (if k=0 then 0 else t.place.getD (k - 1) 0 + 1)
   by_cases k0:k=0
   ·subst k0
    simp only[O7] at b1 b2 b3 ⊢
    rcases Nat.eq_zero_or_pos (below t.place 0) with z |z
    ·exact z
    ·have:=b2 0 z;omega
   ·rw[N8 k0] at b1 b2 b3 ⊢
    have hk1:k - 1 < t.place.size:=by omega
    rcases P9 (below t.place (t.place.getD (k - 1) 0 + 1)) k with z |z |z
    ·have q:=b3 (k - 1) (by omega) hk1
     have e:t.place.getD (k - 1) (t.place.getD (k - 1) 0 + 1)=t.place.getD (k - 1) 0:=by simp[Array.getD,hk1]
     omega
    ·exact z
    ·have hks:k < t.place.size:=by omega
     have q:=b2 k z
     have e:t.place.getD k (t.place.getD (k - 1) 0 + 1)=t.place.getD k 0:=by simp[Array.getD,hks]
     have:=jg (d:=0) X.tab.rise (show k - 1 < k by omega) hks
     omega
  refine N2 ?_
  rw[hbl]
  refine h _ (λhlt=>?_) (λe=>?_)
  ·have hlt2:k < t.place.size:=by omega
   refine⟨es[k].2,t.place[k] + 1,?_,?_,λ_=>?_⟩
   ·rw[OD hlt,OD hlt2]
   ·rw[et,OD hlt];rfl
   ·simp[Array.getD,hlt2]
  ·rw[QD (by omega)]
def BG {o:Obj}{es:Array (Int×Value)}{ep:Nat}{t:SetTable}(hh:A.handled=none)(hne:S≠I) :
  Walks prog w A I [I,S] [I] es.size (λi v=>(told w S ep es)[i]?.map (·.2)=some v) (λi h=>nj w S o es ep t I i h) where
 sub:=λb hb=>NX.mpr (.inl (N6.mp hb))
 frame:=λi h h' X k=>by
  obtain⟨slot,e,r⟩:=X.it
  exact⟨k S (by simp) _ X.set,X.data,X.cls,X.tab,X.led,slot,k I (by simp) _ e,r⟩
 item:=λi s Q E hi X hQ=>by
  obtain⟨slot,e,r⟩:=X.it
  have hT:s.TypeIs (.ref I) "set_iterator":=⟨_,e,rfl⟩
  unfold pyNext
  refine NV (wpAny_attempt (wpAny_callSpecial?_slot (name:=Str.ofString "__next__") hT cu (PY cu hT jN ?_ (kN _))))
  unfold Builtin.«set_iterator.__next__»
  refine NV (m:=slotArgs "__next__" 0 _) (N2 ?_)
  dsimp only
  unfold fieldsOf
  refine NV (NV (wpAny_load e (N2 ?_)))
  dsimp only
  unfold setEntries
  refine NV (NV (OY X.set X.data X.fits (N2 ?_)))
  dsimp only
  rw[N8 (by simp)]
  refine NV ?_
  simp only[OB]
  refine y9 X (Nat.le_of_lt hi) r λrr h1 _=>?_
  obtain⟨x,nx,rfl,h2,h3⟩:=h1 hi
  dsimp only
  refine NV (Qg e rfl (by simp) ?_)
  have e2:=OT (Obj.mapFields λvs=>vs.setIfInBounds 0 (rawInt (nx:Int))) e rfl
  refine NV (Qg e2 rfl (by simp) ?_)
  refine N2 ⟨x,rfl,N2 ?_⟩
  have sb:=(Heap.SameBut.update s.heap I (Obj.mapFields λvs=>vs.setIfInBounds 0 (rawInt (nx:Int)))).trans (Heap.SameBut.update _ I (Obj.mapFields λvs=>vs.setIfInBounds 1 (rawInt ((i:Int) + 1))))
  refine hQ x _ _ h2 ⟨(sb.2 S hne).trans X.set,X.data,X.cls,X.tab,X.led,nx,?_,λz=>?_⟩ λb o hb eb=>(sb.2 b (by simpa using hb)).trans eb
  ·exact OT (Obj.mapFields λvs=>vs.setIfInBounds 1 (rawInt ((i:Int) + 1))) e2 rfl
  ·rw[N8 (by omega)];exact h3 z
 done:=λs Q E X hQ=>by
  obtain⟨slot,e,r⟩:=X.it
  have hT:s.TypeIs (.ref I) "set_iterator":=⟨_,e,rfl⟩
  unfold pyNext
  refine NV (wpAny_attempt (wpAny_callSpecial?_slot (name:=Str.ofString "__next__") hT cu (PY cu hT jN ?_ (kN _))))
  unfold Builtin.«set_iterator.__next__»
  refine NV (m:=slotArgs "__next__" 0 _) (N2 ?_)
  dsimp only
  unfold fieldsOf
  refine NV (NV (wpAny_load e (N2 ?_)))
  dsimp only
  unfold setEntries
  refine NV (NV (OY X.set X.data X.fits (N2 ?_)))
  dsimp only
  rw[N8 (by simp)]
  refine NV ?_
  simp only[OB]
  refine y9 X (N4 _) r λrr _ h1=>?_
  rw[h1 rfl]
  dsimp only
  refine NV (Qg e rfl (by simp) ?_)
  (show wpAny _ _ (newExc (.type "StopIteration") [] >>= λx=>raiseNew x) _ _ _)
  refine NV ?_
  simp only[newExc,newTuple]
  (refine NV (Qa ?_ (by size_fits)))
  (refine NV (m:=firstArgMember _ _) (wpAny_of_eq (a:=Value.none) (by first |rfl | (simp only[firstArgMember];rfl)) ?_))
  (refine Qa ?_ (by size_fits))
  simp only[raiseNew]
  refine NV (wpAny_handled ?_)
  (rw[show A.in1.handled=none from hh])
  refine NV (N2 (wpAny_throw ?_))
  refine NV (wpAny_isInstance (T:="StopIteration") (b:=true) ⟨_,Od _ rfl,rfl⟩ isSubtype_stop (N2 (hQ _ _ λb o hb eb=>?_)))
  exact NY _ (NY _ (((Heap.SameBut.update ..).2 b (by simpa using hb)).trans eb))
 self:=λi s Q E X hQ=>by
  obtain⟨slot,e,r⟩:=X.it
  have hT:s.TypeIs (.ref I) "set_iterator":=⟨_,e,rfl⟩
  refine wpAny_pyIter_slot hT kQ (PY kQ hT nY ?_ (oV _))
  show wpAny _ _ (ret (.ref I)) _ _ s
  exact N2 ⟨_,rfl,"set_iterator",_,hT,cu.lookup,hQ⟩
def Cq {Q:Value->Shared->Prop}(ho:s.heap.get? S=some o)(hd:o.data=.set es ep t)(hc:o.cls=.type "set")(T:Tab t (es.toList.map (·.1)))(hl:t.led=dB w)
  (h:Q (.ref s.heap.objs.size) {s with heap:=s.heap.push (vD S 0 0 es.size ep)}):wpAny (model prog w) A (pyIter (.ref S)) Q E s:=by
 have hT:s.TypeIs (.ref S) "set":=⟨o,ho,hc⟩
 have hf:t.fits es.size=true:=lr T (by simp)
 refine wpAny_pyIter_slot hT F.slot_set_iter (PY F.slot_set_iter hT qL ?_ (F.args_set_iter_1 _))
 unfold Builtin.«frozenset.__iter__» Builtin.Frozenset.slot0
 refine NV (NV (m:=slotArgs "__iter__" 0 _) (N2 (N2 ?_)))
 unfold Builtin.Frozenset.sizeOf setEntries
 refine NV (NV (NV (OY ho hd hf (N2 (N2 ?_)))))
 rw[Cp]
 refine NV (NV (OY ho hd hf ?_))
 dsimp only
 refine NV (NV (QN (N2 (N2 ?_))))
 rw[T.plain]
 simp only[Qx,Bool.false_and,Bool.and_false,Oj,OR]
 refine NV (N2 ?_)
 unfold setEpoch
 refine NV (NV (OY ho hd hf (N2 ?_)))
 refine NV (Qa (N2 ⟨_,rfl,"set_iterator",_,⟨_,Od _ rfl,rfl⟩,cu.lookup,h⟩))
def oR {Q:List Value->Shared->Prop}(hh:A.handled=none)(ho:s.heap.get? S=some o)(hd:o.data=.set es ep t)(hc:o.cls=.type "set")(T:Tab t (es.toList.map (·.1)))(hl:t.led=dB w)
  (hn:es.size<=64) (h:∀h' tk vs,vs=(told w S ep es).toList.map (·.2)->(∀b o,s.heap.get? b=some o->h'.get? b=some o)->Q vs {s with heap:=h',toks:=tk}):wpAny (model prog w) A (collect (.ref S)) Q E s:=by
 have hz:es.size<=sizeLine:=by rw[Oo];omega
 unfold collect
 (refine NV (Rg (Pb F.entry_proto_collect ?_)))
 (rw[PH F.plain_proto_collect _])
 show wpAny _ A.in1 (newList [] >>= λl=>again (.builtin "list.__iadd__" ⟨[l,.ref S],[]⟩)) _ _ s
 refine NV (Qa ?_)
 (refine N2 ⟨plainId_quiet F.plain_list_iadd _,Pb F.entry_list_iadd ?_⟩)
 (rw[PH F.plain_list_iadd _])
 show wpAny _ A.in1 (Builtin.List.listExtendWith (.ref s.heap.objs.size) (.ref S) (.ref s.heap.objs.size)) _ _ {s with heap:=s.heap.push (seqObj "list" #[] 0)}
 generalize hH:s.heap.push (seqObj "list" #[] 0)=H1
 have kp1:∀b o,s.heap.get? b=some o->H1.get? b=some o:=λb o e=>by rw[<-hH];exact NY _ e
 have hD:H1.get? s.heap.objs.size=some (seqObj "list" #[] 0):=by rw[<-hH];exact Od _ rfl
 have hHs:H1.objs.size=s.heap.objs.size + 1:=by rw[<-hH];exact O9 ..
 have hSD:S≠s.heap.objs.size:=Oz (Oc ho)
 have hT:Shared.TypeIs {s with heap:=H1} (.ref S) "set":=⟨o,kp1 _ _ ho,hc⟩
 unfold Builtin.List.listExtendWith
 refine NV (wpAny_typeOf hT ?_)
 have h1:Builtin.List.listSameRef (.ref s.heap.objs.size) (.ref S)=false:=by simp[Builtin.List.listSameRef,Ne.symm hSD]
 have h2:(Value.type "set" == Value.type "list")=false:=by decide
 have h3:(Value.type "set" == Value.type "tuple")=false:=by decide
 rw[h1,h2,h3]
 simp only[Bool.or_false,Oj,OR]
 refine NV (Cq (s:={s with heap:=H1}) (kp1 _ _ ho) hd hc T hl ?_)
 refine NV (O3 ?_)
 unfold Builtin.List.listLengthHint
 have hT2:Shared.TypeIs {s with heap:=H1.push (vD S 0 0 es.size ep)} (.ref S) "set":=⟨o,NY _ (kp1 _ _ ho),hc⟩
 refine NV (wpAny_specialOf hT2 F.slot_set_len.lookup ?_)
 wp_delta
 refine NV (wpAny_isInstance hT2 (b:=true) (by rw[Rf];kernel_rfl) ?_)
 show wpAny _ A.in1 (typeOf (Value.ref S) >>= λ_=>_) _ _ _
 refine NV (wpAny_typeOf hT2 ?_)
 refine N2 ?_
 show wpAny _ A.in1 (rule "list.extend.makes-room" >>= λ_=>Builtin.List.listTouch (.ref s.heap.objs.size) >>= λ_=>again (.builtin "list.extend.loop" ⟨[.ref s.heap.objs.size,.ref H1.objs.size,.ref s.heap.objs.size],[]⟩)) _ _ _
 refine NV (wpAny_rule (NV ?_))
 generalize hH2:H1.push (vD S 0 0 es.size ep)=H2
 have kp2:∀b o,H1.get? b=some o->H2.get? b=some o:=λb o e=>by rw[<-hH2];exact NY _ e
 have hI:H2.get? H1.objs.size=some (vD S 0 0 es.size ep):=by rw[<-hH2];exact Od _ rfl
 have hS0:=kp2 _ _ hD
 show wpAny _ A.in1 (updateSeq s.heap.objs.size (·.push .none) >>= λ_=>updateSeq s.heap.objs.size (·.pop)) _ _ _
 refine NV (wpAny_updateSeq (s:={s with heap:=H2}) hS0 rfl ?_)
 have hS2:=OT (Obj.mapSeq (·.push Value.none)) hS0 rfl
 refine wpAny_updateSeq (hz:=by seq_fits) hS2 rfl ?_
 have hS3:=OT (Obj.mapSeq (·.pop)) hS2 rfl
 have oth:∀b o,b≠s.heap.objs.size->H2.get? b=some o->((H2.update s.heap.objs.size (Obj.mapSeq (·.push Value.none))).update s.heap.objs.size (Obj.mapSeq (·.pop))).get? b=some o:=λb o hb e=>
  ((Heap.SameBut.update _ s.heap.objs.size (Obj.mapSeq (·.pop))).2 b hb).trans (((Heap.SameBut.update H2 s.heap.objs.size (Obj.mapSeq (·.push Value.none))).2 b hb).trans e)
 have hIS:S≠H1.objs.size:=by rw[hHs];exact Oz (QH (Oc ho))
 have hID:H1.objs.size≠s.heap.objs.size:=by rw[hHs];exact Nat.succ_ne_self _
 have hDf:s.heap.objs.size∉ [H1.objs.size,S]:=λz=>by
  rcases NX.mp z with e |z
  ·exact hID e.symm
  ·exact hSD (N6.mp z).symm
 have X0:nj w S o es ep t H1.objs.size 0 ((H2.update s.heap.objs.size (Obj.mapSeq (·.push Value.none))).update s.heap.objs.size (Obj.mapSeq (·.pop))):=
  ⟨oth _ _ hSD (kp2 _ _ (kp1 _ _ ho)),hd,hc,T,hl,0,oth _ _ hID hI,λ_=>rfl⟩
 refine N2 ⟨plainId_quiet F.plain_extend_loop _,codeAny_extend_loopS (BG (A:=A.in1) (o:=o) (t:=t) hh hIS).toS hz _ hDf _ es.size 0 _ _ _ rfl (OJ _) X0 hS3 (ItemsOf.nil _) λs' acc' c' hm hS' hacc=>?_⟩
 show wpAny _ A (load s.heap.objs.size >>= λ_=>_) _ _ s'
 refine NV (wpAny_load hS' (N2 ?_))
 obtain⟨h',g',d',tk',os'⟩:=s'
 have eg:g'=s.gens:=hm.gens
 have ed:d'=s.drawn:=hm.drawn
 have eo:os'=s.os:=hm.os
 subst eg ed eo
 refine h h' tk' acc'.toList ?_ λb ob e=>hm.heap b ob (λhb=>?_) (oth b ob (Oz (Oc e)) (kp2 _ _ (kp1 _ _ e)))
 ·have hts:(told w S ep es).size=es.size:=by have:=(nW w S ep es).length_eq;simpa using this
  apply QG
  intro i
  rw[Oa]
  by_cases hi:i < es.size
  ·have hi1:i < acc'.size:=by rw[hacc.1];exact hi
   have q:=hacc.2 i acc'[i] (OD hi1)
   rw[P0,P0,OD hi1]
   exact q.symm
  ·rw[P0,P0,QD (by rw[hacc.1];omega),QD (by omega)];rfl
 ·have hlt:=Oc e
  rcases NX.mp hb with z |z
  ·rw[z] at hlt;exact OO _ hlt
  ·rw[N6.mp z,hHs] at hlt;exact absurd hlt (Nat.not_lt.mpr (Qh _))
end
end L2.ST
namespace OM
abbrev Pr:=Int×Int
def GY (p q:Pr):Prop:=p.1 < q.1\/(p.1=q.1/\p.2 < q.2)
def jX (p:Pr):¬GY p p:=by unfold GY;omega
def Ar (a:GY p q)(b:GY q r):GY p r:=by unfold GY at *;omega
abbrev u9 (l:List Pr):Prop:=l.Pairwise GY
theorem gN:∀{l m:List Pr},u9 l->u9 m->(∀x,x∈l↔x∈m)->l=m
 | [],[],_,_,_=>rfl
 | [],b :: m,_,_,h=>absurd ((h b).mpr (N0 ..)) (by simp)
 |a :: l,[],_,_,h=>absurd ((h a).mp (N0 ..)) (by simp)
 |a :: l,b :: m,hl,hm,h=>by
  have hl':=Qi.mp hl
  have hm':=Qi.mp hm
  have e:a=b:=by
   rcases NX.mp ((h a).mp (N0 ..)) with e |e
   ·exact e
   ·rcases NX.mp ((h b).mpr (N0 ..)) with e' |e'
    ·exact e'.symm
    ·exact absurd (Ar (hm'.1 a e) (hl'.1 b e')) (jX _)
  subst e
  congr 1
  refine gN hl'.2 hm'.2 λx=>⟨λhx=>?_,λhx=>?_⟩
  ·rcases NX.mp ((h x).mp (N5 _ hx)) with e |e
   ·subst e;exact absurd (hl'.1 x hx) (jX _)
   ·exact e
  ·rcases NX.mp ((h x).mpr (N5 _ hx)) with e |e
   ·subst e;exact absurd (hm'.1 x hx) (jX _)
   ·exact e
def iE (h:u9 l):l.Nodup:=h.imp λ{a b} hab e=>by subst e;exact jX _ hab
def mr (p:Pr->Bool)(h:u9 l):u9 (l.filter p):=h.sublist Qe
def dI (n:Nat):List Pr:=(List.range (n * n)).map λk=>(((k / n:Nat):Int),((k % n:Nat):Int))
def cJ :p∈dI n↔(0<=p.1/\p.1 < n)/\(0<=p.2/\p.2 < n):=by
 unfold dI
 rw[N7]
 constructor
 ·rintro⟨k,hk,rfl⟩
  have hk:=Og.mp hk
  have hn:0 < n:=by
   rcases Nat.eq_zero_or_pos n with e |e
   ·subst e;omega
   ·exact e
  have h1:k / n < n:=Nat.div_lt_of_lt_mul hk
  have h2:k % n < n:=Nat.mod_lt _ hn
  generalize k / n=q at h1
  generalize k % n=r at h2
  exact⟨⟨Int.natCast_nonneg _,by dsimp only;omega⟩,⟨Int.natCast_nonneg _,by dsimp only;omega⟩⟩
 ·rintro⟨⟨a0,a1⟩,⟨b0,b1⟩⟩
  have hn:0 < n:=by omega
  refine⟨p.1.toNat * n + p.2.toNat,Og.mpr ?_,?_⟩
  ·have h1:p.1.toNat + 1<=n:=by omega
   have h2:p.2.toNat < n:=by omega
   have:=Nat.mul_le_mul_right n h1
   rw[Nat.add_mul] at this
   omega
  ·have h2:p.2.toNat < n:=by omega
   have e1:(p.1.toNat * n + p.2.toNat) / n=p.1.toNat:=by
    rw[Nat.mul_comm,Nat.mul_add_div hn,Nat.div_eq_of_lt h2];rfl
   have e2:(p.1.toNat * n + p.2.toNat) % n=p.2.toNat:=by
    rw[Nat.mul_comm,Nat.mul_add_mod,Nat.mod_eq_of_lt h2]
   rw[e1,e2]
   refine Prod.ext ?_ ?_ <;> dsimp only <;> omega
def nk (n:Nat):u9 (dI n):=by
 unfold dI
 refine OP.mpr (OH ?_ QC)
 intro a b ha hb hab
 have ha:=Og.mp ha
 have hb:=Og.mp hb
 have hn:0 < n:=by
  rcases Nat.eq_zero_or_pos n with e |e
  ·subst e;omega
  ·exact e
 have h1:a / n<=b / n:=Nat.div_le_div_right (Nat.le_of_lt hab)
 have e1:=Nat.div_add_mod a n
 have e2:=Nat.div_add_mod b n
 unfold GY
 dsimp only
 rcases OW (a / n) (b / n) with c |c
 ·left;omega
 ·right
  have e:a / n=b / n:=by omega
  rw[e] at e1
  omega
open Classical in
noncomputable def cw (n:Nat)(R:Int->Int->Prop):List Pr:=(dI n).filter λp=>decide (R p.1 p.2)
def bo {R:Int->Int->Prop}:p∈cw n R↔((0<=p.1/\p.1 < n)/\(0<=p.2/\p.2 < n))/\R p.1 p.2:=by
 unfold cw
 rw[Oi,cJ]
 simp
def cX (n:Nat)(R:Int->Int->Prop):u9 (cw n R):=mr _ (nk n)
def yM {n:Nat}{R S:Int->Int->Prop}(h:∀a b:Int,0<=a->a < n->0<=b->b < n->(R a b↔S a b)):cw n R=cw n S:=by
 refine gN (cX n R) (cX n S) λx=>?_
 rw[bo,bo]
 constructor
 ·rintro⟨⟨⟨a,b⟩,c,d⟩,r⟩;exact⟨⟨⟨a,b⟩,c,d⟩,(h _ _ a b c d).mp r⟩
 ·rintro⟨⟨⟨a,b⟩,c,d⟩,r⟩;exact⟨⟨⟨a,b⟩,c,d⟩,(h _ _ a b c d).mpr r⟩
def Wn (n:Nat)(l:List Pr):Prop:=∀p,p∈l->(0<=p.1/\p.1 < n)/\(0<=p.2/\p.2 < n)
abbrev Mem (l:List Pr)(a b:Int):Prop:=(a,b)∈l
def BK (w:Wn n l)(r:u9 l):cw n (Mem l)=l:=by
 refine gN (cX n _) r λx=>?_
 rw[bo]
 exact⟨λh=>h.2,λh=>⟨w x h,h⟩⟩
def ue (n:Nat)(R:Int->Int->Prop):Wn n (cw n R):=λ_ h=>(bo.mp h).1
def Df (n:Nat)(R:Int->Int->Prop):(cw n R).length<=n * n:=by
 unfold cw
 refine Pl (O5 ..) ?_
 unfold dI;simp
inductive Tr (R:Int->Int->Prop):Int->Int->Prop
 |one {a b}:R a b->Tr R a b
 |more {a b c}:R a b->Tr R b c->Tr R a c
theorem Tr.trans {R:Int->Int->Prop}(h:Tr R a b)(k:Tr R b c):Tr R a c:=by
 induction h with
 |one r=>exact .more r k
 |more r _ ih=>exact .more r (ih k)
theorem Tr.least {R S:Int->Int->Prop}(f:∀a b,R a b->S a b)(t:∀a b c,S a b->S b c->S a c)(h:Tr R a b):S a b:=by
 induction h with
 |one r=>exact f _ _ r
 |more r _ ih=>exact t _ _ _ (f _ _ r) ih
structure Ord (n:Nat)(l:List Pr):Prop where
 lo:1<=n
 hi:n<=8
 wn:Wn n l
 ris:u9 l
 irr:∀a,(a,a)∉l
 tr:∀a b c,(a,b)∈l->(b,c)∈l->(a,c)∈l
def Ord.tr_mem (O:Ord n l):Tr (Mem l) a b↔(a,b)∈l:=
 ⟨λh=>h.least (λ_ _ r=>r) λa b c=>O.tr a b c,λh=>.one h⟩
def Ord.closed (O:Ord n l):cw n (Tr (Mem l))=l:=by
 rw[yM (S:=Mem l) λa b _ _ _ _=>O.tr_mem,BK O.wn O.ris]
def JN (h1:1<=n)(h8:n<=8)(w:Wn n l)(hr:∀a,¬Tr (Mem l) a a):Ord n (cw n (Tr (Mem l))):=
 ⟨h1,h8,ue n _,cX n _,λa h=>hr a (bo.mp h).2,λa b c h k=>bo.mpr ⟨⟨(bo.mp h).1.1,(bo.mp k).1.2⟩,(bo.mp h).2.trans (bo.mp k).2⟩⟩
theorem pX {l m:List Pr}(hl:l.Nodup)(h:∀x,x∈l->x∈m):l.length<=m.length:=by
 induction l generalizing m with
 |nil=>exact OJ _
 |cons a l ih=>
  have ha:=h a (N0 ..)
  have hl':=Ov.mp hl
  have:=ih (m:=m.erase a) hl'.2 λx hx=>by
   refine (List.mem_erase_of_ne ?_).mpr (h x (N5 _ hx))
   rintro rfl;exact hl'.1 hx
  rw[QY ha] at this
  have:0 < m.length:=List.length_pos_of_mem ha
  simp only[Ol];omega
def sub_eq {l m:List Pr}(hl:u9 l)(hm:u9 m)(h:∀x,x∈l->x∈m)(e:l.length=m.length):l=m:=by
 refine gN hl hm λx=>⟨h x,λhx=>Classical.byContradiction λhn=>?_⟩
 have:=pX (l:=x :: l) (m:=m) (Ov.mpr ⟨hn,iE hl⟩) λy hy=>by
  rcases NX.mp hy with e |e
  ·subst e;exact hx
  ·exact h y e
 simp only[Ol] at this
 omega
def more (l:List Pr):List Pr:=l.flatMap λp=>(l.filter λq=>decide (q.1=p.2)).map λq=>(p.1,q.2)
def qh :x∈more l↔∃b,(x.1,b)∈l/\(b,x.2)∈l:=by
 unfold more
 rw[List.mem_flatMap]
 constructor
 ·rintro⟨p,hp,hx⟩
  obtain⟨q,hq,rfl⟩:=N7.mp hx
  obtain⟨hq,e⟩:=Oi.mp hq
  have e:q.1=p.2:=by simpa using e
  exact⟨p.2,hp,by rw[<-e];exact hq⟩
 ·rintro⟨b,h1,h2⟩
  exact⟨(x.1,b),h1,N7.mpr ⟨(b,x.2),Oi.mpr ⟨h2,by simp⟩,rfl⟩⟩
noncomputable def lu (n:Nat)(l:List Pr):List Pr:=cw n (Mem (l ++ more l))
structure GV (n:Nat)(ps l:List Pr):Prop where
 wn:Wn n l
 ris:u9 l
 sub:∀x,x∈ps->x∈l
 sup:∀x,x∈l->Tr (Mem ps) x.1 x.2
def AS (w:Wn n ps):GV n ps (cw n (Mem ps)):=
 ⟨ue n _,cX n _,λx hx=>bo.mpr ⟨w x hx,hx⟩,λ_ hx=>.one (bo.mp hx).2⟩
def Ed (B:GV n ps l):Wn n (l ++ more l):=λx hx=>by
 rcases Of.mp hx with h |h
 ·exact B.wn x h
 ·obtain⟨b,h1,h2⟩:=qh.mp h
  exact⟨(B.wn _ h1).1,(B.wn _ h2).2⟩
def v9 (B:GV n ps l):GV n ps (lu n l)/\∀x,x∈l->x∈lu n l:=by
 have hs:∀x,x∈l->x∈lu n l:=λx hx=>bo.mpr ⟨B.wn x hx,Pa _ hx⟩
 refine⟨⟨ue n _,cX n _,λx hx=>hs x (B.sub x hx),λx hx=>?_⟩,hs⟩
 rcases Of.mp (bo.mp hx).2 with h |h
 ·exact B.sup _ h
 ·obtain⟨b,h1,h2⟩:=qh.mp h
  exact (B.sup _ h1).trans (B.sup _ h2)
def Cs (B:GV n ps l)(e:(lu n l).length=l.length):lu n l=cw n (Tr (Mem ps)):=by
 obtain⟨B2,hs⟩:=v9 B
 have q:l=lu n l:=sub_eq B.ris B2.ris hs e.symm
 refine gN B2.ris (cX n _) λx=>⟨λh=>bo.mpr ⟨B2.wn x h,B2.sup x h⟩,λh=>?_⟩
 rw[<-q]
 have tr:∀a b c:Int,(a,b)∈l->(b,c)∈l->(a,c)∈l:=λa b c h1 h2=>by
  rw[q]
  exact bo.mpr ⟨⟨(B.wn _ h1).1,(B.wn _ h2).2⟩,Ox _ (qh.mpr ⟨b,h1,h2⟩)⟩
 exact (bo.mp h).2.least (S:=Mem l) (λa b r=>B.sub _ r) tr
abbrev Tb:=Nat->Nat->Bool
def Tb.set (M:Tb)(a b:Nat):Tb:=λx y=>if x=a/\y=b then true else M x y
def E3 (M:Tb)(m:Nat):Prop:=∀k a b,k < m->M a k=true->M k b=true->M a b=true
def Phase (M0 M:Tb)(m:Nat)(D:Nat->Nat->Prop):Prop:=∀a b,M a b=true↔M0 a b=true\/(D a b/\M0 a m=true/\M0 m b=true)
def Phase.start (M:Tb)(m:Nat):Phase M M m λ_ _=>False:=λa b=>by simp
def Phase.row {D:Nat->Nat->Prop}(P:Phase M0 M m D)(a:Nat):M a m=true↔M0 a m=true:=by
 rw[P]
 exact⟨λh=>h.elim id λh=>h.2.1,.inl⟩
def Phase.col {D:Nat->Nat->Prop}(P:Phase M0 M m D)(b:Nat):M m b=true↔M0 m b=true:=by
 rw[P]
 exact⟨λh=>h.elim id λh=>h.2.2,.inl⟩
def Phase.step {D:Nat->Nat->Prop}(P:Phase M0 M m D)(x y:Nat) :
  Phase M0 (if M x m=true/\M m y=true then M.set x y else M) m (λa b=>D a b\/(a=x/\b=y)):=λa b=>by
 have r:=P.row x
 have c:=P.col y
 by_cases h:M x m=true/\M m y=true
 ·rw[N1 h]
  unfold Tb.set
  by_cases e:a=x/\b=y
  ·rw[N1 e]
   obtain⟨rfl,rfl⟩:=e
   simp only[true_iff]
   exact .inr ⟨.inr (by simp),r.mp h.1,c.mp h.2⟩
  ·rw[N8 e,P]
   constructor
   ·rintro (q | ⟨d,q⟩)
    ·exact .inl q
    ·exact .inr ⟨.inl d,q⟩
   ·rintro (q | ⟨d |d,q⟩)
    ·exact .inl q
    ·exact .inr ⟨d,q⟩
    ·exact absurd d e
 ·rw[N8 h,P]
  constructor
  ·rintro (q | ⟨d,q⟩)
   ·exact .inl q
   ·exact .inr ⟨.inl d,q⟩
  ·rintro (q | ⟨d | ⟨rfl,rfl⟩,q1,q2⟩)
   ·exact .inl q
   ·exact .inr ⟨d,q1,q2⟩
   ·exact absurd ⟨r.mpr q1,c.mpr q2⟩ h
def Phase.done {D:Nat->Nat->Prop}(P:Phase M0 M m D)(hD:∀a b,a < n->b < n->D a b)(hM:∀a b,M0 a b=true->a < n/\b < n)(T:E3 M0 m) :
  E3 M (m + 1)/\∀a b,M a b=true->a < n/\b < n:=by
 have hM':∀a b,M a b=true->a < n/\b < n:=λa b h=>by
  rcases (P a b).mp h with q | ⟨_,q1,q2⟩
  ·exact hM a b q
  ·exact⟨(hM _ _ q1).1,(hM _ _ q2).2⟩
 have put:∀a b,M0 a m=true->M0 m b=true->M a b=true:=λa b h1 h2=>(P a b).mpr (.inr ⟨hD a b (hM _ _ h1).1 (hM _ _ h2).2,h1,h2⟩)
 refine⟨λk a b hk h1 h2=>?_,hM'⟩
 rcases OW k m with c |c
 ·rcases (P a k).mp h1 with q1 | ⟨_,q1,q1'⟩
  ·rcases (P k b).mp h2 with q2 | ⟨_,q2,q2'⟩
   ·exact (P a b).mpr (.inl (T k a b c q1 q2))
   ·exact put a b (T k a m c q1 q2) q2'
  ·rcases (P k b).mp h2 with q2 | ⟨_,q2,q2'⟩
   ·exact put a b q1 (T k m b c q1' q2)
   ·exact put a b q1 q2'
 ·have e:k=m:=by omega
  subst e
  exact put a b ((P.row a).mp h1) ((P.col b).mp h2)
structure Tab (n:Nat)(ps:List Pr)(M:Tb):Prop where
 inn:∀a b,M a b=true->a < n/\b < n
 sub:∀a b:Nat,((a:Int),(b:Int))∈ps->M a b=true
 sup:∀a b:Nat,M a b=true->Tr (Mem ps) a b
def Tab.phase {D:Nat->Nat->Prop}(T:Tab n ps M0)(P:Phase M0 M m D):Tab n ps M:=
 ⟨λa b h=>by
  rcases (P a b).mp h with q | ⟨_,q1,q2⟩
  ·exact T.inn a b q
  ·exact⟨(T.inn _ _ q1).1,(T.inn _ _ q2).2⟩,
  λa b h=>(P a b).mpr (.inl (T.sub a b h)),
  λa b h=>by
  rcases (P a b).mp h with q | ⟨_,q1,q2⟩
  ·exact T.sup a b q
  ·exact (T.sup _ _ q1).trans (T.sup _ _ q2)⟩
def Tab.all (w:Wn n ps)(T:Tab n ps M)(H:E3 M n)(a b:Nat):M a b=true↔Tr (Mem ps) a b:=by
 refine⟨T.sup a b,λh=>?_⟩
 have key:∀{x y:Int},Tr (Mem ps) x y->M x.toNat y.toNat=true:=λ{x y} h=>by
  induction h with
  | @one x y r=>
   have:=w _ r
   refine T.sub _ _ ?_
   have e1:((x.toNat:Nat):Int)=x:=by simp only at this;omega
   have e2:((y.toNat:Nat):Int)=y:=by simp only at this;omega
   rw[e1,e2];exact r
  | @more x y z r _ ih=>
   have:=w _ r
   have e1:((x.toNat:Nat):Int)=x:=by simp only at this;omega
   have e2:((y.toNat:Nat):Int)=y:=by simp only at this;omega
   have q:M x.toNat y.toNat=true:=T.sub _ _ (by rw[e1,e2];exact r)
   exact H y.toNat _ _ (T.inn _ _ q).2 q ih
 have:=key h
 simpa using this
end OM
namespace L2.ST
open PySem PySem.SetTable PySem.W PyProof.Rows
section
variable {prog:Program}{w:World}{A:Around}{E:Value->Shared->Prop}{s:Shared}
def HU (hs:∀p,p∈ps->Sm p)(P:L2.SO.Pm ps.length ix)(U:L2.SO.Up (rL ps) ix ps.length):OM.u9 (ix.toList.map λi=>ps.getD i (0,0)):=by
 refine OP.mpr (O2.mpr λi j hi hj hij=>?_)
 have hi':i < ix.size:=by simpa using hi
 have hj':j < ix.size:=by simpa using hj
 have q:=U i j hij (by rw[<-P.sz];exact hj')
 unfold L2.SO.Kp rL at q
 have ei:ix.getD i 0=ix.toList[i]:=by simp[Array.getD,hi']
 have ej:ix.getD j 0=ix.toList[j]:=by simp[Array.getD,hj']
 rw[ei,ej] at q
 have ai:ix.toList[i] < ps.length:=P.lt _ (by simp)
 have aj:ix.toList[j] < ps.length:=P.lt _ (by simp)
 have bi:Sm (ps.getD ix.toList[i] (0,0)):=by rw[Px,NW ai];exact hs _ (Pu ai)
 have bj:Sm (ps.getD ix.toList[j] (0,0)):=by rw[Px,NW aj];exact hs _ (Pu aj)
 exact (Aq bi bj).mp q
def Ia (P:L2.SO.Pm n ix)(hk:k < n):k∈ix.toList:=by
 refine Classical.byContradiction λhn=>?_
 have:=a9 (l:=k :: ix.toList) (m:=List.range n) (Ov.mpr ⟨hn,P.nd⟩) λx hx=>by
  rcases NX.mp hx with e |e
  ·rw[e];exact Og.mpr hk
  ·exact Og.mpr (P.lt x (by simpa using e))
 simp[P.sz] at this
 omega
theorem Kh (hps:dP prog w h vs ps)(P:L2.SO.Pm vs.length ix) :
  dP prog w h (ix.toList.map λi=>vs.getD i Value.none) (ix.toList.map λi=>ps.getD i (0,0)):=by
 refine⟨by simp,λi v p h1 h2=>?_⟩
 rw[Oa] at h1 h2
 cases e:ix.toList[i]? with
 |none=>rw[e] at h1;cases h1
 |some k=>
  rw[e] at h1 h2
  have hk:k < vs.length:=P.lt k (by simpa using Ob e)
  have hk':k < ps.length:=by rw[<-hps.1];exact hk
  simp[hk,hk'] at h1 h2
  exact hps.2 k v p (by rw[NW hk,h1]) (by rw[NW hk',h2])
def sU {v:Value}{Q:Value->Shared->Prop}(hps:dP prog w s.heap vs ps)(nd:ps.Nodup)(h64:vs.length < 64)
  (hcol:∀(Q':List Value->Shared->Prop),(∀h' tk,(∀b o,s.heap.get? b=some o->h'.get? b=some o)->Q' vs {s with heap:=h',toks:=tk})->wpAny (model prog w) A.in1 (collect v) Q' (λe s'=>E e s') s)
  (h:∀(h1 h':Heap) (tk:Nat) (D:Addr) (out:List Value) (qs:List Pr) (c:Nat),(∀b o,s.heap.get? b=some o->h1.get? b=some o)->D=h1.objs.size->(∀b o,h1.get? b=some o->h'.get? b=some o)->h'.get? D=some (seqObj "list" out.toArray c)->dP prog w h' out qs->(∀u,u∈out->u∈vs)->OM.u9 qs->(∀p,p∈qs↔p∈ps)->
   Q (.ref D) {s with heap:=h',toks:=tk}):wpAny (model prog w) A (call (.builtin "sorted") [v]) Q E s:=by
 have hsm:∀p,p∈ps->Sm p:=λp hp=>by
  obtain⟨i,hi,e⟩:=ON.mp hp
  have hi':i < vs.length:=by rw[hps.1];exact hi
  obtain⟨_,_,_,hs⟩:=hps.2 i vs[i] p (NW hi') (by rw[NW hi,e])
  exact hs
 (refine QT kind_sorted plain_sorted entry_sorted (args_sorted1 _) ?_)
 unfold Builtin.«sorted»
 refine NV (m:=checkCount "sorted" 1 1 ([v]:List Value).length) (N2 ?_)
 refine NV (hcol _ λh1 tk1 k1=>?_)
 have hz:vs.length<=sizeLine:=by rw[Oo];omega
 refine NV (QQ ?_ hz)
 show wpAny _ _ _ _ _ {s with heap:=h1.push (seqObj "list" vs.toArray 0),toks:=tk1}
 have hoL:(h1.push (seqObj "list" vs.toArray 0)).get? h1.objs.size=some (seqObj "list" vs.toArray 0):=Od _ rfl
 have kp:∀b o,s.heap.get? b=some o->(h1.push (seqObj "list" vs.toArray 0)).get? b=some o:=λb o e=>NY _ (k1 b o e)
 have hp1:dP prog w (h1.push (seqObj "list" vs.toArray 0)) vs ps:=⟨hps.1,λi v p a b=>by
  obtain⟨c,e,⟨o,it,n,ho,r⟩,hs⟩:=hps.2 i v p a b
  exact⟨c,e,⟨o,it,n,kp _ _ ho,r⟩,hs⟩⟩
 have hne:∀b o,s.heap.get? b=some o->b≠h1.objs.size:=λb o e=>Oz (Oc (k1 b o e))
 refine NV (O3 (PY slot_list_sort ⟨_,hoL,rfl⟩ entry_list_sort ?_ (args_list_sort _)))
 refine wX (s:={s with heap:=h1.push (seqObj "list" vs.toArray 0),toks:=tk1}) hoL hp1 nd h64 λh' c ix P U hk ho=>?_
 refine⟨_,rfl,N2 ⟨_,rfl,?_⟩⟩
 have kk:∀b o,s.heap.get? b=some o->h'.get? b=some o:=λb o e=>hk b o (hne b o e) (kp b o e)
 have P':L2.SO.Pm ps.length ix:=by rw[<-hps.1];exact P
 have k2:∀b o,h1.get? b=some o->h'.get? b=some o:=λb o e=>hk b o (Oz (Oc e)) (NY _ e)
 refine h h1 h' tk1 h1.objs.size _ (ix.toList.map λi=>ps.getD i (0,0)) c k1 rfl k2 ho (Kh ⟨hps.1,λi v p a b=>?_⟩ P) (λu hu=>?_) (HU hsm P' (by rw[<-hps.1];exact U)) λp=>⟨λhp=>?_,λhp=>?_⟩
 ·obtain⟨c,e,⟨o,it,n,ho,r⟩,hs⟩:=hps.2 i v p a b
  exact⟨c,e,⟨o,it,n,kk _ _ ho,r⟩,hs⟩
 ·obtain⟨i,hi,rfl⟩:=N7.mp hu
  have:i < vs.length:=P.lt i (by simpa using hi)
  rw[Px,NW this]
  exact Pu this
 ·obtain⟨i,hi,rfl⟩:=N7.mp hp
  have:i < ps.length:=P'.lt i (by simpa using hi)
  rw[Px,NW this]
  exact Pu this
 ·obtain⟨i,hi,e⟩:=ON.mp hp
  refine N7.mpr ⟨i,Ia P' hi,?_⟩
  rw[Px,NW hi,e];rfl
end
end L2.ST
namespace L2
open PySem PySem.Spec PyProof.Rows
abbrev Pr:=Int×Int
abbrev Sm:=L2.ST.Sm
section
variable {X:Cx}{pins:List (Addr×Obj)}{σ:St}{H H':Hp}{s:Shared}
def i3 (H H':Hp):Prop:=(∀b xs,H b=some (.tup xs)->H' b=some (.tup xs))/\∀b o u,H b=some (.bp o u)->H' b=some (.bp o u)
def i3.trans {H H1 H2:Hp}(a:i3 H H1)(b:i3 H1 H2):i3 H H2:=⟨λc xs h=>b.1 c xs (a.1 c xs h),λc o u h=>b.2 c o u (a.2 c o u h)⟩
def ay.grow {H H':Hp}(e:ay H H'):i3 H H':=⟨λb xs h=>e b _ h,λb o u h=>e b _ h⟩
def i3.new {H:Hp}(h:H l=none):i3 H (upd H l o):=⟨λb xs e=>by rw[aC (aK e h)];exact e,λb o' u e=>by rw[aC (aK e h)];exact e⟩
def ay.new {H:Hp}(h:H l=none):ay H (upd H l o):=λb u e=>Kt.of (by rw[aC (aK e h)];exact e)
def fO.grow {K:Frag}{a:Addr}{xs:List V}(h:fO K H a xs)(g:i3 H H'):fO K H' a xs:=by
 rcases h with (h | ⟨o,h⟩) |h
 ·exact .inl (.inl (g.1 _ _ h))
 ·exact .inl (.inr ⟨o,g.2 _ _ _ h⟩)
 ·exact .inr h
def i3.list (h:H a=some (.lst ys)):i3 H (upd H a o):=
 ⟨λb xs e=>by rw[aC (He e h (by intro z;cases z))];exact e,λb o' u e=>by rw[aC (He e h (by intro z;cases z))];exact e⟩
theorem rq {α β:Type}{f:α->β}:∀{l:List α} {m:List β},m.Perm (l.map f)->∃l':List α,m=l'.map f/\l'.Perm l:=by
 intro l m h
 generalize hk:l.map f=k at h
 induction h generalizing l with
 |nil=>
  have:l= []:=by simpa using hk
  exact⟨[],rfl,by rw[this]⟩
 | @cons x m1 m2 _ ih=>
  cases l with
  |nil=>cases hk
  |cons a l=>
   simp only[OL,List.cons.injEq] at hk
   obtain⟨l',e,p⟩:=ih hk.2
   exact⟨a :: l',by rw[OL,hk.1,e],p.cons a⟩
 |swap x y m1=>
  cases l with
  |nil=>cases hk
  |cons a l=>
   cases l with
   |nil=>simp at hk
   |cons b l=>
    simp only[OL,List.cons.injEq] at hk
    exact⟨b :: a :: l,by rw[OL,OL,hk.1,hk.2.1,hk.2.2],List.Perm.swap ..⟩
 |trans _ _ ih1 ih2=>
  obtain⟨l1,e1,p1⟩:=ih2 hk
  obtain⟨l2,e2,p2⟩:=ih1 e1.symm
  exact⟨l2,e2,p2.trans p1⟩
def aY (K:Frag)(H:Hp):List V->List Pr->Prop:=Paired λv p=>∃a,v=.ref a/\fO K H a [.int p.1,.int p.2]
def aY.grow {K:Frag}{vs:List V}{ps:List Pr}(h:aY K H vs ps)(g:i3 H H'):aY K H' vs ps:=Paired.mapP h λv p ⟨a,e,q⟩=>⟨a,e,q.grow g⟩
theorem Paired.getP {α β:Type}{F:α->β->Prop}:∀{l:List α} {m:List β} {i:Nat} {x:α},Paired F l m->l[i]? =some x->∃y,m[i]? =some y/\F x y
 |_,_,_,_,.nil,e=>by simp at e
 |_,_,0,_,.cons r _,e=>by simp at e;subst e;exact⟨_,rfl,r⟩
 |_,_,i + 1,x,.cons _ t,e=>by
  obtain⟨u,h1,h2⟩:=Paired.getP (i:=i) (x:=x) t (by simpa using e)
  exact⟨u,by simpa using h1,h2⟩
theorem Paired.getQ {α β:Type}{F:α->β->Prop}:∀{l:List α} {m:List β} {i:Nat} {y:β},Paired F l m->m[i]? =some y->∃x,l[i]? =some x/\F x y
 |_,_,_,_,.nil,e=>by simp at e
 |_,_,0,_,.cons r _,e=>by simp at e;subst e;exact⟨_,rfl,r⟩
 |_,_,i + 1,x,.cons _ t,e=>by
  obtain⟨u,h1,h2⟩:=Paired.getQ (i:=i) (y:=x) t (by simpa using e)
  exact⟨u,by simpa using h1,h2⟩
theorem uj (I:Inv X pins σ H s)(h:fO X.K H a [.int p.1,.int p.2]):L2.ST.b5 X.prog X.w s.heap p a:=by
 obtain⟨its,r,⟨o,ho,hc,n,hd⟩,_⟩:=I.tuple h
 cases r with
 |cons r1 r=>
  cases r with
  |cons r2 r=>
   cases r
   obtain⟨t1,rfl⟩:=r1
   obtain⟨t2,rfl⟩:=r2
   exact⟨o,_,n,ho,hc,hd,.cons (intKind_is ..) (.cons (intKind_is ..) .nil)⟩
def pairs_at (I:Inv X pins σ H s)(hv:Vals vs us)(h:aY X.K H vs ps)(hs:∀p,p∈ps->Sm p):L2.ST.dP X.prog X.w s.heap us ps:=by
 refine⟨by rw[<-hv.length];exact Paired.length h,λi u p e1 e2=>?_⟩
 obtain⟨v,ev,a,rfl,q⟩:=Paired.getQ h e2
 obtain⟨u',eu,ru⟩:=hv.get ev
 rw[e1] at eu;cases eu
 cases ru
 exact⟨a,rfl,uj I q,hs p (Ob e2)⟩
theorem rf (I:Inv X pins σ H s)(hv:Vals vs us)(h:aY X.K H vs ps)(k:∀b o,s.heap.get? b=some o->h'.get? b=some o):∀{out:List Value} {qs:List Pr},
  (∀u,u∈out->u∈us)->L2.ST.dP X.prog X.w h' out qs->∃ws,Vals ws out/\aY X.K H ws qs
 | [],[],_,_=>⟨[],.nil,.nil⟩
 | [],_ :: _,_,hp=>by have:=hp.1;simp at this
 |_ :: _,[],_,hp=>by have:=hp.1;simp at this
 |u :: out,q :: qs,hm,hp=>by
  obtain⟨ws,a1,a2⟩:=rf I hv h k (out:=out) (qs:=qs) (λx hx=>hm x (N5 _ hx)) ⟨by have:=hp.1;simpa using this,λi v p e1 e2=>hp.2 (i + 1) v p (by simpa using e1) (by simpa using e2)⟩
  obtain⟨i,hi,e⟩:=ON.mp (hm u (N0 ..))
  have hi':i < vs.length:=by rw[hv.length];exact hi
  obtain⟨u',eu,ru⟩:=hv.get (NW hi')
  rw[NW hi,e] at eu
  cases eu
  obtain⟨p,ep,a,ea,qa⟩:=Paired.getP h (NW hi')
  rw[ea] at ru
  cases ru
  obtain⟨b,eb,hb,_⟩:=hp.2 0 (.ref a) q rfl rfl
  cases eb
  have pa:L2.ST.b5 X.prog X.w h' p a:=by
   obtain⟨o,it,n,ho,r⟩:=uj I qa
   exact⟨o,it,n,k _ _ ho,r⟩
  have:p=q:=L2.ST.b5.inj pa hb
  subst this
  exact⟨.ref a :: ws,.cons rfl a1,.cons ⟨a,rfl,qa⟩ a2⟩
def zI (K:Frag):List V->Hp->VK->Prop:=λxs H Q=>∃a vs ps,xs= [.ref a]/\gf K H a vs/\aY K H vs ps/\(∀p,p∈ps->Sm p)/\ps.Nodup/\ps.length < 64/\
 ∀l ws qs,H l=none->aY K H ws qs->OM.u9 qs->(∀p,p∈qs↔p∈ps)->Q (.ref l) (upd H l (.lst ws))
def qO (I:Inv X pins σ H s)(hv:Vals vs us)(hp:aY X.K H vs ps)(hlen:ps.length < 64){Q:VK}
  (q:∀l ws qs,H l=none->aY X.K H ws qs->OM.u9 qs->(∀p,p∈qs↔p∈ps)->Q (.ref l) (upd H l (.lst ws)))
  {h1 h':Heap} {tk:Nat} {D:Addr} {out:List Value} {qs:List Pr} {c:Nat} (k1:∀b o,s.heap.get? b=some o->h1.get? b=some o) (eD:D=h1.objs.size) (k2:∀b o,h1.get? b=some o->h'.get? b=some o)
  (ho:h'.get? D=some (seqObj "list" out.toArray c)) (hpq:L2.ST.dP X.prog X.w h' out qs) (hm:∀u,u∈out->u∈us) (hr:OM.u9 qs) (hmem:∀p,p∈qs↔p∈ps):EP X pins σ Q (.ref D) {s with heap:=h',toks:=tk}:=by
 obtain⟨ws,r1,r2⟩:=rf I hv hp (λb o e=>k2 b o (k1 b o e)) hm hpq
 have I1:Inv X pins σ H {s with heap:=h1,toks:=tk}:=I.kept k1
 have hf:H D=none:=by rw[eD];exact I1.hok.fresh (N4 _)
 have hz:ws.length<=sizeLine:=by
  have e1:=r1.length
  have e2:out.length=qs.length:=hpq.1
  have e3:=OM.pX (OM.iE hr) λx hx=>(hmem x).mp hx
  rw[Oo];omega
 have I2:Inv X pins σ (upd H D (.lst ws)) {s with heap:=h',toks:=tk}:=I1.laid (t':=tk) k2 (by rw[eD];exact N4 _) (show cx X.prog X.w _ h' _ (.lst ws) from⟨hz,out,c,r1,ho⟩)
 exact⟨.ref D,_,I2,rfl,q D ws qs hf r2 hr hmem⟩
def xk:cI X (.builtin "sorted") (zI X.K):=by
 intro pins s σ H xs us Q I r h
 obtain⟨a,vs,ps,rfl,hq,hp,hs,nd,hl,q⟩:=h
 obtain⟨u,rfl,rx⟩:=vals1 r
 cases rx
 obtain⟨its,rv,pl,hz⟩:=I.list hq
 have hpa:=pairs_at I rv hp hs
 have h64:its.length < 64:=by rw[hpa.1];exact hl
 refine L2.ST.sU (v:=.ref a) hpa nd h64 (λQ' hQ'=>collect_list pl.isList ?_ (by rw[Oo];omega)) λh1 h' tk D out qs c k1 eD k2 ho hpq hm hr hmem=>?_
 ·exact hQ' _ s.toks λb o e=>by
   rw[Heap.get?_update_ne _ _ _ _ (Oz (Oc e)),QI _ _ _ (Oz (Oc e))];exact e
 ·exact qO I rv hp hl q k1 eD k2 ho hpq hm hr hmem
abbrev vq (qs:List (Addr×Pr)):List V:=qs.map λq=>V.ref q.1
abbrev pq (qs:List (Addr×Pr)):List Pr:=qs.map (·.2)
def GP (prog:Program)(w:World)(S:Addr)(qs:List (Addr×Pr))(h:Heap):Prop:=∃o ep t,h.get? S=some o/\o.ExactSet/\o.data=.set (qs.map λq=>(L2.ST.BR prog w q.2,Value.ref q.1)).toArray ep t/\L2.ST.Tab t (qs.map λq=>L2.ST.BR prog w q.2)/\t.led=L2.ST.dB w
def A1 (prog:Program)(w:World)(S:Addr)(qs:List (Addr×Pr)):HO:=.ext (GP prog w S qs)
def Ld (P:Program)(w:World)(K:Frag):List V->Hp->VK->Prop:=λxs H Q=>∃a vs ps,xs= [.ref a]/\(gf K H a vs\/fO K H a vs)/\aY K H vs ps/\(∀p,p∈ps->Sm p)/\
 ∀S qs,H S=none->aY K H (vq qs) (pq qs)->(pq qs).Nodup->(∀p,p∈pq qs↔p∈ps)->Q (.ref S) (upd H S (A1 P w S qs))
def Cf (hc:X.calm=true)(hu:X.A.units + 64 < cLine):cI X (.type "set") (Ld X.prog X.w X.K):=by
 intro pins s σ H xs us Q I r h
 obtain⟨a,vs,ps,rfl,hq,hp,hs,q⟩:=h
 obtain⟨u,rfl,rx⟩:=vals1 r
 cases rx
 have hh:=I.ok.hd hc
 have core:∀{its:List Value} {T:String} {itO:Obj} {St:Addr->Nat->Heap->Prop},Vals vs its->L2.ST.Src X.prog X.w s.heap a its T itO St->wpAny (model X.prog X.w) X.A (call (.type "set") [.ref a]) (EP X pins σ Q) X.xe s:=λ{its T itO St} rv src=>by
  refine L2.ST.p0 src hh hu (pairs_at I rv hp hs) λh' tk F k=>?_
  obtain⟨qs,P1,P2,P3⟩:=F
  have hlen:its.length=vs.length:=rv.length.symm
  have back:∀qv:Addr×Pr,qv∈qs->∃b,b=qv.1/\fO X.K H b [.int qv.2.1,.int qv.2.2]:=λqv hqv=>by
   obtain⟨i,hi,e⟩:=ON.mp (PJ (P2 qv hqv).1)
   have hi':i < vs.length:=by rw[<-hlen];exact hi
   obtain⟨u',eu,ru⟩:=rv.get (NW hi')
   rw[NW hi,e] at eu
   cases eu
   obtain⟨p,ep,b,eb,qb⟩:=Paired.getP hp (NW hi')
   rw[eb] at ru
   cases ru
   have pa:L2.ST.b5 X.prog X.w h' p qv.1:=by
    obtain⟨o,it,n,ho,r⟩:=uj I qb
    exact⟨o,it,n,k _ _ ho,r⟩
   have:p=qv.2:=L2.ST.b5.inj pa (P1.at' qv hqv).1
   subst this
   exact⟨_,rfl,qb⟩
  have hpv:∀{l:List (Addr×Pr)},(∀x,x∈l->x∈qs)->aY X.K H (vq l) (pq l):=λ{l}=>by
   induction l with
   |nil=>intro _;exact .nil
   |cons y l ih=>
    intro hl
    obtain⟨b,eb,qb⟩:=back y (hl y (N0 ..))
    subst eb
    exact .cons ⟨_,rfl,qb⟩ (ih λx hx=>hl x (N5 _ hx))
  have hmem:∀p,p∈pq qs↔p∈ps:=λp=>by
   have hpl:ps.length=its.length:=by rw[hlen];exact (Paired.length hp).symm
   constructor
   ·intro hx
    obtain⟨qv,hqv,rfl⟩:=N7.mp hx
    exact PJ (P2 qv hqv).2
   ·intro hx
    exact P3 p (by rw[<-hpl,Py (N4 _)];exact hx)
  have hf:H s.heap.objs.size=none:=I.hok.fresh (N4 _)
  obtain⟨o,ep,t,ho,r1⟩:=P1.ex
  have new:cx X.prog X.w (upd H s.heap.objs.size (A1 X.prog X.w s.heap.objs.size qs)) h' s.heap.objs.size (A1 X.prog X.w s.heap.objs.size qs):=
   ⟨⟨o,ep,t,ho,r1⟩,⟨o,ho⟩,λh1 h2 ⟨o1,ep1,t1,g1,g2⟩ kk=>⟨o1,ep1,t1,kk _ g1,g2⟩⟩
  exact⟨.ref _,_,I.laid (t':=tk) k (N4 _) new,rfl,q _ qs hf (hpv λx hx=>hx) P1.nd hmem⟩
 rcases hq with hq |hq
 ·obtain⟨its,rv,pl,hz⟩:=I.list hq
  exact core rv (L2.ST.Src.list pl.isList)
 ·obtain⟨its,rv,pl,hz⟩:=I.tuple hq
  exact core rv (L2.ST.Src.tuple pl)
def wA (P:Program)(w:World)(K:Frag):List V->Hp->VK->Prop:=λxs H Q=>∃S qs,xs= [.ref S]/\H S=some (A1 P w S qs)/\aY K H (vq qs) (pq qs)/\(∀p,p∈pq qs->Sm p)/\(pq qs).Nodup/\qs.length < 64/\
 ∀l ws rs,H l=none->aY K H ws rs->OM.u9 rs->(∀p,p∈rs↔p∈pq qs)->Q (.ref l) (upd H l (.lst ws))
def uW (hc:X.calm=true):cI X (.builtin "sorted") (wA X.prog X.w X.K):=by
 intro pins s σ H xs us Q I r h
 obtain⟨S,qs,rfl,hS,hp,hs,nd,hl,q⟩:=h
 obtain⟨u,rfl,rx⟩:=vals1 r
 cases rx
 have hh:=I.ok.hd hc
 obtain⟨⟨o,ep,t,ho,hex,hd,T,hled⟩,_,_⟩:GP X.prog X.w S qs s.heap/\_:=I.hok S _ hS
 have T':L2.ST.Tab t ((qs.map λq=>(L2.ST.BR X.prog X.w q.2,Value.ref q.1)).toArray.toList.map (·.1)):=by
  rw[O4,O1];exact T
 have htp:=L2.ST.nW X.w S ep (qs.map λq=>(L2.ST.BR X.prog X.w q.2,Value.ref q.1)).toArray
 have hmem:∀x,x∈(L2.ST.told X.w S ep (qs.map λq=>(L2.ST.BR X.prog X.w q.2,Value.ref q.1)).toArray).toList->∃q,q∈qs/\x=(L2.ST.BR X.prog X.w q.2,Value.ref q.1):=λx hx=>by
  have:=htp.mem_iff.mp hx
  simp only[O4] at this
  obtain⟨q,hq,e⟩:=N7.mp this
  exact⟨q,hq,e.symm⟩
 obtain⟨q2,e2,p2⟩:∃q2:List (Addr×Pr),(L2.ST.told X.w S ep (qs.map λq=>(L2.ST.BR X.prog X.w q.2,Value.ref q.1)).toArray).toList=q2.map (λq=>(L2.ST.BR X.prog X.w q.2,Value.ref q.1))/\q2.Perm qs:=by
  have:=htp
  simp only[O4] at this
  exact rq this
 have hp2:aY X.K H (vq q2) (pq q2):=by
  have key:∀{l:List (Addr×Pr)},(∀x,x∈l->x∈qs)->aY X.K H (vq l) (pq l):=λ{l}=>by
   induction l with
   |nil=>intro _;exact .nil
   |cons y l ih=>
    intro hl
    obtain⟨i,hi,e⟩:=ON.mp (hl y (N0 ..))
    obtain⟨p,ep',a,ea,qa⟩:=Paired.getP (l:=vq qs) (m:=pq qs) (i:=i) (x:=.ref y.1) hp (by simp[hi,e])
    have:p=y.2:=by simp[hi,e] at ep';exact ep'.symm
    subst this
    exact .cons ⟨a,ea,qa⟩ (ih λx hx=>hl x (N5 _ hx))
  exact key λx hx=>p2.mem_iff.mp hx
 have hv2:Vals (vq q2) (q2.map λq=>Value.ref q.1):=by
  induction q2 with
  |nil=>exact .nil
  |cons y l ih=>exact .cons rfl (by
    clear ih e2 p2 hp2
    induction l with
    |nil=>exact .nil
    |cons z l ih2=>exact .cons rfl ih2)
 have hm2:∀p,p∈pq q2↔p∈pq qs:=λp=>(p2.map (·.2)).mem_iff
 have hpa:=pairs_at I hv2 hp2 λp hpp=>hs p ((hm2 p).mp hpp)
 have hl2:q2.length < 64:=by rw[p2.length_eq];exact hl
 refine L2.ST.sU (v:=.ref S) hpa ((p2.map (·.2)).nodup_iff.mpr nd) (by simpa using hl2) (λQ' hQ'=>L2.ST.oR (by simpa using hh) ho hd hex.1 T' hled (by simp;omega) λh' tk vs ev k=>?_) λh1 h' tk D out qs' c k1 eD k2 ho' hpq hm hr hmem'=>?_
 ·rw[ev,e2]
  rw[O1]
  exact hQ' h' tk k
 ·exact qO I hv2 hp2 (by simpa using hl2) (λl ws rs a1 a2 a3 a4=>q l ws rs a1 a2 a3 λp=>(a4 p).trans (hm2 p)) k1 eD k2 ho' hpq hm hr hmem'
end
def nX (cells:List (Str×Addr)):List (Str×NameKind)->List (Str×Addr)->List (Str×Addr)
 | [],cs=>cs
 | (n,k) :: r,cs=>nX cells r (if k == .free then (n,(cells.lookup n).getD 0) :: cs else cs)
def qJ {scope:Scope}(h:∀y∈scope.names,y.2=.free->∃c,env.cells.lookup y.1=some c):closureFor scope env=pure (nX env.cells scope.names []):=by
 unfold closureFor
 have key:∀(l:List (Str×NameKind)) (cs:List (Str×Addr)),(∀y∈l,y.2=.free->∃c,env.cells.lookup y.1=some c)->
   (forIn l cs (λ(x:Str×NameKind) (r:List (Str×Addr))=>if (x.2 == NameKind.free)=true then (do let a <-cellOf env x.1;pure (ForInStep.yield ((x.1,a) :: r)):Sem _) else pure (ForInStep.yield r)):Sem (List (Str×Addr)))=pure (nX env.cells l cs):=by
  intro l
  induction l with
  |nil=>intro cs _;rfl
  |cons y l ih=>
   intro cs hy
   obtain⟨n,k⟩:=y
   rw[List.forIn_cons]
   unfold nX
   by_cases hk:(k == NameKind.free)=true
   ·have hk':k=.free:=by simpa using hk
    obtain⟨c,hc⟩:=hy (n,k) (N0 ..) hk'
    have hce:cellOf env n=pure c:=by unfold cellOf;rw[hc]
    simp only[hk,O7]
    have hc':env.cells.lookup n=some c:=hc
    rw[hce,hc']
    simp only[pure_bind,Option.getD_some]
    exact ih _ λz hz=>hy z (N5 _ hz)
   ·simp only[hk,OR,Oj]
    simp only[pure_bind]
    exact ih _ λz hz=>hy z (N5 _ hz)
 have:=key scope.names [] h
 simp only[bind_pure_comp] at this ⊢
 first
  |exact this
  | (rw[this];rfl)
  | (simpa using this)
theorem oq :∀{l:List (Str×NameKind)} {cs:List (Str×Addr)},((x,NameKind.free)∈l\/cs.lookup x=some ((cells.lookup x).getD 0))->(nX cells l cs).lookup x=some ((cells.lookup x).getD 0)
 | [],cs,h=>by
  rcases h with h |h
  ·cases h
  ·exact h
 | (n,k) :: r,cs,h=>by
  unfold nX
  refine oq ?_
  by_cases hk:(k == NameKind.free)=true
  ·rw[N1 hk]
   by_cases hx:x=n
   ·subst hx;right;simp
   ·rcases h with h |h
    ·rcases NX.mp h with e |e
     ·injection e with e1 _;exact absurd e1 hx
     ·exact .inl e
    ·right
     rw[lookup_cons,show (x == n)=false by simpa using hx]
     exact h
  ·rw[N8 hk]
   rcases h with h |h
   ·rcases NX.mp h with e |e
    ·injection e with _ e2;exact absurd (by rw[<-e2];rfl) hk
    ·exact .inl e
   ·exact .inr h
theorem oE :∀{l:List (Str×NameKind)} {cs:List (Str×Addr)},(nX cells l cs).lookup x=some c->((x,NameKind.free)∈l/\c=(cells.lookup x).getD 0)\/cs.lookup x=some c
 | [],cs,h=>.inr h
 | (n,k) :: r,cs,h=>by
  unfold nX at h
  rcases oE h with⟨a,b⟩ |a
  ·exact .inl ⟨N5 _ a,b⟩
  ·by_cases hk:(k == NameKind.free)=true
   ·rw[N1 hk,lookup_cons] at a
    by_cases hx:x=n
    ·subst hx
     simp at a
     have:k=.free:=by simpa using hk
     subst this
     exact .inl ⟨N0 ..,a.symm⟩
    ·rw[show (x == n)=false by simpa using hx] at a
     exact .inr a
   ·rw[N8 hk] at a
    exact .inr a
theorem oU {f:Str->NameKind->NameKind}:∀(l:List (Str×NameKind)),(l.map λy=>(y.1,f y.1 y.2)).lookup x=(l.lookup x).map (f x)
 | []=>rfl
 | (n,k) :: l=>by
  rw[OL,lookup_cons,lookup_cons]
  by_cases hx:x=n
  ·subst hx;simp
  ·have hb:(x == n)=false:=by simpa using hx
   simp only[hb]
   exact oU l
def qr (scope:Scope)(env:Env)(x:Str):(relabel scope env).names.lookup x=(scope.names.lookup x).map λk=>if (k == .free && env.scope.kind == .function && env.kindOf x == some .cell) then .cell else k:=by
 have e:(relabel scope env).names=scope.names.map λy=>(y.1,if (y.2 == .free && env.scope.kind == .function && env.kindOf y.1 == some .cell) then .cell else y.2):=by
  unfold relabel
  dsimp only
  refine Pf λy _=>?_
  obtain⟨n,k⟩:=y
  dsimp only
  split <;> rfl
 rw[e]
 exact oU (f:=λn k=>if (k == .free && env.scope.kind == .function && env.kindOf n == some .cell) then .cell else k) scope.names
def jE (X:Cx)(NB:List Str)(scope:Scope)(C:Addr)(ex:List Addr)(s3:Shared)(H3:Hp)(pn:List (Addr×Obj)):Cx:=
 {X with N:=NB,s₀:=s3,H₀:=H3,env:=compEnvC scope (nX X.env.cells scope.names []) C X.env,outer:=X.stack,ex:=ex,fn:=λ_=>false,pn:=pn,xe:=λ_ _=>False}
def dS (own:Nat)(ixs:List Nat)(σ:St):St:=List.replicate own none ++ ixs.map λi=>(σ[i]?).join
structure dG (X:Cx)(NB:List Str)(own:Nat)(ixs:List Nat)(scope:Scope):Prop where
 kind:scope.kind=.function
 nocell:∀y∈scope.names,y.2≠.cell
 names:∀y∈scope.names,scope.names.lookup y.1=some y.2
 frees:∀y∈scope.names,y.2=.free->X.env.kindOf y.1=some .cell\/X.env.kindOf y.1=some .free
 nd:NB.Nodup
 len:NB.length=own + ixs.length
 at':∀k,k < ixs.length->NB[own + k]? =X.N[ixs.getD k 0]?/\∀x,NB[own + k]? =some x->(x,NameKind.free)∈scope.names
section
variable {X:Cx}{NB:List Str}{own:Nat}{ixs:List Nat}{scope:Scope}{pins:List (Addr×Obj)}{σ:St}{H:Hp}{s:Shared}
def BJ (S:dG X NB own ixs scope)(I:Inv X pins σ H s)(hfp:∀b∈fp,mH X pins H b)(hob:∀b∈fp,∃o,s.heap.get? b=some o){h1:Heap}{tk:Nat}
  (hn:h1.Ns s.heap.objs.size (λ_=>none)) (hk:∀b o,s.heap.get? b=some o->h1.get? b=some o) :
  Inv (jE X NB scope s.heap.objs.size fp s H (X.pn ++ pins)) [] (dS own ixs σ) H {s with heap:=h1,toks:=tk}:=by
 have stk:=I.stack
 have frees:∀{x:Str},(x,NameKind.free)∈scope.names->∃c,X.env.cells.lookup x=some c:=λ{x} hx=>I.ok.has x (S.frees _ hx rfl)
 have clE:∀{x:Str} {c:Addr},(nX X.env.cells scope.names []).lookup x=some c->(x,NameKind.free)∈scope.names/\X.env.cells.lookup x=some c:=λ{x c} h=>by
  rcases oE h with⟨a,b⟩ |a
  ·obtain⟨c',e⟩:=frees a
   rw[e] at b
   exact⟨a,by rw[e,b];rfl⟩
  ·simp at a
 have kindB:∀x,(jE X NB scope s.heap.objs.size fp s H (X.pn ++ pins)).env.kindOf x=(scope.names.lookup x).map λk=>if (k == .free && X.env.scope.kind == .function && X.env.kindOf x == some .cell) then .cell else k:=λx=>qr scope X.env x
 have isFree:∀{x:Str},((jE X NB scope s.heap.objs.size fp s H (X.pn ++ pins)).env.kindOf x=some .cell\/(jE X NB scope s.heap.objs.size fp s H (X.pn ++ pins)).env.kindOf x=some .free)->(x,NameKind.free)∈scope.names:=λ{x} h=>by
  rw[kindB] at h
  cases e:scope.names.lookup x with
  |none=>rw[e] at h;simp at h
  |some k=>
   have hm:=Qd e
   cases k with
   |free=>exact hm
   |cell=>exact absurd rfl (S.nocell _ hm)
   |_=>rw[e] at h;simp at h
 have neN:∀b o,s.heap.get? b=some o->b≠s.heap.objs.size:=λb o e=>Oz (Oc e)
 have cellN:∀{x:Str} {c:Addr},X.env.cells.lookup x=some c->c < s.heap.objs.size:=λ{x c} e=>by
  obtain⟨v,o,ho,_⟩:=I.cell x c e
  exact Oc ho
 have ok:(jE X NB scope s.heap.objs.size fp s H (X.pn ++ pins)).Ok:=by
  refine⟨I.ok.mod,S.kind,I.ok.glob,I.ok.blt,N4 _,λx y c h1 h2=>I.ok.inj x y c (clE h1).2 (clE h2).2,λx hx=>?_,λx c h=>(by cases h),I.ok.hd,I.ok.frames,.inl rfl,λb hb=>?_,I.bs,Pl I.ok.bsz I.sz,λb o e hb=>?_,λb hb hs=>?_,stk,I.stkFree⟩
  ·have hm:=isFree hx
   exact⟨_,oq (.inl hm)⟩
  ·obtain⟨_,f1,f2,f3,f4,f5⟩:=hfp b hb
   refine⟨?_,λx c h z=>f4 x c (clE h).2 z⟩
   obtain⟨o,ho⟩:=hob b hb
   exact neN b o ho
  ·obtain⟨_,f1,f2,f3,f4,f5⟩:=hfp b hb
   rcases f3 with f3 |f3
   ·exact I.ok.noex b o e f3
   ·exact absurd (OF (Oc e) (Pl I.ok.bsz f3)) (OO _)
  ·obtain⟨_,f1,f2,f3,f4,f5⟩:=hfp b hb
   rcases NX.mp (I.stkSub b hs) with z |z
   ·exact f1 z
   ·exact f2 z
 refine⟨ok,rfl,I.bare,Un.kept hk,⟨_,hn,λi x v h1' h2' h3'=>?_⟩,λx c h=>?_,I.hok.fresh (N4 _),λx c h=>I.freeC x c (clE h).2,λp hp=>?_,I.hok.kept hk,?_⟩
 ·
  have h1':NB[i]? =some x:=h1'
  have hown:own<=i:=by
   refine Classical.byContradiction λhc=>?_
   have hlt:i < own:=Nat.lt_of_not_le hc
   unfold dS at h2'
   rw[OU (by simpa using hlt),PL,N1 hlt] at h2'
   cases h2'
  obtain⟨k,rfl⟩:∃k,i=own + k:=⟨i - own,by omega⟩
  have hk':k < ixs.length:=by
   have:=(N9.mp h1').1
   rw[S.len] at this;omega
  obtain⟨e1,e2⟩:=S.at' k hk'
  have hm:=e2 x h1'
  unfold dS at h2'
  rw[OK (by simp),Ql,Nat.add_sub_cancel_left,Oa,NW hk'] at h2'
  simp only[Option.map_some,Option.some.injEq] at h2'
  have hix:ixs.getD k 0=ixs[k]:=by simp[hk']
  have hσ:σ[ixs[k]]? =some (some v):=by
   cases e:σ[ixs[k]]? with
   |none=>rw[e] at h2';cases h2'
   |some o=>rw[e] at h2';simp at h2';rw[h2']
  rw[e1,hix] at h1'
  have hkind:=S.frees _ hm rfl
  have hvis:AL X.env.scope x:=hkind.elim (λz=>.inr (.inl z)) (λz=>.inr (.inr z))
  obtain⟨m,hm',hl⟩:=I.loc
  obtain⟨u,r,look⟩:=hl _ x v h1' hσ hvis
  refine⟨u,r,.inr ⟨?_,?_⟩⟩
  ·rw[kindB]
   have hfr:scope.names.lookup x=some .free:=S.names _ hm
   rw[hfr]
   simp only[Option.map_some]
   split
   ·exact .inl rfl
   ·exact .inr rfl
  ·rcases look with⟨z,_⟩ | ⟨_,c,hc,hcell⟩
   ·rcases hkind with q |q
    ·rw[q] at z;cases z
    ·rw[q] at z;cases z
   ·refine⟨c,?_,?_⟩
    ·have:=oq (cells:=X.env.cells) (cs:=[]) (.inl hm)
     rw[hc] at this
     exact this
    ·obtain⟨o,ho,hd⟩:=hcell
     exact⟨o,hk _ _ ho,hd⟩
 ·obtain⟨v,o,ho,hd⟩:=I.cell x c (clE h).2
  exact⟨v,o,hk _ _ ho,hd⟩
 ·have hp':p∈X.pn ++ pins:=by
   rcases Of.mp hp with z |z
   ·exact z
   ·cases z
  obtain⟨e,n,ne,nf,d⟩:=I.pin p hp'
  refine⟨hk _ _ e,n,neN _ _ e,λz=>?_,d⟩
  rcases NX.mp (I.stkSub _ z) with q |q
  ·exact ne q
  ·exact nf q
 ·show (dS own ixs σ).length=NB.length
  unfold dS
  rw[S.len];simp
end
abbrev zW (ifs:List Expr)(env:Env):Sem Bool:=forIn ifs true λc r=>if r=true then do let ok <-isTrue c env (eval c env);pure (ForInStep.yield ok) else pure (ForInStep.yield r)
theorem AN {prog:Program}{w:World}{A:Around}{R:Result->Shared->Prop}{s:Shared}{elt target iter:Expr}{ifs:List Expr}{scope:Scope}{pos:Pos}{it acc:Value}{env:Env}(I:Nat->Shared->Prop)
  (turn:∀n s,I n s->wpAny (model prog w) A (pyNext it) (λr s1=>match r with
   |none=>R (.ok .next) s1
   |some v=>wpAny (model prog w) A (letOwnedTupleGo target it v) (λ_ s1'=>wpAny (model prog w) A (assign target env v) (λ_ s2=>
     wpAny (model prog w) A (zW ifs env) (λok s3=>
      if ok=true then wpAny (model prog w) A (eval elt env) (λx s4=>wpAny (model prog w) A (call (.builtin "list.append") [acc,x]) (λ_ s5=>∃m,m < n/\I m s5) (λ_ _=>False) s4) (λ_ _=>False) s3
      else ∃m,m < n/\I m s3) (λ_ _=>False) s2) (λ_ _=>False) s1') (λ_ _=>False) s1) (λ_ _=>False) s)
  (n:Nat) (h:I n s):codeAny (model prog w) A (.compLoop (.ListComp elt [⟨target,iter,ifs,0⟩] scope pos) 0 it acc env) R s:=by
 refine codeAny_loop rfl I (λn s hI=>?_) n h
 (show wpAny _ A ((compTurn (.ListComp elt [⟨target,iter,ifs,0⟩] scope pos) 0 it acc env).onRaise (λx=>do (noteFrame x env);theTreesLotGoes x)) _ _ s)
 refine wpAny_noted ?_
 rw[compTurn_list]
 refine NV (wpAny_standAt (NV (PR (turn n s hI) (λr s1 h1=>?_) λ_ _ z=>z.elim)))
 cases r with
 |none=>exact N2 h1
 |some v=>
  refine NV (PR h1 (λ_ s1' h1'=>?_) λ_ _ z=>z.elim)
  refine NV (PR h1' (λ_ s2 h2=>NV (PR h2 (λok s3 h3=>?_) λ_ _ z=>z.elim)) λ_ _ z=>z.elim)
  cases ok with
  |false=>exact N2 ⟨rfl,h3⟩
  |true=>exact NV (NV (PR h3 (λx s4 h4=>NV (PR h4 (λ_ s5 h5=>N2 (N2 ⟨rfl,h5⟩)) λ_ _ z=>z.elim)) λ_ _ z=>z.elim))
def Ec (X:Cx)(ifs:List Expr)(t:TT):Prop:=
 ∀(pins:List (Addr×Obj)) (s:Shared) (σ:St) (H:Hp) (Q:Bool->Hp->Prop),Inv X pins σ H s->t σ H Q->wpAny (model X.prog X.w) X.A (zW ifs X.env) (TP X pins σ Q) X.xe s
def JP:TT:=λ_ H Q=>Q true H
def uv {X:Cx}:Ec X [] JP:=λpins s σ H Q I h=>N2 ⟨H,I,h⟩
def zL {X:Cx}(h:PT X c t):Ec X [c] t:=λpins s σ H Q I q=>wpAny_tests_one (h pins s σ H Q I q)
def xQ (own:Nat)(ixs:List Nat)(wi:TI)(g:TG)(tt:TT)(te:TE)(σ:St)(H:Hp)(Q:VK):Prop:=wi σ H λJ H1=>∀D,H1 D=none->∃W:Nat->Nat->St->Hp->Prop,(∃m,W 0 m (dS own ixs σ) (upd H1 D (.lst [])))/\∀i m σ' H',W i m σ' H'->
 (J.stop i H'/\(∃acc,H' D=some (.lst acc))/\Q (.ref D) H')\/
 (J.go i H'/\∃N:St->Hp->Prop,(∀σ2 H2,N σ2 H2->∃m',m' < m/\W (i + 1) m' σ2 H2)/\∀x H2,J.yld i H' x H2->g x σ' H2 λσ3 H3=>tt σ3 H3 λb H4=>
  if b=true then te σ3 H4 λv H5=>∃acc,H5 D=some (.lst acc)/\acc.length < sizeLine/\N σ3 (upd H5 D (.lst (acc ++ [v]))) else N σ3 H4)
section
variable {X:Cx}{NB:List Str}{own:Nat}{ixs:List Nat}{scope:Scope}{elt tg iter:Expr}{ifs:List Expr}{pos:Pos}{wi:TI}{g:TG}{tt:TT}{te:TE}
def tE (hc:X.calm=true)(S:dG X NB own ixs scope)
  (hg:∀C ex s3 H3 pn,PG (jE X NB scope C ex s3 H3 pn) tg g) (ht:∀C ex s3 H3 pn,Ec (jE X NB scope C ex s3 H3 pn) ifs tt) (he:∀C ex s3 H3 pn,PE (jE X NB scope C ex s3 H3 pn) elt te)
  {pins:List (Addr×Obj)} {σ:St} {H1:Hp} {s2:Shared} {it:Addr} {fp:List Addr} {tn:Nat->Heap->Prop} {J:It} {Q:VK} (I2:Inv X pins σ H1 s2) (T:Turn X.prog X.w X.K tg J fp it tn) (st2:tn 0 s2.heap) (f2:∀b∈fp,mH X pins H1 b)
  (hQ:∀D,H1 D=none->∃W:Nat->Nat->St->Hp->Prop,(∃m,W 0 m (dS own ixs σ) (upd H1 D (.lst [])))/\∀i m σ' H',W i m σ' H'->
   (J.stop i H'/\(∃acc,H' D=some (.lst acc))/\Q (.ref D) H')\/
   (J.go i H'/\∃N:St->Hp->Prop,(∀σ2 H2,N σ2 H2->∃m',m' < m/\W (i + 1) m' σ2 H2)/\∀x H2,J.yld i H' x H2->g x σ' H2 λσ3 H3=>tt σ3 H3 λb H4=>
    if b=true then te σ3 H4 λv H5=>∃acc,H5 D=some (.lst acc)/\acc.length < sizeLine/\N σ3 (upd H5 D (.lst (acc ++ [v]))) else N σ3 H4))
  {E:Value->Shared->Prop} {RR:Value->Addr->Result->Shared->Prop}
  (fin:∀D C H' s' m,Inv X pins σ H' s'->Q (.ref D) H'->s'.heap.Ns C m->H' C=none->C≠X.env.locals->(∀x c,X.env.cells.lookup x=some c->c≠C)->X.s₀.heap.objs.size<=C->(∀p∈X.pn ++ pins,p.1≠C)->RR (.ref D) C (.ok .next) s') :
  wpAny (model X.prog X.w) X.A (newList []) (λacc s3=>wpAny (model X.prog X.w) X.A (newFunctionEnv scope X.env.globals (nX X.env.cells scope.names []) [] X.env.qual none .none (some X.env)) (λcenv s4=>
   codeAny (model X.prog X.w) X.A (.compStart (.ListComp elt [⟨tg,iter,ifs,0⟩] scope pos) 0 (.ref it) acc {cenv with scope:=relabel scope X.env}) (RR acc cenv.locals) s4) E s3) E s2:=by
 refine QQ ?_ (OJ _)
 have hD:H1 s2.heap.objs.size=none:=I2.hok.fresh (N4 _)
 obtain⟨W,⟨m0,w0⟩,turn⟩:=hQ s2.heap.objs.size hD
 generalize hs3:({s2 with heap:=s2.heap.push (seqObj "list" ([]:List Value).toArray 0)}:Shared)=s3
 have I3:Inv X pins σ (upd H1 s2.heap.objs.size (.lst [])) s3:=by
  rw[<-hs3]
  exact I2.lnew (ys:=[]) (its:=[]) (t':=s2.toks) .nil (OJ _)
 have k3:∀b o,s2.heap.get? b=some o->s3.heap.get? b=some o:=λb o e=>by rw[<-hs3];exact NY _ e
 have sz3:s3.heap.objs.size=s2.heap.objs.size + 1:=by rw[<-hs3];exact O9 ..
 have ob2:∀b∈fp,∃o,s2.heap.get? b=some o:=λb hb=>let ⟨o,e,_⟩:=T.obj 0 _ st2 b hb;⟨o,e⟩
 have neD:∀b∈fp,b≠s2.heap.objs.size:=λb hb=>let ⟨o,e⟩:=ob2 b hb;Oz (Oc e)
 have f3:∀b∈fp,mH X pins (upd H1 s2.heap.objs.size (.lst [])) b:=λb hb=>by
  obtain⟨a1,a2⟩:=f2 b hb
  exact⟨by rw[aC (neD b hb)];exact a1,a2⟩
 have st3:tn 0 s3.heap:=T.keep _ _ _ st2 λb _ o e=>k3 b o e
 refine wpAny_newFunctionEnv S.nocell (λy hy=>by simp at hy) (λh4 hn4 sb4=>?_) S.kind
 have k4:∀b o,s3.heap.get? b=some o->h4.get? b=some o:=λb o e=>sb4.extBut b o (Oz (Oc e)) (NY _ e)
 have I4:Inv (jE X NB scope s3.heap.objs.size fp s3 (upd H1 s2.heap.objs.size (.lst [])) (X.pn ++ pins)) [] (dS own ixs σ) (upd H1 s2.heap.objs.size (.lst [])) {s3 with heap:=h4,toks:=s3.toks + ([]:List (Str×Value)).length}:=
  BJ S I3 f3 (λb hb=>let ⟨o,e⟩:=ob2 b hb;⟨o,k3 _ _ e⟩) (by simpa using hn4) k4
 have st4:tn 0 h4:=T.keep _ _ _ st3 λb _ o e=>k4 b o e
 generalize hB:jE X NB scope s3.heap.objs.size fp s3 (upd H1 s2.heap.objs.size (.lst [])) (X.pn ++ pins)=B at I4
 have hgB:PG B tg g:=by rw[<-hB];exact hg _ _ _ _ _
 have htB:Ec B ifs tt:=by rw[<-hB];exact ht _ _ _ _ _
 have heB:PE B elt te:=by rw[<-hB];exact he _ _ _ _ _
 have eP:B.prog=X.prog:=by rw[<-hB];rfl
 have eW:B.w=X.w:=by rw[<-hB];rfl
 have eK:B.K=X.K:=by rw[<-hB];rfl
 have eA:B.A=X.A:=by rw[<-hB];rfl
 have eC:B.calm=true:=by rw[<-hB];exact hc
 have eX:B.xe=λ_ _=>False:=by rw[<-hB];rfl
 have eE:B.env=compEnvC scope (nX X.env.cells scope.names []) s3.heap.objs.size X.env:=by rw[<-hB];rfl
 have ex:B.ex=fp:=by rw[<-hB];rfl
 have eL:B.env.locals=s3.heap.objs.size:=by rw[eE];rfl
 have stat:∀{H':Hp},(∀b∈fp,H' b=none)->∀b∈fp,mH B [] H' b:=λ{H'} hn b hb=>by
  obtain⟨a1,a2,a3,a4,a5,a6⟩:=f3 b hb
  obtain⟨o,eo⟩:=ob2 b hb
  refine⟨hn b hb,?_,λz=>?_,.inl (by rw[ex];exact hb),λx c e z=>?_,λp hp z=>?_⟩
  ·rw[eL];exact Oz (Oc (k3 _ _ eo))
  ·have hz:b∈mK X.stack:=by rw[<-hB] at z;exact z
   rcases NX.mp (I3.stkSub b hz) with q |q
   ·exact a2 q
   ·exact a3 q
  ·rw[eE] at e
   rcases oE e with⟨m1,m2⟩ |m1
   ·obtain⟨c',e'⟩:=I3.ok.has x (S.frees _ m1 rfl)
    rw[e'] at m2
    exact a5 x c' e' (by rw[<-z,m2];rfl)
   ·simp at m1
  ·have hp':p∈X.pn ++ pins:=by
    rw[<-hB] at hp
    rcases Of.mp hp with q |q
    ·exact q
    ·cases q
   exact a6 p hp' z
 have back:∀{σ':St} {H':Hp} {s':Shared},Inv B [] σ' H' s'->Inv X pins σ H' s':=λ{σ' H' s'} J'=>by
  have u:=J'.base
  have os:=J'.os
  have bare:=J'.bare
  have hok:=J'.hok
  subst hB
  exact I3.call' (ch:=fp) os u hok bare λb hb=>by
   obtain⟨a1,a2,a3,a4,a5,a6⟩:=f3 b hb
   exact⟨a4,a2,a5,a6⟩
 have loop:∀s5:Shared,s5={s3 with heap:=h4,toks:=s3.toks + ([]:List (Str×Value)).length}->
   codeAny (model X.prog X.w) X.A (.compLoop (.ListComp elt [⟨tg,iter,ifs,0⟩] scope pos) 0 (.ref it) (.ref s2.heap.objs.size) (compEnvC scope (nX X.env.cells scope.names []) s3.heap.objs.size X.env)) (RR (.ref s2.heap.objs.size) s3.heap.objs.size) s5:=by
  rintro s5 rfl
  refine AN (λn s'=>∃i σ' H',Inv B [] σ' H' s'/\tn i s'.heap/\(∀b∈fp,H' b=none)/\W i n σ' H') ?_ m0 ⟨0,_,_,I4,st4,λb hb=>(f3 b hb).1,w0⟩
  rintro n s6 ⟨i,σ6,H6,I6,st6,fr6,w6⟩
  rcases turn i n σ6 H6 w6 with⟨stop,⟨acc,hacc⟩,qn⟩ | ⟨go,N,hN,step⟩
  ·have:=T.done B eP eW eK eC i [] s6 σ6 H6 (λ_ _=>False) I6 (stat fr6) st6 stop
   rw[eA] at this
   refine cR this λr s7 ⟨hr,I7⟩=>?_
   subst hr
   obtain⟨m7,hn7,_⟩:=I7.loc
   rw[eL] at hn7
   have J7:=back I7
   refine fin _ _ H6 s7 m7 J7 qn hn7 (by rw[<-eL];exact I7.free) (λz=>?_) (λx c e z=>?_) ?_ λp hp z=>?_
   ·have:=I3.lt
    rw[<-z] at this
    exact OO _ this
   ·obtain⟨v,o,ho,_⟩:=I3.cell x c e
    exact absurd (Oc ho) (by rw[z];exact OO _)
   ·exact I3.sz
   ·have:=Oc (I3.pin p hp).1
    rw[z] at this
    exact OO _ this
  ·have hitem:=T.item B eP eW eK eC i [] s6 σ6 H6 (λ_ _=>False) I6 (stat fr6) st6 go
   rw[eA] at hitem
   refine cR hitem λr s7 ⟨u,hr,h7⟩=>?_
   subst hr
   refine cR h7 λ_ s8 ⟨x,H8,I8,r8,y8,st8,fr8⟩=>?_
   have I8':=I8.pinned (stat fr8) (T.obj _ _ st8)
   have ha:=hgB _ s8 σ6 H8 x u _ I8' r8 (step x H8 y8)
   rw[eP,eW,eA,eE,eX] at ha
   refine cR ha λ_ s9 ⟨σ9,H9,I9,q9⟩=>?_
   have hb:=htB _ s9 σ9 H9 _ I9 q9
   rw[eP,eW,eA,eE,eX] at hb
   refine cR hb λok s10 ⟨H10,I10,q10⟩=>?_
   have again:∀{σ7:St} {H7:Hp} {s7:Shared},Inv B ([] ++ qz fp s8.heap) σ7 H7 s7->N σ7 H7->∃m,m < n/\∃i σ' H',Inv B [] σ' H' s7/\tn i s7.heap/\(∀b∈fp,H' b=none)/\W i m σ' H':=λ{σ7 H7 s7} I7 n7=>by
    obtain⟨m',hm,w7⟩:=hN σ7 H7 n7
    refine⟨m',hm,i + 1,σ7,H7,I7.unpinned,T.keep _ _ _ st8 λb hb o e=>(I7.pin (b,o) (Ox _ (Ox _ (jV hb e)))).1,λb hb=>?_,w7⟩
    obtain⟨o,e,d⟩:=T.obj _ _ st8 b hb
    exact (I7.pin (b,o) (Ox _ (Ox _ (jV hb e)))).2.1
   cases ok with
   |false=>
    simp only[Oj,OR] at q10 ⊢
    exact again I10 q10
   |true=>
    simp only[O7] at q10 ⊢
    have hv:=heB _ s10 σ9 H10 _ I10 q10
    rw[eP,eW,eA,eE,eX] at hv
    refine cR hv λy s11 ⟨v,H11,I11,r11,acc,hacc,hz,q11⟩=>?_
    have hap:=nM (X:=B) _ s11 σ9 H11 (.ref s2.heap.objs.size) [v] (.ref s2.heap.objs.size) [y] (λz H'=>z=.non/\N σ9 H') I11 rfl (.cons r11 .nil) ⟨_,acc,v,rfl,rfl,hacc,hz,rfl,q11⟩
    rw[eP,eW,eA,eX] at hap
    exact cR hap λ_ s12 ⟨_,H12,I12,_,_,q12⟩=>again I12 q12
 exact codeAny_compStart_list (loop _ rfl) (T.self X.A 0 _ _ _ st4 (loop _ rfl))
def wF (hc:X.calm=true)(S:dG X NB own ixs scope)(hi:PI X tg iter wi)
  (hg:∀C ex s3 H3 pn,PG (jE X NB scope C ex s3 H3 pn) tg g) (ht:∀C ex s3 H3 pn,Ec (jE X NB scope C ex s3 H3 pn) ifs tt) (he:∀C ex s3 H3 pn,PE (jE X NB scope C ex s3 H3 pn) elt te)
  (hs:∀x,foldedSetIterable iter X.env x=pure x:=by intro _;rfl) :
  PE X (.ListComp elt [⟨tg,iter,ifs,0⟩] scope pos) (xQ own ixs wi g tt te):=by
 intro pins s σ H Q I h
 rw[eval_ListComp]
 refine wpAny_comprehension_free (use:=none) rfl hs (qJ λy hy e=>I.ok.has _ (S.frees y hy e)) S.kind (λy hy e=>by rw[S.names y hy,e]) ?_
 refine cR (hi pins s σ H _ I h) λv s1 h1=>cR h1 λitv s2 h2=>?_
 obtain⟨it,fp,tn,J,H2,e,I2,T,st2,f2,q2⟩:=h2
 subst e
 refine tE hc S hg ht he I2 T st2 f2 q2 (RR:=λacc C=>compPost (model X.prog X.w) X.A X.xe none (EP X pins σ Q) acc C) λD C H' s' m J' q hn hC n1 n2 n3 n4=>?_
 refine⟨m,hn,λh'' sb=>⟨.ref D,H',?_,rfl,q⟩⟩
 exact J'.turned (t':=s'.toks) (it:=C) (λb o hb e=>sb.extBut b o hb e) hC n1 (.inr n3) n2 n4
def DF {i:Nat}{y:Str}{py spos:Pos}(hc:X.calm=true)(S:dG X NB own ixs scope)(hi:PI X tg iter wi)
  (hg:∀C ex s3 H3 pn,PG (jE X NB scope C ex s3 H3 pn) tg g) (ht:∀C ex s3 H3 pn,Ec (jE X NB scope C ex s3 H3 pn) ifs tt) (he:∀C ex s3 H3 pn,PE (jE X NB scope C ex s3 H3 pn) elt te)
  (hN:X.N.Nodup) (hy:X.N[i]? =some y) (hl:X.env.scope.names.lookup y=some .local)
  (hsw:swapsWith (.ListComp elt [⟨tg,iter,ifs,0⟩] scope pos) (some (.Name y py)) spos.line X.env=pure true)
  (hs:∀x,foldedSetIterable iter X.env x=pure x:=by intro _;rfl) :
  PS X (.Assign [.Name y py] (.ListComp elt [⟨tg,iter,ifs,0⟩] scope pos) spos) (λD σ H=>xQ own ixs wi g tt te σ H λv H'=>D.nx (σ.set i (some v)) H'):=by
 intro pins s σ H D I h
 rw[exec_Assign_Name_used _ _ _ _ hsw]
 refine NV (wpAny_standAt (NV ?_))
 show wpAny _ X.A (comprehension (.ListComp elt [⟨tg,iter,ifs,0⟩] scope pos) scope X.env _ (newList []) false (eval iter X.env) (some (assign (.Name y py) X.env)) >>= λ_=>pure ()) _ _ s
 refine NV (PR (wpAny_comprehension_free (use:=some (assign (.Name y py) X.env)) (Q:=λ_ s'=>SP X pins D .next s') rfl hs (qJ λy hy e=>I.ok.has _ (S.frees y hy e)) S.kind (λy hy e=>by rw[S.names y hy,e]) ?_)
  (λ_ s' hq=>N2 (N2 hq)) λ_ _ e=>e)
 refine cR (hi pins s σ H _ I h) λv s1 h1=>cR h1 λitv s2 h2=>?_
 obtain⟨it,fp,tn,J,H2,e,I2,T,st2,f2,q2⟩:=h2
 subst e
 refine tE hc S hg ht he I2 T st2 f2 q2 (Q:=λv H'=>D.nx (σ.set i (some v)) H') (RR:=λacc C=>compPost (model X.prog X.w) X.A X.xe (some (assign (.Name y py) X.env)) (λ_ s'=>SP X pins D .next s') acc C) λD' C H' s' m J' q hn hC n1 n2 n3 n4=>?_
 show wpAny _ X.A (assign (.Name y py) X.env (.ref D')) _ _ s'
 refine wpAny_assign_Name (sx J' hN hy (.inl hl) (v:=.ref D') rfl (λs'' I'' ⟨a,sb,ha⟩=>?_) (.inr hl))
 have hCa:C≠a:=by
  rcases ha with z |z
  ·rw[z];exact n1
  ·exact (n2 _ _ z).symm
 refine⟨m,hn.sameBut sb hCa,λh3 sb3=>⟨_,H',?_,q⟩⟩
 exact I''.turned (t':=s''.toks) (it:=C) (λb o hb e=>sb3.extBut b o hb e) hC n1 (.inr n3) n2 n4
end
section
variable {own:Nat}{ixs:List Nat}{g:TG}{tt:TT}{te:TE}{σ:St}{H:Hp}{Q:VK}{K:Frag}{D a:Addr}{xs:List V}
abbrev fC (g:TG)(tt:TT)(te:TE)(D:Addr)(x:V)(σ:St)(H:Hp)(N:St->Hp->Prop):Prop:=g x σ H λσ3 H3=>tt σ3 H3 λb H4=>
  if b=true then te σ3 H4 λv H5=>∃acc,H5 D=some (.lst acc)/\acc.length < sizeLine/\N σ3 (upd H5 D (.lst (acc ++ [v]))) else N σ3 H4
def BM (Pv:Nat->St->Hp->Prop)(h0:Pv 0 (dS own ixs σ) (upd H D (.lst [])))(hl:∀i σ H,i<=xs.length->Pv i σ H->gf K H a xs)
  (hs:∀i x σ H,xs[i]? =some x->Pv i σ H->fC g tt te D x σ H (Pv (i + 1))) (hd:∀σ H,Pv xs.length σ H->(∃acc,H D=some (.lst acc))/\Q (.ref D) H) :
  ∃W:Nat->Nat->St->Hp->Prop,(∃m,W 0 m (dS own ixs σ) (upd H D (.lst [])))/\∀i m σ' H',W i m σ' H'->
   ((AQ K a).stop i H'/\(∃acc,H' D=some (.lst acc))/\Q (.ref D) H')\/
   ((AQ K a).go i H'/\∃N:St->Hp->Prop,(∀σ2 H2,N σ2 H2->∃m',m' < m/\W (i + 1) m' σ2 H2)/\∀x H2,(AQ K a).yld i H' x H2->fC g tt te D x σ' H2 N):=by
 refine⟨λi m σ H=>m=xs.length - i/\i<=xs.length/\Pv i σ H,⟨xs.length,by simp,OJ _,h0⟩,?_⟩
 rintro i m σ H ⟨rfl,hi,p⟩
 have q:=hl i σ H hi p
 by_cases hlt:i < xs.length
 ·refine .inr ⟨⟨xs,xs[i],q,by simp[hlt]⟩,Pv (i + 1),λσ' H' p'=>⟨xs.length - (i + 1),by omega,rfl,hlt,p'⟩,λx H' y=>?_⟩
  obtain⟨e,y⟩:=y
  subst e
  exact hs i x σ _ (y xs q) p
 ·have e:i=xs.length:=by omega
  subst e
  exact .inl ⟨⟨xs,q,N4 _⟩,hd σ H p⟩
def yU {lo:Int}{n:Nat}(Pv:Nat->St->Hp->Prop)(h0:Pv 0 (dS own ixs σ) (upd H D (.lst [])))
  (hs:∀i σ H,i < n->Pv i σ H->fC g tt te D (.int (lo + i)) σ H (Pv (i + 1))) (hd:∀σ H,Pv n σ H->(∃acc,H D=some (.lst acc))/\Q (.ref D) H) :
  ∃W:Nat->Nat->St->Hp->Prop,(∃m,W 0 m (dS own ixs σ) (upd H D (.lst [])))/\∀i m σ' H',W i m σ' H'->
   ((AX lo n).stop i H'/\(∃acc,H' D=some (.lst acc))/\Q (.ref D) H')\/
   ((AX lo n).go i H'/\∃N:St->Hp->Prop,(∀σ2 H2,N σ2 H2->∃m',m' < m/\W (i + 1) m' σ2 H2)/\∀x H2,(AX lo n).yld i H' x H2->fC g tt te D x σ' H2 N):=by
 refine⟨λi m σ H=>m=n - i/\i<=n/\Pv i σ H,⟨n,by simp,OJ _,h0⟩,?_⟩
 rintro i m σ H ⟨rfl,hi,p⟩
 by_cases hlt:i < n
 ·refine .inr ⟨hlt,Pv (i + 1),λσ' H' p'=>⟨n - (i + 1),by omega,rfl,hlt,p'⟩,λx H' y=>?_⟩
  obtain⟨e,y⟩:=y
  subst e y
  exact hs i σ _ hlt p
 ·have e:i=n:=by omega
  subst e
  exact .inl ⟨N4 _,hd σ H p⟩
end
mutual
inductive Rep (K:Frag)(H:Hp):V->PyData->Prop
 |non:Rep K H .non .none
 |bl (b:Bool):Rep K H (.bl b) (.bool b)
 |int (i:Int):Rep K H (.int i) (.int i)
 |str (x:Str):Rep K H (.str x) (.str x)
 |tup {a:Addr} {xs:List V} {ds:List PyData}:fO K H a xs->lK K H xs ds->Rep K H (.ref a) (.tuple ds)
 |lst {a:Addr} {xs:List V} {ds:List PyData}:gf K H a xs->lK K H xs ds->Rep K H (.ref a) (.list ds)
inductive lK (K:Frag)(H:Hp):List V->List PyData->Prop
 |nil:lK K H [] []
 |cons {x:V} {xs:List V} {d:PyData} {ds:List PyData}:Rep K H x d->lK K H xs ds->lK K H (x :: xs) (d :: ds)
end
section
variable {X:Cx}{pins:List (Addr×Obj)}{σ:St}{H H':Hp}{s:Shared}
mutual
theorem Rep.reads (I:Inv X pins σ H s):∀{x:V} {d:PyData} {u:Value},Rep X.K H x d->RelV x u->∃as,Reads s.heap u d as
 |_,_,_,.non,r=>by cases r;exact⟨_,.none⟩
 |_,_,_,.bl b,r=>by cases r;exact⟨_,.bool b⟩
 |_,_,_,.int i,r=>by obtain⟨t,rfl⟩:=r;exact⟨_,.int i t⟩
 |_,_,_,.str x,r=>by obtain⟨t,rfl⟩:=r;exact⟨_,.str x t⟩
 |_,_,_,.tup h hs,r=>by
  cases r
  obtain⟨its,rv,⟨o,ho,hc,n,hd⟩,_⟩:=I.tuple h
  obtain⟨as,q⟩:=lK.reads I hs rv
  exact⟨_,.tuple ho hc hd (by simpa using q)⟩
 |_,_,_,.lst h hs,r=>by
  cases r
  obtain⟨its,rv,pl,_⟩:=I.list h
  obtain⟨o,ho,hc,n,hd⟩:=pl.isList
  obtain⟨as,q⟩:=lK.reads I hs rv
  exact⟨_,.list ho hc hd (by simpa using q)⟩
theorem lK.reads (I:Inv X pins σ H s):∀{xs:List V} {ds:List PyData} {us:List Value},lK X.K H xs ds->Vals xs us->∃as,ReadsAll s.heap us ds as
 |_,_,_,.nil,r=>by cases r;exact⟨_,.nil⟩
 |_,_,_,.cons h hs,r=>by
  cases r with
  |cons r1 r2=>
   obtain⟨as,q⟩:=Rep.reads I h r1
   obtain⟨bs,q'⟩:=lK.reads I hs r2
   exact⟨_,.cons q q'⟩
end
def Hx (K:Frag)(neg:Bool):R2:=λx y H Q=>∃d e,Rep K H x d/\Rep K H y e/\SeqAt.shaped d=true/\SeqAt.shaped e=true/\Q (.bl (if neg then !PyData.eqv d e else PyData.eqv d e)) H
def eR (hu:X.A.units + 64 < cLine):mM X (compareOp .Eq) (Hx X.K false):=by
 intro pins s σ H x y v u Q I rx ry h
 obtain⟨d,e,h1,h2,s1,s2,q⟩:=h
 obtain⟨as,r1⟩:=h1.reads I rx
 obtain⟨bs,r2⟩:=h2.reads I ry
 exact SeqAt.compareEq_shaped r1 r2 s1 s2 hu ⟨.bl _,H,I,rfl,q⟩
def fA (hu:X.A.units + 64 < cLine):mM X (compareOp .NotEq) (Hx X.K true):=by
 intro pins s σ H x y v u Q I rx ry h
 obtain⟨d,e,h1,h2,s1,s2,q⟩:=h
 obtain⟨as,r1⟩:=h1.reads I rx
 obtain⟨bs,r2⟩:=h2.reads I ry
 exact SeqAt.compareNe_shaped r1 r2 s1 s2 hu ⟨.bl _,H,I,rfl,q⟩
def Jf (K:Frag)(neg:Bool):R2:=λx y H Q=>∃p xs d ds,y=.ref p/\(gf K H p xs\/fO K H p xs)/\lK K H xs ds/\Rep K H x d/\SeqAt.shaped d=true/\(∀e,e∈ds->SeqAt.shaped e=true)/\
 Q (.bl (if neg then !(ds.any λe=>PyData.eqv e d) else ds.any λe=>PyData.eqv e d)) H
theorem lK.at' {K:Frag}:∀{xs:List V} {ds:List PyData} {i:Nat} {x:V},lK K H xs ds->xs[i]? =some x->∃d,ds[i]? =some d/\Rep K H x d
 |_,_,_,_,.nil,e=>by simp at e
 |_,_,0,_,.cons r _,e=>by simp at e;subst e;exact⟨_,rfl,r⟩
 |_,_,i + 1,x,.cons _ t,e=>by
  obtain⟨u,h1,h2⟩:=lK.at' (i:=i) (x:=x) t (by simpa using e)
  exact⟨u,by simpa using h1,h2⟩
open Classical in
theorem m9 (I:Inv X pins σ H s)(d:PyData):∀{xs:List V} {us:List Value} {ds:List PyData},Vals xs us->lK X.K H xs ds->(∀e,e∈ds->SeqAt.shaped e=true)->∃f:Value->Bool,us.any f=(ds.any λe=>PyData.eqv e d)/\∀u,u∈us->∃e as,e∈ds/\Reads s.heap u e as/\f u=PyData.eqv e d:=by
 intro xs us ds hv hr hs
 let f:Value->Bool:=λu=>if h:∃e as,SeqAt.shaped e=true/\Reads s.heap u e as then PyData.eqv (Classical.choose h) d else false
 have hf:∀{u:Value} {e:PyData} {as:List Addr},SeqAt.shaped e=true->Reads s.heap u e as->f u=PyData.eqv e d:=λ{u e as} h1 h2=>by
  have hx:∃e as,SeqAt.shaped e=true/\Reads s.heap u e as:=⟨e,as,h1,h2⟩
  show (if h:∃e as,SeqAt.shaped e=true/\Reads s.heap u e as then PyData.eqv (Classical.choose h) d else false)=_
  rw[dif_pos hx]
  obtain⟨bs,q1,q2⟩:=Classical.choose_spec hx
  rw[SeqAt.Reads.unique _ _ _ _ _ (PN q1) q2 h2]
 refine⟨f,?_,?_⟩
 ·induction hv generalizing ds with
  |nil=>cases hr;rfl
  | @cons x u xs us r1 r2 ih=>
   cases hr with
   | @cons _ _ e es h1 h2=>
    obtain⟨as,q⟩:=h1.reads I r1
    rw[PU,PU,hf (hs e (N0 ..)) q,ih h2 λz hz=>hs z (N5 _ hz)]
 ·intro u hu
  obtain⟨i,hi,e0⟩:=ON.mp hu
  have hi':i < xs.length:=by rw[hv.length];exact hi
  obtain⟨u',eu,ru⟩:=hv.get (NW hi')
  rw[NW hi,e0] at eu
  cases eu
  obtain⟨e,ee,re⟩:=lK.at' hr (NW hi')
  obtain⟨as,q⟩:=re.reads I ru
  have hm:=Ob ee
  exact⟨e,as,hm,q,hf (hs e hm) q⟩
def JD (hu:X.A.units + 100 < cLine):mM X (compareOp .In) (Jf X.K false):=by
 intro pins s σ H x y v u Q I rx ry h
 obtain⟨p,xs,d,ds,rfl,hq,hs,hx,s1,s2,q⟩:=h
 cases ry
 obtain⟨bs,r2⟩:=hx.reads I rx
 have key:∀{e:PyData} {as:List Addr} {u:Value},SeqAt.shaped e=true->Reads s.heap u e as->SeqAt.EqAt X.A.in1 s u v (PyData.eqv e d):=λ{e as u} h1 h2=>by
  refine SeqAt.eqAt_reads _ _ _ _ _ _ _ _ h2 r2 (PN h1) (PN s1) ?_
  have:=SeqAt.depth_of_shaped h1
  show X.A.units + 1 + _ < _
  omega
 rcases hq with hq |hq
 ·obtain⟨its,r,pl,hz⟩:=I.list hq
  obtain⟨f,e1,e2⟩:=m9 I d r hs s2
  refine SeqAt.in_listAt f pl.isList (λw hw=>?_) ⟨.bl _,H,I,rfl,?_⟩
  ·obtain⟨e,as,hm,rd,ef⟩:=e2 w (by simpa using hw)
   rw[ef];exact key (s2 e hm) rd
  ·rw[show its.toArray.any f=its.any f by simp,e1];exact q
 ·obtain⟨its,r,pl,hz⟩:=I.tuple hq
  obtain⟨f,e1,e2⟩:=m9 I d r hs s2
  refine SeqAt.in_tupleAt f pl (λw hw=>?_) ⟨.bl _,H,I,rfl,?_⟩
  ·obtain⟨e,as,hm,rd,ef⟩:=e2 w (by simpa using hw)
   rw[ef];exact key (s2 e hm) rd
  ·rw[show its.toArray.any f=its.any f by simp,e1];exact q
inductive GC (K:Frag)(H:Hp):V->String->Prop
 |non:GC K H .non "NoneType"
 |bl (b:Bool):GC K H (.bl b) "bool"
 |int (i:Int):GC K H (.int i) "int"
 |str (x:Str):GC K H (.str x) "str"
 |tup {a:Addr} {xs:List V}:fO K H a xs->GC K H (.ref a) "tuple"
 |lst {a:Addr} {xs:List V}:gf K H a xs->GC K H (.ref a) "list"
 |dic {a:Addr} {kvs:List (Key×V)}:H a=some (.dK kvs)->GC K H (.ref a) "dict"
def Mt (K:Frag):List V->Hp->VK->Prop:=λxs H Q=>∃x T t b,xs= [x,.ty T]/\GC K H x t/\PySem.W.kitOne K (.type t) (.type T)=some b/\Q (.bl b) H
theorem D0:cI X (.builtin "isinstance") (Mt X.K):=by
 intro pins s σ H xs us Q I r h
 obtain⟨x,T,t,b,rfl,ty,e,q⟩:=h
 obtain⟨u,c,rfl,rx,rc⟩:=vals2 r
 cases rc
 have fin:∀tk,EP X pins σ Q (.bool b) {s with toks:=tk}:=λtk=>⟨.bl b,H,I.tok tk,rfl,q⟩
 cases ty with
 |non=>exact jM I rx .non e fin
 |bl b=>exact jM I rx (.bl b) e fin
 |int i=>exact jM I rx (.int i) e fin
 |str z=>exact jM I rx (.str z) e fin
 |dic hk=>exact jM I rx (.dK hk) e fin
 |tup hq=>
  cases rx
  obtain⟨its,rv,⟨o,h1,h2,_⟩,_⟩:=I.tuple hq
  exact O0 PySem.W.kitx_tuple I.kIn ⟨o,h1,h2⟩ e (λz=>nomatch z) fin
 |lst hq=>
  cases rx
  obtain⟨its,rv,pl,_⟩:=I.list hq
  obtain⟨o,h1,h2,_⟩:=pl.isList
  exact O0 PySem.W.kitx_list I.kIn ⟨o,h1,h2⟩ e (λz=>nomatch z) fin
def v5 {A:Around}{its:List Value}{bs:List Bool}(hv:Vals (bs.map V.bl) its):TruthOf X.prog X.w A (λi v=>its[i]? =some v) (λi=>bs.getD i false):=λi v s Q E hi hq=>by
 have hl:=hv.length
 have hi2:i < bs.length:=by
  have:=(N9.mp hi).1
  rw[<-hl] at this;simpa using this
 obtain⟨u,eu,ru⟩:=hv.get (i:=i) (x:=.bl bs[i]) (by simp[hi2])
 rw[hi] at eu;cases eu
 cases ru
 refine PM ?_
 have:bs.getD i false=bs[i]:=by simp[hi2]
 rw[<-this];exact hq
theorem range_all (bs:List Bool):(List.range bs.length).all (λi=>bs.getD i false)=bs.all id:=by
 induction bs with
 |nil=>rfl
 |cons b bs ih=>
  rw[Ol,List.range_succ_eq_map,all_cons,Q5,all_cons,<-ih]
  rfl
theorem range_any (bs:List Bool):(List.range bs.length).any (λi=>bs.getD i false)=bs.any id:=by
 induction bs with
 |nil=>rfl
 |cons b bs ih=>
  rw[Ol,List.range_succ_eq_map,PU,List.any_map,PU,<-ih]
  rfl
def yb (K:Frag)(f:List Bool->Bool):List V->Hp->VK->Prop:=λxs H Q=>∃a bs,xs= [.ref a]/\gf K H a (bs.map V.bl)/\Q (.bl (f bs)) H
def qM (hc:X.calm=true){a:Addr}{bs:List Bool}{Q:VK}(I:Inv X pins σ H s)(hq:gf X.K H a (bs.map V.bl)){f:List Bool->Bool}{g:(Nat->Bool)->Nat->Bool}(hfg:g (λi=>bs.getD i false) bs.length=f bs)(q:Q (.bl (f bs)) H) :
  wpAny (model X.prog X.w) X.A.in1 (pyIter (.ref a)) (λit s2=>∃Ii fp wr n P St tr,it=.ref Ii/\Walks X.prog X.w X.A.in1 Ii fp wr n P St/\St 0 s2.heap/\TruthOf X.prog X.w X.A.in1 P tr/\
   ∀h' tk,(∀b o,b∉wr->s2.heap.get? b=some o->h'.get? b=some o)->EP X pins σ Q (.bool (g tr n)) {s2 with heap:=h',toks:=tk}) X.xe s:=by
 obtain⟨its,rv,pl,hz⟩:=I.list hq
 have hh:X.A.in1.handled=none:=I.ok.hd hc
 have hlen:its.length=bs.length:=by rw[<-rv.length];simp
 obtain⟨o,ho,_⟩:=id pl.isList
 refine QE pl.isList ?_
 have W:=Walks.list (prog:=X.prog) (w:=X.w) hh s.heap.objs.size a (Oz (Oc ho)) its.toArray
 refine⟨s.heap.objs.size,_,_,_,_,_,λi=>bs.getD i false,rfl,W,⟨⟨_,Od _ rfl,rfl,rfl⟩,pl.isList.push _⟩,?_,λh' tk k=>?_⟩
 ·have:=v5 (X:=X) (A:=X.A.in1) rv
  simpa using this
 ·have e:its.toArray.size=bs.length:=by simpa using hlen
  rw[e,hfg]
  have I1:Inv X pins σ H {s with heap:=s.heap.push {cls:=.type "list_iterator",data:=.fields #[.ref a,.int 0 0]}}:=I.kept (t':=s.toks) λb o e=>NY _ e
  have hf:H s.heap.objs.size=none:=I.hok.fresh (N4 _)
  have fp:=I.fpOk (H':=H) (b:=s.heap.objs.size) (N4 _) hf
  refine⟨.bl _,H,I1.turned (it:=s.heap.objs.size) (t':=tk) (λb o hb e=>k b o (by simpa using hb) e) hf fp.2.1 fp.2.2.2.1 fp.2.2.2.2.1 fp.2.2.2.2.2,rfl,q⟩
def fL (hc:X.calm=true):cI X (.builtin "all") (yb X.K λbs=>bs.all id):=by
 intro pins s σ H xs us Q I r h
 obtain⟨a,bs,rfl,hq,q⟩:=h
 obtain⟨u,rfl,rx⟩:=vals1 r
 cases rx
 exact call_all_walk (qM hc I hq (f:=λbs=>bs.all id) (g:=λtr n=>(List.range n).all tr) (range_all bs) q)
def xh (hc:X.calm=true):cI X (.builtin "any") (yb X.K λbs=>bs.any id):=by
 intro pins s σ H xs us Q I r h
 obtain⟨a,bs,rfl,hq,q⟩:=h
 obtain⟨u,rfl,rx⟩:=vals1 r
 cases rx
 exact call_any_walk (qM hc I hq (f:=λbs=>bs.any id) (g:=λtr n=>(List.range n).any tr) (range_any bs) q)
def C6:cI X (.type "range") (λxs H Q=>∃n:Int,xs= [.int n]/\∀p,H p=none->Q (.ref p) (upd H p (.du 0 n))):=by
 intro pins s σ H xs us Q I r h
 obtain⟨n,rfl,q⟩:=h
 obtain⟨u,rfl,rx⟩:=vals1 r
 obtain⟨t,rfl⟩:=rx
 refine call_range_1 ⟨.ref s.heap.objs.size,upd H s.heap.objs.size (.du 0 n),?_,rfl,q _ (I.hok.fresh (N4 _))⟩
 exact I.laid (λb o e=>NY _ e) (N4 _) ⟨_,_,_,Od _ rfl⟩
def rE (hc:X.calm=true):cI X (.type "list") (λxs H Q=>∃p n,xs= [.ref p]/\H p=some (.du 0 n)/\0<=n/\n<=1000/\∀l,H l=none->Q (.ref l) (upd H l (.lst ((List.range n.toNat).map λ(i:Nat)=>V.int (i:Int))))):=by
 intro pins s σ H xs us Q I r h
 obtain⟨p,n,rfl,hp,h0,h1,q⟩:=h
 obtain⟨u,rfl,rx⟩:=vals1 r
 cases rx
 obtain⟨t,u,v,hr⟩:∃t u v,s.heap.get? p=some {cls:=.type "range",data:=.fields #[.int 0 t,.int n u,.int 1 v]}:=I.hok p _ hp
 have hsz:Builtin.Range.rangeSize 0 n 1=(n.toNat:Int):=by rw[rangeSize_one];split <;> omega
 refine call_list_range (I.ok.hd hc) hr (small_one (by omega) (by omega) (by omega) (by omega)) hsz (by omega) λh' tk acc c k hS hacc=>?_
 have hv:Vals ((List.range n.toNat).map λ(i:Nat)=>V.int (i:Int)) acc.toList:=by
  have key:∀(m:Nat) (us:List Value) (j:Nat),us.length=m->(∀(i:Nat) (v:Value),us[i]? =some v->∃t,v=Value.int ((j + i:Nat):Int) t)->Vals ((List.range' j m).map λ(i:Nat)=>V.int (i:Int)) us:=by
   intro m
   induction m with
   |zero=>intro us j hl _;cases us with
    |nil=>exact .nil
    |cons a b=>simp at hl
   |succ m ih=>
    intro us j hl hh
    cases us with
    |nil=>simp at hl
    |cons u us=>
     rw[List.range'_succ,OL]
     refine .cons (by have:=hh 0 u rfl;simp at this;exact this) (ih us (j + 1) (by simpa using hl) λi v hi=>?_)
     obtain⟨t,e⟩:=hh (i + 1) v (by simpa using hi)
     exact⟨t,by rw[e];congr 2;omega⟩
  have:=key n.toNat acc.toList 0 (by simpa using hacc.1) λi v hi=>by
   obtain⟨t,e⟩:=hacc.2 i v (by simpa using hi)
   exact⟨t,by rw[e];simp⟩
  rw[List.range_eq_range'];exact this
 refine⟨.ref s.heap.objs.size,_,I.laid (t':=tk) k (N4 _) (show cx X.prog X.w _ h' _ (.lst _) from⟨by simp;rw[Oo];omega,acc.toList,c,hv,by simpa using hS⟩),rfl,q _ (I.hok.fresh (N4 _))⟩
end
def Rc (h:Heap)(e:Addr)(cls:Value)(T:Addr)(fl:Value):Prop:=∃oe vs oT ts,h.get? e=some oe/\oe.cls=cls/\oe.dict=none/\oe.data=.fields vs/\vs[1]? =some (.ref T)/\vs[2]? =some .none/\T≠e/\h.get? T=some oT/\oT.data=.fields ts/\ts[3]? =some fl
abbrev Keeps (F:List Addr)(ch:List Addr)(h h':Heap):Prop:=∀b o,h.get? b=some o->b∉F->b∉ch->h'.get? b=some o
abbrev Slots (F:List Addr)(h h':Heap):Prop:=∀b o,h.get? b=some o->b∈F->∃sl,h'.get? b=some {o with slots:=sl}
section
variable {M:Model}{A:Around}{E:Value->Shared->Prop}{s:Shared}{base:Heap}{env:Env}{outer:List Env}{L e:Addr}{cls:Value}{Q:Unit->Shared->Prop}
def HB {head:Value}{hadNext:Bool}(hfr:A.frames=some (env :: outer))(hl:s.heap.FunFrames base (env :: outer))(hf:env.frame=some L)(he:s.heap.get? e=some oe)(hc:oe.cls=cls)(hdd:oe.dict=none)(hd:oe.data=.fields vs)(hsz:1 < vs.size)(h2:vs[2]? =some .none)
  (h:∀h' T,Keeps (mK (env :: outer)) [e] s.heap h'->Slots (mK (env :: outer)) s.heap h'->s.heap.get? T=none->Rc h' e cls T (rawInt L)->Q () {s with heap:=h'}) :
  wpAny M A (do let a <-frameOf env;let pl <-entryPlaceOf L hadNext;let b <-EntryCells.newEntry head a .none (rawInt L) .none pl;setField (.ref e) 1 b) Q E s:=by
 have eF:e∉mK (env :: outer):=λz=>by
  obtain⟨_,o,q,n⟩:=hl.mem z
  rw[he] at q;cases q;exact n _ hd
 refine NV (wpAny_frameOf_fun hfr hl hf λh1 s1=>?_)
 refine NV (wpAny_entryPlaceOf λpl hpl=>?_)
 unfold EntryCells.newEntry newFields
 refine NV (Qa ?_ (hpl.sizeOk5 _ _ _ _ _))
 have e1:h1.get? e=some oe:=(s1.2.1 e eF).trans he
 have e2:=NY (h:=h1) {cls:=.type "traceback",dict:=none,data:=.fields ([head,.ref L,.none,rawInt L,.none] ++ (if pl.isEmpty then List.replicate 6 Value.none else pl)).toArray} e1
 have tn:h1.objs.size≠e:=QW (Oc e1)
 refine Qg e2 hd hsz (h _ h1.objs.size (λb o q hb hn=>?_) (λb o q hb=>?_) ?_ ?_)
 ·have hbe:b≠e:=by simpa using hn
  have q1:h1.get? b=some o:=(s1.2.1 b hb).trans q
  rw[Pe _ _ (Ne.symm hbe)]
  exact NY _ q1
 ·obtain⟨sl,q1⟩:=s1.2.2 b o q
  have hbe:b≠e:=λz=>eF (z▸hb)
  refine⟨sl,?_⟩
  rw[Pe _ _ (Ne.symm hbe)]
  exact NY _ q1
 ·cases q:s.heap.get? h1.objs.size with
  |none=>rfl
  |some o=>obtain⟨sl,q1⟩:=s1.2.2 _ o q;exact absurd (Oc q1) (OO _)
 ·have d3:=Q6 hd (·.setIfInBounds 1 (Value.ref h1.objs.size))
  have e3:=OT (Obj.mapFields (·.setIfInBounds 1 (Value.ref h1.objs.size))) e2 (Obj.isFreed_of_fields d3)
  refine⟨_,_,_,_,e3,(Obj.cls_mapFields _ _).trans hc,?_,d3,by simp[hsz],by rw[Array.getElem?_setIfInBounds_ne (by omega)];exact h2,tn,(Pe _ _ (Ne.symm tn)).trans (Od h1 rfl),rfl,?_⟩
  ·unfold Obj.mapFields
   split <;> exact hdd
  ·rcases hpl with rfl | ⟨_,_,_,_,_,_,_,rfl⟩ <;> simp
def Bi (hfr:A.frames=some (env :: outer))(hl:s.heap.FunFrames base (env :: outer))(hf:env.frame=some L)(r:Rc s.heap e cls T0 .none)
  (h:∀h' T,Keeps (mK (env :: outer)) [e,T0] s.heap h'->Slots (mK (env :: outer)) s.heap h'->(s.heap.get? T=none\/T=T0)->Rc h' e cls T (rawInt L)->Q () {s with heap:=h'}):wpAny M A (noteFrame (.ref e) env) Q E s:=by
 obtain⟨oe,vs,oT,ts,he,hc,hdd,hd,h1,h2,hTe,hT,hdT,h3⟩:=r
 have tF:T0∉mK (env :: outer):=λz=>by
  obtain⟨_,o,q,n⟩:=hl.mem z
  rw[hT] at q;cases q;exact n _ hdT
 unfold noteFrame
 simp only[hf]
 refine NV (wpAny_field he hd h1 ?_)
 rw[N1 (show (Value.ref T0 != Value.none)=true from by simp)]
 refine NV (wpAny_field hT hdT h3 ?_)
 rw[N8 (show ¬((Value.none == rawInt L)=true) from by simp[rawInt])]
 refine NV (Qg hT hdT (O8.mp h3).1 ?_)
 have oth:∀b,b≠T0->(s.heap.update T0 (Obj.mapFields (·.setIfInBounds 3 Value.none))).get? b=s.heap.get? b:=λb hb=>Pe _ _ (Ne.symm hb)
 have nf:∀b o,s.heap.get? b=some o->(∀ws,o.data≠.fields ws)->b≠T0:=λb o q n z=>by
  rw[z,hT] at q;cases q;exact n _ hdT
 refine HB (base:=base) hfr (hl.of_keeps λb o q n=>⟨o,(oth b (nf b o q n)).trans q,rfl⟩) hf ((oth e (Ne.symm hTe)).trans he) hc hdd hd (O8.mp h1).1 h2 λh' T kp sl tn rc=>?_
 refine h h' T (λb o q hb hn=>?_) (λb o q hb=>?_) ?_ rc
 ·simp only[NX,OC,Po,not_or] at hn
  exact kp b o ((oth b hn.2).trans q) hb (by simp[hn.1])
 ·exact sl b o ((oth b λz=>tF (z▸hb)).trans q) hb
 ·by_cases z:T=T0
  ·exact .inr z
  ·exact .inl ((oth T z).symm.trans tn)
def EH (r:Rc s.heap e cls T fl)(h:∀h',Keeps [] [T] s.heap h'->Rc h' e cls T .none->Q () {s with heap:=h'}):wpAny M A (setFlight (.ref e) none) Q E s:=by
 obtain⟨oe,vs,oT,ts,he,hc,hdd,hd,h1,h2,hTe,hT,hdT,h3⟩:=r
 have sz:3 < ts.size:=(O8.mp h3).1
 unfold setFlight
 refine NV (wpAny_field he hd h1 ?_)
 rw[N1 (show (Value.ref T != Value.none)=true from by simp)]
 refine Qg hT hdT sz (h _ (λb o q _ hn=>?_) ?_)
 ·have hb:b≠T:=by simpa using hn
  exact (Pe _ _ (Ne.symm hb)).trans q
 ·have d3:=Q6 hdT (·.setIfInBounds 3 ((none:Option Addr).elim Value.none λf=>rawInt f))
  exact⟨oe,vs,_,_,(Pe _ _ hTe).trans he,hc,hdd,hd,h1,h2,hTe,OT _ hT (Obj.isFreed_of_fields d3),d3,by simp[sz]⟩
end
section
variable {P:Program}{w:World}
theorem cx.there {H:Hp}(x:cx P w H h a o):∃u,h.get? a=some u:=by
 cases o with
 |lst xs=>obtain⟨_,_,_,_,e⟩:=x;exact⟨_,e⟩
 |tup xs=>obtain⟨_,_,_,u,e,_⟩:=x;exact⟨u,e⟩
 |dK kvs=>obtain⟨_,_,_,_,o,_,_,e,_⟩:=x;exact⟨_,e⟩
 |dT kvs=>obtain⟨_,_,_,_,o,_,_,e,_⟩:=x;exact⟨_,e⟩
 |set S n=>obtain⟨o,_,_,_,e,_⟩:=x;exact⟨_,e⟩
 |ins C dx fs=>obtain⟨_,_,_,e,_⟩:=x;exact⟨_,e⟩
 |own y=>obtain⟨_,e⟩:=x;exact⟨_,e⟩
 |xd fs=>obtain⟨_,⟨_,_,_,e,_⟩,_⟩:=x;exact⟨_,e⟩
 |du lo hi=>obtain⟨_,_,_,e⟩:=x;exact⟨_,e⟩
 |bp ob u=>obtain⟨e,_⟩:=x;exact⟨_,e⟩
 |tbl ps=>exact⟨_,show h.get? a=some _ from x⟩
 |met f y=>exact⟨_,show h.get? a=some _ from x⟩
 |ext φ=>obtain⟨_,⟨_,e⟩,_⟩:=x;exact⟨_,e⟩
end
structure Lies (h₀:Heap)(H:Hp)(h:Heap)(e:Addr)(cls:Value):Prop where
 free:H e=none
 new:h₀.get? e=none
 ob:∃T,Rc h e cls T .none/\H T=none/\h₀.get? T=none
def r0 (P:Program)(w:World):Bk:=λouter H s E e s'=>∃ea cls H',e=.ref ea/\s'.os=s.os/\AllBare s'.gens/\Un (mK outer) [] H H' s.heap s'.heap/\nD P w H' s'.heap/\Lies s.heap H' s'.heap ea cls/\E cls none H'
section
variable {P:Program}{w:World}{M:Model}{A:Around}{E':Value->Shared->Prop}{s:Shared}{env:Env}{outer:List Env}{L e:Addr}{cls:Value}{base h₀:Heap}{H:Hp}{Q:Unit->Shared->Prop}
def Dq (hok:nD P w H h)(k:∀b o,h.get? b=some o->(∃u,H b=some u)->h'.get? b=some o):nD P w H h':=λa o ha=>
 (hok a o ha).stay (λb u hb q=>k b u q (hb.elim (λz=>⟨o,by rw[z];exact ha⟩) λz=>⟨_,z⟩)) (λ_ q=>q) λ_ _ q=>q
def Cn (hfr:A.frames=some (env :: outer))(hf:env.frame=some L)(hfn:s.heap.FunFrames base (env :: outer))(hok:nD P w H s.heap)(hff:∀b∈mK (env :: outer),H b=none)(Ly:Lies h₀ H s.heap e cls)(hex:∀b o,h₀.get? b=some o->∃o',s.heap.get? b=some o')
  (hQ:∀h',(∀b o,s.heap.get? b=some o->b∉mK (env :: outer)->((∃o0,h₀.get? b=some o0)\/∃u,H b=some u)->h'.get? b=some o)->(∀b o,s.heap.get? b=some o->b∈mK (env :: outer)->∃sl,h'.get? b=some {o with slots:=sl})->Lies h₀ H h' e cls->nD P w H h'->Q () {s with heap:=h'}) :
  wpAny M A (leaving env (.ref e)) Q E' s:=by
 obtain⟨fr,nw,T0,rc,hHT,hnT⟩:=Ly
 obtain⟨oe,vs,oT,ts,he,hc,hdd,hd,h1,h2,hTe,hT,hdT,h3⟩:=id rc
 have tF:T0∉mK (env :: outer):=λz=>by
  obtain⟨_,o,q,n⟩:=hfn.mem z
  rw[hT] at q;cases q;exact n _ hdT
 unfold leaving
 refine NV (Bi hfr hfn hf rc λh4 T kp sl tn rc4=>EH rc4 λh5 kp5 rc5=>?_)
 have nT:∀b o,s.heap.get? b=some o->b≠T0->b≠T:=λb o q n z=>by
  rcases tn with tn |tn
  ·rw[z,tn] at q;cases q
  ·exact n (z.trans tn)
 have kept:∀b o,s.heap.get? b=some o->b∉mK (env :: outer)->((∃o0,h₀.get? b=some o0)\/∃u,H b=some u)->h5.get? b=some o:=λb o q hb hor=>by
  have be:b≠e:=λz=>by subst z;rcases hor with⟨_,z⟩ | ⟨_,z⟩ <;> simp_all
  have bT:b≠T0:=λz=>by subst z;rcases hor with⟨_,z⟩ | ⟨_,z⟩ <;> simp_all
  exact kp5 b o (kp b o q hb (by simp[be,bT])) (by simp) (by simp[nT b o q bT])
 have slot:∀b o,s.heap.get? b=some o->b∈mK (env :: outer)->∃sl,h5.get? b=some {o with slots:=sl}:=λb o q hb=>by
  obtain⟨x,q4⟩:=sl b o q hb
  exact⟨x,kp5 b _ q4 (by simp) (by simp[nT b o q λz=>tF (z▸hb)])⟩
 have fresh:H T=none/\h₀.get? T=none:=by
  rcases tn with tn |tn
  ·refine⟨?_,?_⟩
   ·cases q:H T with
    |none=>rfl
    |some u=>obtain⟨o,qo⟩:=(hok T u q).there;rw[tn] at qo;cases qo
   ·cases q:h₀.get? T with
    |none=>rfl
    |some u=>obtain⟨o,qo⟩:=hex T u q;rw[tn] at qo;cases qo
  ·rw[tn];exact⟨hHT,hnT⟩
 refine hQ h5 kept slot ⟨fr,nw,T,rc5,fresh.1,fresh.2⟩ (Dq hok λb o q hu=>kept b o q (λz=>?_) (.inr hu))
 obtain⟨u,hu⟩:=hu
 rw[hff b z] at hu;cases hu
end
section
variable {P:Program}{w:World}{K:Frag}{mg:Str->Option Value}{base:Heap}{N:List Str}{qual:Str}{scope:Scope}{f:Addr}{cd:Value}{A:Around}{outer:List Env}{s0:Shared}{H0:Hp}{E:XK}
def aS:Passes (r0 P w) (rP (r0 P w) P w K mg base N qual scope f cd A outer s0 H0 E) E:=by
 intro pins σ H s e s' I hcx
 obtain⟨ea,cls,H',rfl,os,bare,un,hok,Ly,q⟩:=hcx
 have I':=I.call' os un hok bare (λb hb=>absurd hb (by simp))
 have old:∀{b:Addr},s.heap.get? b=none->s0.heap.get? b=none:=λ{b} hb=>by
  cases z:s0.heap.get? b with
  |none=>rfl
  |some o=>obtain⟨o',z'⟩:=I.base.there b o z (show b∉([]:List Addr) by simp);rw[hb] at z';cases z'
 have Ly0:Lies s0.heap H' s'.heap ea cls:=by
  obtain⟨fr,nw,T,rc,hHT,hnT⟩:=Ly
  exact⟨fr,old nw,T,rc,hHT,old hnT⟩
 have above:s0.heap.objs.size<=(envOfC qual scope s0.heap.objs.size f cd).locals:=I.ok.above
 refine Cn (base:=base) (h₀:=s0.heap) I'.ok.frames rfl I'.stack I'.hok I'.stkFree Ly0 (λb o z=>I'.base.there b o z (show b∉([]:List Addr) by simp)) λh' kept slot Ly' hok'=>?_
 have nL:∀{b:Addr} {o:Obj},s0.heap.get? b=some o->b∉mK outer->b∉mK (envOfC qual scope s0.heap.objs.size f cd :: outer):=λ{b o} z hb hm=>by
  rcases NX.mp (I'.stkSub b hm) with e |e
  ·have:=Oc z
   rw[e] at this
   exact absurd (OF this above) (OO _)
  ·exact hb e
 have inn:∀{b:Addr},b∈mK outer->b∈mK (envOfC qual scope s0.heap.objs.size f cd :: outer):=λ{b} hb=>by
  obtain⟨en,h1,h2⟩:=Qy.mp hb
  exact Qy.mpr ⟨en,N5 _ h1,h2⟩
 refine⟨ea,cls,H',rfl,os.trans I.os,bare,⟨λb o z n hb _=>?_,λb o z n hb _=>?_,λb o z n _=>I'.base.free b o z n (show b∉([]:List Addr) by simp),λb o z _=>?_,I'.base.tups,I'.base.frzs,I'.base.tbls⟩,hok',Ly',q⟩
 ·exact kept b o (I'.base.keep b o z n hb (show b∉([]:List Addr) by simp)) (nL z hb) (.inl ⟨o,z⟩)
 ·obtain⟨sl,z1⟩:=I'.base.slot b o z n hb (show b∉([]:List Addr) by simp)
  obtain⟨sl2,z2⟩:=slot b _ z1 (inn hb)
  exact⟨sl2,z2⟩
 ·obtain⟨o',z1⟩:=I'.base.there b o z (show b∉([]:List Addr) by simp)
  by_cases hb:b∈mK (envOfC qual scope s0.heap.objs.size f cd :: outer)
  ·obtain⟨sl,z2⟩:=slot b o' z1 hb
   exact⟨_,z2⟩
  ·exact⟨o',kept b o' z1 hb (.inl ⟨o,z⟩)⟩
end
def mroIn (K:Frag)(C:Addr):List Value:=match K.lookup C with
 |some ⟨_,_,.cls cd,_⟩=>cd.mro
 |_=>[]
structure C7 (k:Nat)(A:Around):Prop where
 dp:A.depth + 3 * k + 5 < recursionLimit
 un:A.units + 16 * k + 200 < cLine
 gd:A.guards=some []
def fN.h (r:fN k A):C7 k A:=⟨r.dp,r.un,r.gd⟩
def C7.units (r:C7 k A):A.units + 64 < cLine:=by have:=r.un;omega
section
variable {P:Program}{w:World}{K:Frag}{mg:Str->Option Value}{base:Heap}
def Es.BP {st:Stmt}{k:Nat}(F:Es K x qual st f fd)(S:aG N ps (ar st))(len:∀vs H Q E,sp vs H Q E->vs.length=ps.length)
  (hbody:∀(cdv:Value) (A:Around) (outer:List Env) (s:Shared) (H:Hp) (vs:List V) (Q:VK) (E:XK),fN k (A.deeper (envOfC qual (ar st) s.heap.objs.size f cdv))->sp vs H Q E->
   ∃t,sV (rP (r0 P w) P w K mg base N qual (ar st) f cdv A outer s H E) (dg st) t/\t {nx:=λ_ H'=>Q .non H',rt:=Q} (start N vs) H):fV P w K mg base (r0 P w) (k + 1) f fd ps sp:=by
 obtain⟨oc,od,kV,doc,pm,an,cdv,ct,osl,rfl,lk,hcd⟩:=F.ex
 exact GR lk hcd S len λA outer s H vs Q E hr hsp=>hbody cdv A outer s H vs Q E hr hsp
end
section
variable {X:Cx}
def jH (hu:X.A.units + 100 < cLine):mM X (compareOp .NotIn) (Jf X.K true):=by
 intro pins s σ H x y v u Q I rx ry h
 obtain⟨p,xs,d,ds,rfl,hq,hs,hx,s1,s2,q⟩:=h
 cases ry
 obtain⟨bs,r2⟩:=hx.reads I rx
 have key:∀{e:PyData} {as:List Addr} {u:Value},SeqAt.shaped e=true->Reads s.heap u e as->SeqAt.EqAt X.A.in1 s u v (PyData.eqv e d):=λ{e as u} h1 h2=>by
  refine SeqAt.eqAt_reads _ _ _ _ _ _ _ _ h2 r2 (PN h1) (PN s1) ?_
  have:=SeqAt.depth_of_shaped h1
  show X.A.units + 1 + _ < _
  omega
 rcases hq with hq |hq
 ·obtain⟨its,r,pl,hz⟩:=I.list hq
  obtain⟨f,e1,e2⟩:=m9 I d r hs s2
  refine SeqAt.notIn_listAt f pl.isList (λw hw=>?_) ⟨.bl _,H,I,rfl,?_⟩
  ·obtain⟨e,as,hm,rd,ef⟩:=e2 w (by simpa using hw)
   rw[ef];exact key (s2 e hm) rd
  ·rw[show its.toArray.any f=its.any f by simp,e1];exact q
 ·obtain⟨its,r,pl,hz⟩:=I.tuple hq
  obtain⟨f,e1,e2⟩:=m9 I d r hs s2
  refine SeqAt.notIn_tupleAt f pl (λw hw=>?_) ⟨.bl _,H,I,rfl,?_⟩
  ·obtain⟨e,as,hm,rd,ef⟩:=e2 w (by simpa using hw)
   rw[ef];exact key (s2 e hm) rd
  ·rw[show its.toArray.any f=its.any f by simp,e1];exact q
end
abbrev D:=PyData
def kD:Key->D
 | .inl i=>.int i
 | .inr x=>.str x
mutual
inductive Rp (K:Frag)(G:Hp):V->D->Prop
 |non:Rp K G .non .none
 |bl (b:Bool):Rp K G (.bl b) (.bool b)
 |int (i:Int):Rp K G (.int i) (.int i)
 |str (x:Str):Rp K G (.str x) (.str x)
 |tup {a:Addr} {xs:List V} {ds:List D}:fO K G a xs->cg K G xs ds->Rp K G (.ref a) (.tuple ds)
 |lst {a:Addr} {xs:List V} {ds:List D}:G a=some (.lst xs)->cg K G xs ds->Rp K G (.ref a) (.list ds)
 |scr {a:Addr} {ns:List Int}:gf K G a (ns.map V.int)->Rp K G (.ref a) (.dict [(.none,.list (ns.map int))])
 |dK {a:Addr} {kvs:List (Key×V)} {ds:List (D×D)}:G a=some (.dK kvs)->BX K G kvs ds->Rp K G (.ref a) (.dict ds)
 |dT {a:Addr} {kvs:List (List Key×V)} {ds:List (D×D)}:G a=some (.dT kvs)->BU K G kvs ds->Rp K G (.ref a) (.dict ds)
inductive cg (K:Frag)(G:Hp):List V->List D->Prop
 |nil:cg K G [] []
 |cons {x:V} {xs:List V} {d:D} {ds:List D}:Rp K G x d->cg K G xs ds->cg K G (x :: xs) (d :: ds)
inductive BX (K:Frag)(G:Hp):List (Key×V)->List (D×D)->Prop
 |nil:BX K G [] []
 |cons {k:Key} {x:V} {xs:List (Key×V)} {d:D} {ds:List (D×D)}:Rp K G x d->BX K G xs ds->BX K G ((k,x) :: xs) ((kD k,d) :: ds)
inductive BU (K:Frag)(G:Hp):List (List Key×V)->List (D×D)->Prop
 |nil:BU K G [] []
 |cons {k:List Key} {x:V} {xs:List (List Key×V)} {d:D} {ds:List (D×D)}:Rp K G x d->BU K G xs ds->BU K G ((k,x) :: xs) ((.tuple (k.map kD),d) :: ds)
end
section
variable {K:Frag}{G G' H H':Hp}
def KD (h:Kt H b o)(hu:∀ps,o≠.tbl ps):H b=some o:=by
 obtain⟨u,e,k,_⟩:=h.some
 rw[e,k hu]
theorem k7 (h:Kt H b u)(hb:b≠a)(ha:∀x y,H a≠some (.bp x y)):Kt (upd H a o) b u:=by
 cases u with
 |tbl ps=>
  obtain⟨m,e,k⟩:=h
  refine⟨m,by rw[aC hb];exact e,λc hc=>?_⟩
  obtain⟨x,ex,ix⟩:=k c hc
  exact⟨x,by rw[aC (λz=>ha x _ (z▸ex))];exact ex,ix⟩
 |_=>exact (aC hb).trans h
def Rd.mono (h:Rd G a u)(s:ay G G')(hu:∀ps,u≠.tbl ps:=by intro _ z;cases z):Rd G' a u:=h.elim (λe=>.inl (KD (s _ _ e) hu)) λ⟨o,e⟩=>.inr ⟨o,s _ _ e⟩
mutual
theorem Rp.mono (s:ay G G'):∀{x:V} {d:D},Rp K G x d->Rp K G' x d
 |_,_,.non=>.non
 |_,_,.bl b=>.bl b
 |_,_,.int i=>.int i
 |_,_,.str x=>.str x
 |_,_,.tup h hs=>.tup (h.grow s.grow) (cg.mono s hs)
 |_,_,.lst h hs=>.lst (s _ _ h) (cg.mono s hs)
 |_,_,.scr h=>.scr (s.seq h)
 |_,_,.dK h hs=>.dK (s _ _ h) (BX.mono s hs)
 |_,_,.dT h hs=>.dT (s _ _ h) (BU.mono s hs)
theorem cg.mono (s:ay G G'):∀{xs:List V} {ds:List D},cg K G xs ds->cg K G' xs ds
 |_,_,.nil=>.nil
 |_,_,.cons h hs=>.cons (Rp.mono s h) (cg.mono s hs)
theorem BX.mono (s:ay G G'):∀{xs:List (Key×V)} {ds:List (D×D)},BX K G xs ds->BX K G' xs ds
 |_,_,.nil=>.nil
 |_,_,.cons h hs=>.cons (Rp.mono s h) (BX.mono s hs)
theorem BU.mono (s:ay G G'):∀{xs:List (List Key×V)} {ds:List (D×D)},BU K G xs ds->BU K G' xs ds
 |_,_,.nil=>.nil
 |_,_,.cons h hs=>.cons (Rp.mono s h) (BU.mono s hs)
end
theorem cg.len:∀{xs:List V} {ds:List D},cg K G xs ds->xs.length=ds.length
 |_,_,.nil=>rfl
 |_,_,.cons _ t=>by simp[cg.len t]
theorem cg.at:∀{xs:List V} {ds:List D} {i:Nat} {d:D},cg K G xs ds->ds[i]? =some d->∃x,xs[i]? =some x/\Rp K G x d
 |_,_,_,_,.nil,e=>by simp at e
 |_,_,0,_,.cons r _,e=>by simp at e;subst e;exact⟨_,rfl,r⟩
 |_,_,i + 1,x,.cons _ t,e=>by
  obtain⟨u,h1,h2⟩:=cg.at (i:=i) (d:=x) t (by simpa using e)
  exact⟨u,by simpa using h1,h2⟩
theorem cg.at':∀{xs:List V} {ds:List D} {i:Nat} {x:V},cg K G xs ds->xs[i]? =some x->∃d,ds[i]? =some d/\Rp K G x d
 |_,_,_,_,.nil,e=>by simp at e
 |_,_,0,_,.cons r _,e=>by simp at e;subst e;exact⟨_,rfl,r⟩
 |_,_,i + 1,x,.cons _ t,e=>by
  obtain⟨u,h1,h2⟩:=cg.at' (i:=i) (x:=x) t (by simpa using e)
  exact⟨u,by simpa using h1,h2⟩
theorem cg.append:∀{xs ys:List V} {ds es:List D},cg K G xs ds->cg K G ys es->cg K G (xs ++ ys) (ds ++ es)
 |_,_,_,_,.nil,s=>s
 |_,_,_,_,.cons r t,s=>.cons r (cg.append t s)
def cg.snoc (h:cg K G xs ds)(q:Rp K G x d):cg K G (xs ++ [x]) (ds ++ [d]):=h.append (.cons q .nil)
theorem cg.take:∀{xs:List V} {ds:List D} (n:Nat),cg K G xs ds->cg K G (xs.take n) (ds.take n)
 |_,_,0,_=>.nil
 |_,_,_ + 1,.nil=>.nil
 |_,_,n + 1,.cons r t=>.cons r (cg.take n t)
theorem cg.drop:∀{xs:List V} {ds:List D} (n:Nat),cg K G xs ds->cg K G (xs.drop n) (ds.drop n)
 |_,_,0,r=>r
 |_,_,_ + 1,.nil=>.nil
 |_,_,n + 1,.cons _ t=>cg.drop n t
theorem cg.set (r:Rp K G x d):∀{xs:List V} {ds:List D} (i:Nat),cg K G xs ds->cg K G (xs.set i x) (ds.set i d)
 |_,_,_,.nil=>.nil
 |_,_,0,.cons _ t=>.cons r t
 |_,_,i + 1,.cons q t=>.cons q (cg.set r i t)
theorem cg.rep (h:cg K G xs ds):cg K G (List.replicate n xs).flatten (List.replicate n ds).flatten:=by
 induction n with
 |zero=>exact .nil
 |succ n ih=>rw[OV,OV,Pg,Pg];exact h.append ih
mutual
def D5:D->Bool
 | .dict _=>false
 | .list ds=>rM ds
 | .tuple ds=>rM ds
 |_=>true
def rM:List D->Bool
 | []=>true
 |d :: ds=>D5 d && rM ds
end
mutual
theorem Rp.rep:∀{x:V} {d:D},Rp K G x d->D5 d=true->Rep K G x d
 |_,_,.non,_=>.non
 |_,_,.bl b,_=>.bl b
 |_,_,.int i,_=>.int i
 |_,_,.str x,_=>.str x
 |_,_,.tup h hs,e=>.tup h (cg.reps hs (by simpa[D5] using e))
 |_,_,.lst h hs,e=>.lst (.inl (.inl h)) (cg.reps hs (by simpa[D5] using e))
 |_,_,.scr _,e=>by simp[D5] at e
 |_,_,.dK _ _,e=>by simp[D5] at e
 |_,_,.dT _ _,e=>by simp[D5] at e
theorem cg.reps:∀{xs:List V} {ds:List D},cg K G xs ds->rM ds=true->lK K G xs ds
 |_,_,.nil,_=>.nil
 |_,_,.cons h hs,e=>.cons (Rp.rep h (by simp[rM] at e;exact e.1)) (cg.reps hs (by simp[rM] at e;exact e.2))
end
def Own (K:Frag)(G H:Hp)(a:Addr):D->Prop
 | .list ds=>∃xs,H a=some (.lst xs)/\cg K G xs ds
 | .dict ds=>(∃kvs,H a=some (.dK kvs)/\BX K G kvs ds)\/∃kvs,H a=some (.dT kvs)/\BU K G kvs ds
 |_=>False
def Own.obj (h:Own K G H a d):∃o,H a=some o:=by
 cases d <;> first |exact h.elim |skip
 ·obtain⟨xs,e,_⟩:=h;exact⟨_,e⟩
 ·rcases h with⟨_,e,_⟩ | ⟨_,e,_⟩ <;> exact⟨_,e⟩
def Own.mono (h:Own K G H a d)(s:ay G G')(m:∀o,H a=some o->Kt H' a o):Own K G' H' a d:=by
 cases d <;> first |exact h.elim |skip
 ·obtain⟨xs,e,r⟩:=h;exact⟨xs,m _ e,r.mono s⟩
 ·rcases h with⟨k,e,r⟩ | ⟨k,e,r⟩
  ·exact .inl ⟨k,m _ e,r.mono s⟩
  ·exact .inr ⟨k,m _ e,r.mono s⟩
def Own.rp (h:Own K G H a d)(n:G a=none){G':Hp}(s:ay G G')(e:∀o,H a=some o->G' a=some o):Rp K G' (.ref a) d:=by
 cases d <;> first |exact h.elim |skip
 ·obtain⟨xs,q,r⟩:=h;exact .lst (e _ q) (r.mono s)
 ·rcases h with⟨k,q,r⟩ | ⟨k,q,r⟩
  ·exact .dK (e _ q) (r.mono s)
  ·exact .dT (e _ q) (r.mono s)
def l7 (K:Frag)(B:Option Addr)(G H:Hp)(v:V)(d:D):Prop:=Rp K G v d\/∃a,v=.ref a/\B≠some a/\Own K G H a d
def i8 (B:Option Addr)(H H':Hp):Prop:=(∀b o,H b=some o->B≠some b->Kt H' b o)/\∀b o u,H b=some (.bp o u)->H' b=some (.bp o u)
def i8.refl (B:Option Addr)(H:Hp):i8 B H H:=⟨λ_ _ h _=>Kt.of h,λ_ _ _ h=>h⟩
theorem qK {B:Option Addr}(h1:Kt H b o)(y:i8 B H H')(n:B≠some b):Kt H' b o:=by
 cases o with
 |tbl ps=>
  obtain⟨m,e,k⟩:=h1
  obtain⟨m2,e2,k2⟩:=y.1 b _ e n
  refine⟨m ++ m2,by rw[e2,Array.append_assoc],λc hc=>?_⟩
  rw[Array.toList_append,Of] at hc
  rcases hc with hc |hc
  ·obtain⟨o,eo,io⟩:=k c hc;exact⟨o,y.2 c _ _ eo,io⟩
  ·exact k2 c hc
 |_=>exact y.1 b _ h1 n
def i8.trans {B:Option Addr}(x:i8 B H H1)(y:i8 B H1 H'):i8 B H H':=⟨λb o h n=>qK (x.1 b o h n) y n,λb o u h=>y.2 b o u (x.2 b o u h)⟩
def ay.mov (s:ay H H')(B:Option Addr):i8 B H H':=⟨λb o h _=>s b o h,λb o u h=>s b _ h⟩
def l7.mono {B:Option Addr}(h:l7 K B G H v d)(s:ay G G')(m:i8 B H H'):l7 K B G' H' v d:=by
 rcases h with h | ⟨a,e,n,h⟩
 ·exact .inl (h.mono s)
 ·exact .inr ⟨a,e,n,h.mono s λo q=>m.1 a o q n⟩
def l7.rpH {B:Option Addr}(h:l7 K B G H v d)(s:ay G H):Rp K H v d:=by
 rcases h with h | ⟨a,rfl,n,h⟩
 ·exact h.mono s
 ·cases d <;> first |exact h.elim |skip
  ·obtain⟨xs,q,r⟩:=h;exact .lst q (r.mono s)
  ·rcases h with⟨k,q,r⟩ | ⟨k,q,r⟩
   ·exact .dK q (r.mono s)
   ·exact .dT q (r.mono s)
def l7.list {B:Option Addr}(h:l7 K B G H v (.list ds))(s:ay G H):∃a xs,v=.ref a/\Rd H a (.lst xs)/\cg K G xs ds:=by
 rcases h with h | ⟨a,rfl,n,xs,q,r⟩
 ·cases h with
  |lst h r=>exact⟨_,_,rfl,.inl (s _ _ h),r⟩
 ·exact⟨a,xs,rfl,.inl q,r⟩
def l7.tuple {B:Option Addr}(h:l7 K B G H v (.tuple ds))(s:ay G H):∃a xs,v=.ref a/\fO K H a xs/\cg K G xs ds:=by
 rcases h with h | ⟨a,rfl,n,h⟩
 ·cases h with
  |tup h r=>exact⟨_,_,rfl,h.grow s.grow,r⟩
 ·exact h.elim
def l7.int {B:Option Addr}(h:l7 K B G H v (.int i)):v=.int i:=by
 rcases h with h | ⟨a,rfl,n,h⟩
 ·cases h;rfl
 ·exact h.elim
def l7.bool {B:Option Addr}(h:l7 K B G H v (.bool b)):v=.bl b:=by
 rcases h with h | ⟨a,rfl,n,h⟩
 ·cases h;rfl
 ·exact h.elim
def l7.str {B:Option Addr}(h:l7 K B G H v (.str x)):v=.str x:=by
 rcases h with h | ⟨a,rfl,n,h⟩
 ·cases h;rfl
 ·exact h.elim
def l7.none {B:Option Addr}(h:l7 K B G H v .none):v=.non:=by
 rcases h with h | ⟨a,rfl,n,h⟩
 ·cases h;rfl
 ·exact h.elim
end
def Fz:HO->Prop
 | .tup _=>True
 | .bp _ _=>True
 |_=>False
def Mx (H:Hp)(b:Addr):Prop:=H b≠none/\∀o,H b=some o->¬Fz o
def Mx.lst {H:Hp}(h:H b=some (.lst xs)):Mx H b:=⟨by rw[h];simp,λys z=>by rw[h] at z;cases z;exact λy=>y⟩
theorem Mx.same {H H':Hp}(h:Mx H b)(m:∀o,H b=some o->Kt H' b o):Mx H' b:=by
 obtain⟨h1,h2⟩:=h
 cases e:H b with
 |none=>exact absurd e h1
 |some o=>
  obtain⟨u,eu,k1,k2⟩:=(m o e).some
  refine⟨by rw[eu];simp,λxs z=>?_⟩
  rw[eu] at z
  cases z
  by_cases c:∃ps,o=.tbl ps
  ·obtain⟨ps,e⟩:=k2 c;rw[e];exact λy=>y
  ·rw[k1 λps e=>c ⟨ps,e⟩];exact h2 o e
def Own.mx {K:Frag}{G H:Hp}(h:Own K G H a d):Mx H a:=by
 cases d <;> first |exact h.elim |skip
 ·obtain⟨xs,e,_⟩:=h;exact Mx.lst e
 ·rcases h with⟨k,e,_⟩ | ⟨k,e,_⟩ <;> exact⟨by rw[e];simp,λys z=>by rw[e] at z;cases z;exact λy=>y⟩
open Classical in
noncomputable def lZ (G H:Hp):Hp:=λb=>match G b with
 |some o=>some o
 |none=>match H b with
  |some o=>if Fz o then some o else none
  |none=>none
def sM {G H:Hp}:ay G (lZ G H):=λb o e=>Kt.of (by unfold lZ;rw[e])
theorem zG {G H:Hp}(s:ay G H)(e:H b=some o)(f:Fz o):lZ G H b=some o:=by
 unfold lZ
 cases q:G b with
 |some u=>
  obtain⟨u',eu,k1,k2⟩:=(s b u q).some
  rw[e] at eu
  cases eu
  by_cases c:∃ps,u=.tbl ps
  ·obtain⟨ps,z⟩:=k2 c;subst z;exact f.elim
  ·rw[k1 λps z=>c ⟨ps,z⟩]
 |none=>simp only[e];rw[N1 f]
theorem wY {G H:Hp}(s:ay G H):ay (lZ G H) H:=λb o e=>by
 unfold lZ at e
 cases q:G b with
 |some u=>rw[q] at e;cases e;exact s b _ q
 |none=>
  rw[q] at e
  cases q2:H b with
  |none=>rw[q2] at e;cases e
  |some u=>
   rw[q2] at e
   dsimp only at e
   split at e
   ·cases e;exact Kt.of q2
   ·cases e
theorem z0 {G H H':Hp}(hh:ay H H')(m:Mx H b):lZ G H' b=G b:=by
 unfold lZ
 cases q:G b with
 |some u=>rfl
 |none=>
  obtain⟨h1,h2⟩:=m
  cases e:H b with
  |none=>exact absurd e h1
  |some o=>
   have hm:=(show Mx H b from⟨h1,h2⟩).same (hh b)
   cases e2:H' b with
   |none=>rfl
   |some u=>simp only;rw[N8 (hm.2 u e2)]
def mX {K:Frag}{G H:Hp}(s:ay G H)(h:fO K H a xs):fO K (lZ G H) a xs:=by
 rcases h with (h | ⟨o,h⟩) |h
 ·exact .inl (.inl (zG s h trivial))
 ·exact .inl (.inr ⟨o,zG s h trivial⟩)
 ·exact .inr h
structure Fx where
 K:Frag
 H0:Hp
 G0:Hp
 par:List Addr
 ca:Str->Addr
 br:Nat->Bool
 bx:Option Addr
inductive Sl where
 |no |fz (d:D) |ow (d:D) |bx |br (d:D)
abbrev En:=List Sl
inductive Nv where
 |no |da (d:D) |bx
def Sl.val:Sl->Nv
 | .no=>.no
 | .fz d=>.da d
 | .ow d=>.da d
 | .br d=>.da d
 | .bx=>.bx
def vl (env:En):List Nv:=env.map Sl.val
def Mq (Γ:Fx)(B:Option Addr)(G H:Hp)(i:Nat)(o:Option (Option V)):Sl->Prop
 | .no=>True
 | .fz d=>∃v,o=some (some v)/\Rp Γ.K G v d
 | .ow d=>∃a,o=some (some (.ref a))/\Γ.H0 a=none/\G a=none/\B≠some a/\Own Γ.K G H a d
 | .bx=>∃a,o=some (some (.ref a))/\B=some a
 | .br d=>Γ.br i=true/\∃a,o=some (some (.ref a))/\B≠some a/\a∉Γ.par/\Own Γ.K G H a d
structure SR (Γ:Fx)(B:Option Addr)(G H:Hp)(σ:St)(env:En)(β:Int):Prop where
 sub:ay G H
 old:ay Γ.G0 G
 new:∀b,Mx Γ.H0 b->Γ.G0 b=none->G b=none
 keep:∀b o,Γ.H0 b=some o->b∉Γ.par->Kt H b o
 pin:∀b,b∈Γ.par->Mx H b
 fix:∀b,Γ.bx=some b->B=some b
 box:∀b,B=some b->H b=some (.lst [.int β])/\G b=none/\(b∈Γ.par\/Γ.H0 b=none)
 len:σ.length=env.length
 slot:∀(i:Nat) (s:Sl),env[i]? =some s->Mq Γ B G H i (σ[i]?) s
 sep:∀(i j:Nat) (a:Addr) (d e:D),env[i]? =some (.ow d)->env[j]? =some (.ow e)->σ[i]? =some (some (.ref a))->σ[j]? =some (some (.ref a))->i=j
structure Ext (G H G' H':Hp):Prop where
 hh:ay H H'
 gg:ay G G'
 gh:ay G' H'
 on:∀b,Mx H b->G' b=G b
def Ext.refl {G H:Hp}(s:ay G H):Ext G H G H:=⟨ay.refl _,ay.refl _,s,λ_ _=>rfl⟩
def Ext.tups {G H H':Hp}(s:ay G H)(hh:ay H H'):Ext G H (lZ G H') H':=⟨hh,sM,wY (s.trans hh),λ_ m=>z0 hh m⟩
def Ext.new {G H:Hp}(s:ay G H)(h:H p=none):Ext G H (upd G p o) (upd H p o):=by
 refine⟨ay.new h,ay.new (s.free h),λb u e=>?_,λb hb=>?_⟩
 ·by_cases z:b=p
  ·subst z;rw[aA] at e;exact Kt.of (by rw[aA];exact e)
  ·rw[aC z] at e;exact k7 (s b u e) z (λx y w=>by rw[h] at w;cases w)
 ·exact aC (λz=>hb.1 (by rw[z];exact h))
def Ext.own {G H:Hp}(s:ay G H)(h:H p=none):Ext G H G (upd H p o):=
 ⟨ay.new h,ay.refl _,s.trans (ay.new h),λ_ _=>rfl⟩
def Ext.trans {G H G1 H1 G2 H2:Hp}(x:Ext G H G1 H1)(y:Ext G1 H1 G2 H2):Ext G H G2 H2:=by
 refine⟨x.hh.trans y.hh,x.gg.trans y.gg,y.gh,λb hb=>?_⟩
 rw[y.on b (hb.same λo e=>x.hh b o e),x.on b hb]
section
variable {Γ:Fx}{B:Option Addr}{G H G' H':Hp}{σ:St}{env:En}{β:Int}
def SR.there (I:SR Γ B G H σ env β)(h:Γ.H0 b≠none):H b≠none:=by
 by_cases hp:b∈Γ.par
 ·exact (I.pin b hp).1
 ·cases e:Γ.H0 b with
  |none=>exact absurd e h
  |some o=>obtain⟨u,eu,_⟩:=(I.keep b o e hp).some;rw[eu];simp
def SR.thereM (I:SR Γ B G H σ env β)(h:Mx Γ.H0 b):Mx H b:=by
 by_cases hp:b∈Γ.par
 ·exact I.pin b hp
 ·exact h.same λo e=>I.keep b o e hp
def SR.ext (I:SR Γ B G H σ env β)(x:Ext G H G' H'):SR Γ B G' H' σ env β:=by
 refine⟨x.gh,I.old.trans x.gg,λb h1 h2=>?_,λb o h1 h2=>(I.keep b o h1 h2).step x.hh,λb hb=>?_,I.fix,λb e=>?_,I.len,λi s e=>?_,I.sep⟩
 ·rw[x.on b (I.thereM h1)];exact I.new b h1 h2
 ·exact (I.pin b hb).same λo e=>x.hh b o e
 ·obtain⟨h1,h2,h3⟩:=I.box b e
  exact⟨x.hh b _ h1,by rw[x.on b (Mx.lst h1)];exact h2,h3⟩
 ·have q:=I.slot i s e
  cases s with
  |no=>trivial
  |fz d=>obtain⟨v,h1,h2⟩:=q;exact⟨v,h1,h2.mono x.gg⟩
  |ow d=>
   obtain⟨a,h1,h2,h3,h4,h5⟩:=q
   exact⟨a,h1,h2,by rw[x.on a h5.mx];exact h3,h4,h5.mono x.gg λo q=>x.hh a o q⟩
  |bx=>exact q
  |br d=>obtain⟨b1,a,h1,h4,hp,h5⟩:=q;exact⟨b1,a,h1,h4,hp,h5.mono x.gg λo q=>x.hh a o q⟩
def jL (env:En)(i:Nat):En:=match env[i]? with
 |some (.ow d)=>env.set i (.fz d)
 |_=>env
def bp (L:List Nat)(env:En):En:=L.foldl jL env
def cE (L M:List Nat)(env:En):bp (L ++ M) env=bp M (bp L env):=by unfold bp;rw[List.foldl_append]
def yN (env:En)(i:Nat)(s:Sl)(h:∀t,env[i]? =some t->t.val=s.val):vl (env.set i s)=vl env:=by
 unfold vl
 apply QG
 intro j
 rw[Oa,Oa,List.getElem?_set]
 by_cases e:i=j
 ·subst e
  by_cases hi:i < env.length
  ·simp only[O7,hi]
   have:=h _ (NW hi)
   simp[NW hi,this]
  ·simp only[O7,hi,OR]
   rw[QL (by omega)]
 ·simp[e]
def Fd (env:En)(i:Nat):vl (jL env i)=vl env:=by
 unfold jL
 split
 ·rename_i d e
  exact yN _ _ _ λt ht=>by rw[e] at ht;cases ht;rfl
 ·rfl
theorem gy (L:List Nat)(env:En):vl (bp L env)=vl env:=by
 unfold bp
 induction L generalizing env with
 |nil=>rfl
 |cons i L ih=>rw[QS,ih,Fd]
theorem G9 {i:Nat}{d:D}(h:(vl env)[i]? =some (.da d)):env[i]? =some (.fz d)\/env[i]? =some (.ow d)\/env[i]? =some (.br d):=by
 unfold vl at h
 rw[Oa] at h
 cases e:env[i]? with
 |none=>rw[e] at h;simp at h
 |some s=>
  rw[e] at h
  cases s with
  |no=>simp[Sl.val] at h
  |fz d'=>simp[Sl.val] at h;subst h;exact .inl rfl
  |ow d'=>simp[Sl.val] at h;subst h;exact .inr (.inl rfl)
  |bx=>simp[Sl.val] at h
  |br d'=>simp[Sl.val] at h;subst h;exact .inr (.inr rfl)
theorem Ky {i:Nat}(h:(vl env)[i]? =some .bx):env[i]? =some .bx:=by
 unfold vl at h
 rw[Oa] at h
 cases e:env[i]? with
 |none=>rw[e] at h;simp at h
 |some s=>
  rw[e] at h
  cases s with
  |bx=>rfl
  |_=>simp[Sl.val] at h
def SR.freeze (I:SR Γ B G H σ env β)(i:Nat)(hb:Γ.br i=false){d:D}(h:(vl env)[i]? =some (.da d)):∃G' v,SR Γ B G' H σ (jL env i) β/\ay G G'/\σ[i]? =some (some v)/\Rp Γ.K G' v d:=by
 rcases G9 h with e |e |e
 ·obtain⟨v,h1,h2⟩:=I.slot i _ e
  exact⟨G,v,by unfold jL;rw[e];exact I,ay.refl _,h1,h2⟩
 rotate_left
 ·obtain⟨z,_⟩:=I.slot i _ e
  rw[hb] at z;cases z
 ·obtain⟨a,h1,h2,h3,h4,h5⟩:=I.slot i _ e
  obtain⟨o,ho⟩:=h5.obj
  have sG:ay G (upd G a o):=ay.new h3
  have hi:i < env.length:=(N9.mp e).1
  have hr:Rp Γ.K (upd G a o) (.ref a) d:=h5.rp h3 sG λo' q=>by rw[ho] at q;cases q;exact aA
  refine⟨upd G a o,.ref a,?_,sG,h1,hr⟩
  unfold jL
  rw[e]
  refine⟨λb u q=>?_,I.old.trans sG,λb n1 n2=>?_,I.keep,I.pin,I.fix,λb q=>?_,by rw[Qm];exact I.len,λj s q=>?_,λj k c d1 d2 q1 q2 q3 q4=>?_⟩
  ·by_cases z:b=a
   ·subst z;rw[aA] at q;cases q;exact Kt.of ho
   ·rw[aC z] at q;exact I.sub b u q
  ·rw[aC (λz=>n1.1 (by rw[z];exact h2))];exact I.new b n1 n2
  ·obtain⟨k1,k2,k3⟩:=I.box b q
   exact⟨k1,by rw[aC (λz=>h4 (by rw[<-z];exact q))];exact k2,k3⟩
  ·by_cases z:j=i
   ·subst z
    rw[Oy hi] at q
    cases q
    exact⟨.ref a,h1,hr⟩
   ·rw[Ou (Ne.symm z)] at q
    have w:=I.slot j s q
    cases s with
    |no=>trivial
    |fz d'=>obtain⟨v,w1,w2⟩:=w;exact⟨v,w1,w2.mono sG⟩
    |ow d'=>
     obtain⟨c,w1,w2,w3,w4,w5⟩:=w
     have ca:c≠a:=λz2=>z (I.sep j i c d' d q e w1 (by rw[z2];exact h1))
     exact⟨c,w1,w2,by rw[aC ca];exact w3,w4,w5.mono sG λo q=>Kt.of q⟩
    |bx=>exact w
    |br d'=>obtain⟨b1,c,w1,w4,wp,w5⟩:=w;exact⟨b1,c,w1,w4,wp,w5.mono sG λo q=>Kt.of q⟩
  ·have ne:∀{j:Nat} {d':D},(env.set i (Sl.fz d))[j]? =some (.ow d')->env[j]? =some (.ow d'):=λ{j d'} q=>by
    by_cases z:j=i
    ·subst z;rw[Oy hi] at q;cases q
    ·rw[Ou (Ne.symm z)] at q;exact q
   exact I.sep j k c d1 d2 (ne q1) (ne q2) q3 q4
theorem SR.bp (I:SR Γ B G H σ env β)(L:List Nat)(hb:∀i,i∈L->Γ.br i=false):∃G',SR Γ B G' H σ (bp L env) β/\ay G G':=by
 induction L generalizing env G with
 |nil=>exact⟨G,I,ay.refl _⟩
 |cons i L ih=>
  show ∃G',SR Γ B G' H σ (L2.bp L (jL env i)) β/\ay G G'
  have key:∃G1,SR Γ B G1 H σ (jL env i) β/\ay G G1:=by
   cases e:env[i]? with
   |none=>exact⟨G,by unfold jL;rw[e];exact I,ay.refl _⟩
   |some s=>
    cases s with
    |ow d=>
     obtain⟨G1,v,h1,h2,_⟩:=I.freeze i (hb i (N0 ..)) (d:=d) (by unfold vl;rw[Oa,e];rfl)
     exact⟨G1,h1,h2⟩
    |_=>exact⟨G,by unfold jL;rw[e];exact I,ay.refl _⟩
  obtain⟨G1,I1,s1⟩:=key
  obtain⟨G2,I2,s2⟩:=ih I1 λj hj=>hb j (N5 _ hj)
  exact⟨G2,I2,s1.trans s2⟩
def SR.set (I:SR Γ B G H σ env β)(hi:i < env.length)(h:Rp Γ.K G v d):SR Γ B G H (σ.set i (some v)) (env.set i (.fz d)) β:=by
 have hs:i < σ.length:=by rw[I.len];exact hi
 refine⟨I.sub,I.old,I.new,I.keep,I.pin,I.fix,I.box,by rw[Qm,Qm];exact I.len,λj s q=>?_,λj k c d1 d2 q1 q2 q3 q4=>?_⟩
 ·by_cases z:j=i
  ·subst z
   rw[Oy hi] at q
   cases q
   exact⟨v,by rw[Oy hs],h⟩
  ·rw[Ou (Ne.symm z)] at q ⊢
   exact I.slot j s q
 ·have ne:∀{j:Nat} {d':D},(env.set i (Sl.fz d))[j]? =some (.ow d')->j≠i/\env[j]? =some (.ow d'):=λ{j d'} q=>by
   by_cases z:j=i
   ·subst z;rw[Oy hi] at q;cases q
   ·rw[Ou (Ne.symm z)] at q;exact⟨z,q⟩
  obtain⟨n1,e1⟩:=ne q1
  obtain⟨n2,e2⟩:=ne q2
  rw[Ou (Ne.symm n1)] at q3
  rw[Ou (Ne.symm n2)] at q4
  exact I.sep j k c d1 d2 e1 e2 q3 q4
def SR.setOw (I:SR Γ B G H σ env β)(hi:i < env.length)(h0:Γ.H0 a=none)(hg:G a=none)(hb:B≠some a)(h:Own Γ.K G H a d)(hn:∀(j:Nat) (d':D),env[j]? =some (.ow d')->j≠i->σ[j]?≠some (some (.ref a))):SR Γ B G H (σ.set i (some (.ref a))) (env.set i (.ow d)) β:=by
 have hs:i < σ.length:=by rw[I.len];exact hi
 refine⟨I.sub,I.old,I.new,I.keep,I.pin,I.fix,I.box,by rw[Qm,Qm];exact I.len,λj s q=>?_,λj k c d1 d2 q1 q2 q3 q4=>?_⟩
 ·by_cases z:j=i
  ·subst z
   rw[Oy hi] at q
   cases q
   exact⟨a,by rw[Oy hs],h0,hg,hb,h⟩
  ·rw[Ou (Ne.symm z)] at q ⊢
   exact I.slot j s q
 ·by_cases z1:j=i
  ·by_cases z2:k=i
   ·rw[z1,z2]
   ·subst z1
    rw[Ou (Ne.symm z2)] at q2 q4
    rw[Oy hs] at q3
    cases q3
    exact absurd q4 (hn k d2 q2 z2)
  ·by_cases z2:k=i
   ·subst z2
    rw[Ou (Ne.symm z1)] at q1 q3
    rw[Oy hs] at q4
    cases q4
    exact absurd q3 (hn j d1 q1 z1)
   ·rw[Ou (Ne.symm z1)] at q1 q3
    rw[Ou (Ne.symm z2)] at q2 q4
    exact I.sep j k c d1 d2 q1 q2 q3 q4
def SR.fresh (I:SR Γ B G H σ env β)(h:H a=none):Γ.H0 a=none/\G a=none/\B≠some a/\∀(j:Nat) (d:D),env[j]? =some (.ow d)->σ[j]?≠some (some (.ref a)):=by
 have hB:B≠some a:=λz=>by rw[(I.box a z).1] at h;cases h
 refine⟨?_,I.sub.free h,hB,λj d e z=>?_⟩
 ·cases e:Γ.H0 a with
  |none=>rfl
  |some o=>exact absurd h (I.there (by rw[e];simp))
 ·obtain⟨c,h1,_,_,_,h5⟩:=I.slot j _ e
  rw[z] at h1
  cases h1
  obtain⟨o,ho⟩:=h5.obj
  rw[h] at ho;cases ho
def SR.write (I:SR Γ B G H σ env β)(hb:∀j,Γ.br j=false)(e:env[i]? =some (.ow d))(ea:σ[i]? =some (some (.ref a)))(h:∀H',H' a=some o->ay G H'->Own Γ.K G H' a d'):SR Γ B G (upd H a o) σ (env.set i (.ow d')) β:=by
 obtain⟨a',h1,h2,h3,h4,h5⟩:=I.slot i _ e
 rw[ea] at h1;cases h1
 have hi:i < env.length:=(N9.mp e).1
 have ha:∀x y,H a≠some (.bp x y):=λx y w=>h5.mx.2 _ w trivial
 have sub:ay G (upd H a o):=λb u q=>k7 (I.sub b u q) (λz=>by rw[z,h3] at q;cases q) ha
 refine⟨sub,I.old,I.new,λb u q n=>?_,λb q=>?_,I.fix,λb q=>?_,by rw[Qm];exact I.len,λj s q=>?_,λj k c d1 d2 q1 q2 q3 q4=>?_⟩
 ·exact k7 (I.keep b u q n) (λz=>by rw[z,h2] at q;cases q) ha
 ·by_cases z:b=a
  ·subst z;exact (h _ aA sub).mx
  ·exact (I.pin b q).same λo e=>Kt.of (by rw[aC z];exact e)
 ·obtain⟨k1,k2,k3⟩:=I.box b q
  exact⟨by rw[aC (λz=>h4 (by rw[<-z];exact q))];exact k1,k2,k3⟩
 ·by_cases z:j=i
  ·subst z
   rw[Oy hi] at q
   cases q
   exact⟨a,ea,h2,h3,h4,h _ aA sub⟩
  ·rw[Ou (Ne.symm z)] at q
   have w:=I.slot j s q
   cases s with
   |no=>trivial
   |fz d1=>exact w
   |ow d1=>
    obtain⟨c,w1,w2,w3,w4,w5⟩:=w
    have ca:c≠a:=λz2=>z (I.sep j i c d1 d q e w1 (by rw[z2];exact ea))
    exact⟨c,w1,w2,w3,w4,w5.mono (ay.refl _) λo q=>Kt.of (by rw[aC ca];exact q)⟩
   |bx=>exact w
   |br d1=>obtain⟨b1,_⟩:=w;rw[hb j] at b1;cases b1
 ·have back:∀{j:Nat} {d1:D},(env.set i (Sl.ow d'))[j]? =some (.ow d1)->∃d2,env[j]? =some (.ow d2):=λ{j d1} q=>by
   by_cases z:j=i
   ·subst z;exact⟨d,e⟩
   ·rw[Ou (Ne.symm z)] at q;exact⟨d1,q⟩
  obtain⟨_,b1⟩:=back q1
  obtain⟨_,b2⟩:=back q2
  exact I.sep j k c _ _ b1 b2 q3 q4
end
inductive R (α:Type) where
 |ok (a:α) (β:Int)
 |exc (c:Str)
 |bad
def R.bnd {α γ:Type}(r:R α)(k:α->Int->R γ):R γ:=match r with
 | .ok a β=>k a β
 | .exc c=>.exc c
 | .bad=>.bad
def R.of {α:Type}(o:Option α)(β:Int):R α:=match o with
 |some a=>.ok a β
 |none=>.bad
abbrev VF (α:Type):=List Nv->Int->R α
def Kp (Γ:Fx)(H':Hp):Prop:=∀b o,Γ.H0 b=some o->b∉Γ.par->Kt H' b o
def Out {α:Type}(Γ:Fx)(E:XK)(r:R α)(P:α->Int->Prop):Prop:=match r with
 | .ok a β=>P a β
 | .exc c=>∀H',Kp Γ H'->E (.ref (Γ.ca c)) none H'
 | .bad=>False
section
variable {α γ:Type}{Γ:Fx}{E:XK}
theorem Out.bnd {k:α->Int->R γ}{P:γ->Int->Prop}(h:Out Γ E (r.bnd k) P):Out Γ E r λa β=>Out Γ E (k a β) P:=by
 cases r with
 |ok a β=>exact h
 |exc c=>exact h
 |bad=>exact h
theorem Out.imp {P P':α->Int->Prop}(h:Out Γ E r P)(i:∀a β,P a β->P' a β):Out Γ E r P':=by
 cases r with
 |ok a β=>exact i a β h
 |exc c=>exact h
 |bad=>exact h
theorem Out.of {P:α->Int->Prop}(h:Out Γ E (R.of o β) P):∃a,o=some a/\P a β:=by
 cases o with
 |none=>exact h.elim
 |some a=>exact⟨a,rfl,h⟩
end
inductive Md where
 |b |v |w
def VO (K:Frag)(B:Option Addr)(H G' H':Hp):Md->D->V->Prop
 | .b,d,v=>l7 K B G' H' v d
 | .v,d,v=>Rp K G' v d
 | .w,d,v=>∃a,v=.ref a/\H a=none/\G' a=none/\Own K G' H' a d
def pT (Γ:Fx)(E:XK)(f:VF D)(L:List Nat)(md:Md):TE:=λσ H Q=>∃env G B β,SR Γ B G H σ env β/\
 Out Γ E (f (vl env) β) λd β'=>∀v G' H',SR Γ B G' H' σ (bp L env) β'->ay G G'->i8 B H H'->VO Γ.K B H G' H' md d v->Q v H'
def SE (X:Cx)(Γ:Fx)(E:XK)(e:Expr)(f:VF D)(L:List Nat)(md:Md):Prop:=PE X e (pT Γ E f L md)
def qT (Γ:Fx)(E:XK)(f:VF Bool)(L:List Nat):TT:=λσ H Q=>∃env G B β,SR Γ B G H σ env β/\
 Out Γ E (f (vl env) β) λc β'=>∀G' H',SR Γ B G' H' σ (bp L env) β'->ay G G'->i8 B H H'->Q c H'
def AZ (X:Cx)(Γ:Fx)(E:XK)(e:Expr)(f:VF Bool)(L:List Nat):Prop:=PT X e (qT Γ E f L)
def rC (X:Cx)(Γ:Fx)(E:XK)(e:Expr)(f:VF Bool)(L:List Nat):Prop:=PW X e (qT Γ E f L)
def aT (Γ:Fx)(E:XK)(f:VF (List D))(L:List Nat):TA:=λσ H Q=>∃env G B β,SR Γ B G H σ env β/\
 Out Γ E (f (vl env) β) λds β'=>∀vs G' H',SR Γ B G' H' σ (bp L env) β'->ay G G'->i8 B H H'->cg Γ.K G' vs ds->Q vs H'
def SA (X:Cx)(Γ:Fx)(E:XK)(es:List Expr)(f:VF (List D))(L:List Nat):Prop:=PA X es (aT Γ E f L)
def PE.post' {X:Cx}{e:Expr}(h:PE X e t)(m:∀σ H Q,u σ H Q->t σ H Q):PE X e u:=λpins s σ H Q I q=>h pins s σ H Q I (m σ H Q q)
def PT.post {X:Cx}{e:Expr}(h:PT X e t)(m:∀σ H Q,u σ H Q->t σ H Q):PT X e u:=λpins s σ H Q I q=>h pins s σ H Q I (m σ H Q q)
def PW.post {X:Cx}{e:Expr}(h:PW X e t)(m:∀σ H Q,u σ H Q->t σ H Q):PW X e u:=λwh pins s σ H Q I q=>h wh pins s σ H Q I (m σ H Q q)
def PA.post {X:Cx}{es:List Expr}(h:PA X es t)(m:∀σ H Q,u σ H Q->t σ H Q):PA X es u:=λpos pins s σ H Q I q=>h pos pins s σ H Q I (m σ H Q q)
def PS.post {X:Cx}{st:Stmt}(h:PS X st t)(m:∀D σ H,u D σ H->t D σ H):PS X st u:=λpins s σ H D I q=>h pins s σ H D I (m D σ H q)
def dat:Option Nv->Option D
 |some (.da d)=>some d
 |_=>none
def gv (i:Nat):VF D:=λvs β=>R.of (dat vs[i]?) β
def cst (d:D):VF D:=λ_ β=>.ok d β
section
variable {X:Cx}{Γ:Fx}{E:XK}{e a b c:Expr}{f fa fb fc:VF D}{L La Lb Lc:List Nat}{md ma mb mc:Md}{pos:Pos}
theorem join_some (h:dat o=some d):o=some (.da d):=by
 cases o with
 |none=>cases h
 |some o=>cases o with
  |da x=>cases h;rfl
  |_=>cases h
def SR.letIn (I:SR Γ B G H σ env β)(h0:Γ.H0 p=none)(hg:G p=none)(hb:B≠some p)(hn:∀(j:Nat) (d':D),env[j]? =some (.ow d')->σ[j]?≠some (some (.ref p)))(h:Own Γ.K G H p d) :
  ∃G',SR Γ B G' H σ env β/\ay G G'/\Rp Γ.K G' (.ref p) d:=by
 obtain⟨o,ho⟩:=h.obj
 have sG:ay G (upd G p o):=ay.new hg
 refine⟨upd G p o,⟨λb u q=>?_,I.old.trans sG,λb n1 n2=>?_,I.keep,I.pin,I.fix,λb q=>?_,I.len,λj s q=>?_,I.sep⟩,sG,h.rp hg sG λo' q=>by rw[ho] at q;cases q;exact aA⟩
 ·by_cases z:b=p
  ·subst z;rw[aA] at q;cases q;exact Kt.of ho
  ·rw[aC z] at q;exact I.sub b u q
 ·rw[aC (λz=>n1.1 (by rw[z];exact h0))];exact I.new b n1 n2
 ·obtain⟨k1,k2,k3⟩:=I.box b q
  exact⟨k1,by rw[aC (λz=>hb (by rw[<-z];exact q))];exact k2,k3⟩
 ·have w:=I.slot j s q
  cases s with
  |no=>trivial
  |fz d'=>obtain⟨v,w1,w2⟩:=w;exact⟨v,w1,w2.mono sG⟩
  |ow d'=>
   obtain⟨c,w1,w2,w3,w4,w5⟩:=w
   have ca:c≠p:=λz2=>hn j d' q (by rw[<-z2];exact w1)
   exact⟨c,w1,w2,by rw[aC ca];exact w3,w4,w5.mono sG λo q=>Kt.of q⟩
  |bx=>exact w
  |br d'=>obtain⟨b1,c,w1,w4,wp,w5⟩:=w;exact⟨b1,c,w1,w4,wp,w5.mono sG λo q=>Kt.of q⟩
def zw {env:En}{i j:Nat}{d:D}(h:(jL env i)[j]? =some (.ow d)):env[j]? =some (.ow d):=by
 unfold jL at h
 split at h
 ·rename_i d' e
  by_cases z:i=j
  ·subst z
   rw[Oy (N9.mp e).1] at h;cases h
  ·rw[Ou z] at h;exact h
 ·exact h
theorem uU {L:List Nat}{env:En}{j:Nat}{d:D}(h:(bp L env)[j]? =some (.ow d)):env[j]? =some (.ow d):=by
 unfold bp at h
 induction L generalizing env with
 |nil=>exact h
 |cons i L ih=>exact zw (ih h)
def SR.letW {B:Option Addr}{G H G' H':Hp}{σ:St}{env:En}{β β':Int}{L:List Nat}{d:D}{v:V}(I:SR Γ B G H σ env β)(I':SR Γ B G' H' σ (L2.bp L env) β')(h:VO Γ.K B H G' H' .w d v):∃G2,SR Γ B G2 H' σ (L2.bp L env) β'/\ay G' G2/\Rp Γ.K G2 v d:=by
 obtain⟨p,rfl,h1,h2,h3⟩:=h
 obtain⟨q1,q2,q3,q4⟩:=I.fresh h1
 exact I'.letIn q1 h2 q3 (λj d' e=>q4 j d' (uU e)) h3
def SE.wv (h:SE X Γ E e f L .w):SE X Γ E e f L .v:=by
 refine PE.post' h λσ H Q ⟨env,G,B,β,I,o⟩=>⟨env,G,B,β,I,o.imp λd β' k v G' H' I' s m vo=>?_⟩
 obtain⟨G2,I2,s2,r⟩:=I.letW I' vo
 exact k v G2 H' I2 (s.trans s2) m r
theorem VO.brw {B:Option Addr}{H G' H':Hp}{d:D}{v:V}{K:Frag}(h:VO K B H G' H' md d v)(hB:∀x,B=some x->H x≠none):l7 K B G' H' v d:=by
 cases md with
 |b=>exact h
 |v=>exact .inl h
 |w=>
  obtain⟨p,rfl,h1,h2,h3⟩:=h
  exact .inr ⟨p,rfl,λz=>hB p z h1,h3⟩
def SR.boxThere (I:SR Γ B G H σ env β):∀x,B=some x->H x≠none:=λx e=>by rw[(I.box x e).1];simp
def ae (i:Nat)(hN:X.N[i]? =some x:=by rfl)(hv:AL X.env.scope x:=by first |exact Or.inl rfl |exact Or.inr (Or.inl rfl) |exact Or.inr (Or.inr rfl))(hd:(x == ("__debug__":Str))=false:=by decide)
  (hcd:(x == ("__classdict__":Str))=false:=by decide):SE X Γ E (.Name x pos) (gv i) [] .b:=by
 refine PE.post' (ju hN hv hd hcd) λσ H Q ⟨env,G,B,β,I,o⟩=>?_
 obtain⟨d,e,k⟩:=o.of
 have e:=join_some e
 rcases G9 e with q |q |q
 ·obtain⟨v,h1,h2⟩:=I.slot i _ q
  exact⟨v,h1,k v G H I (ay.refl _) (i8.refl _ _) (.inl h2)⟩
 ·obtain⟨p,h1,h2,h3,h4,h5⟩:=I.slot i _ q
  exact⟨.ref p,h1,k _ G H I (ay.refl _) (i8.refl _ _) (.inr ⟨p,rfl,h4,h5⟩)⟩
 ·obtain⟨_,p,h1,h4,_,h5⟩:=I.slot i _ q
  exact⟨.ref p,h1,k _ G H I (ay.refl _) (i8.refl _ _) (.inr ⟨p,rfl,h4,h5⟩)⟩
def ah (i:Nat)(hb:Γ.br i=false)(hN:X.N[i]? =some x:=by rfl)(hv:AL X.env.scope x:=by first |exact Or.inl rfl |exact Or.inr (Or.inl rfl) |exact Or.inr (Or.inr rfl))(hd:(x == ("__debug__":Str))=false:=by decide)
  (hcd:(x == ("__classdict__":Str))=false:=by decide):SE X Γ E (.Name x pos) (gv i) [i] .v:=by
 refine PE.post' (ju hN hv hd hcd) λσ H Q ⟨env,G,B,β,I,o⟩=>?_
 obtain⟨d,e,k⟩:=o.of
 obtain⟨G',v,I',s,h1,h2⟩:=I.freeze i hb (join_some e)
 exact⟨v,h1,k v G' H I' s (i8.refl _ _) h2⟩
def E2 (h:PE X e (tC v))(r:∀G,Rp Γ.K G v d):SE X Γ E e (cst d) [] .v:=by
 refine PE.post' h λσ H Q ⟨env,G,B,β,I,o⟩=>?_
 exact o v G H I (ay.refl _) (i8.refl _ _) (r G)
def aE {j}:SE X Γ E (.Constant (.int i) j pos) (cst (.int i)) [] .v:=E2 uo λ_=>.int i
def dw {j}:SE X Γ E (.Constant (.bool i) j pos) (cst (.bool i)) [] .v:=E2 zm λ_=>.bl i
def Jo {j}:SE X Γ E (.Constant .none j pos) (cst .none) [] .v:=E2 IZ λ_=>.non
def EM (hg:Gl X x)(hm:X.mg x=some (.int i t))(hd:(x == ("__debug__":Str))=false:=by decide):SE X Γ E (.Name x pos) (cst (.int i)) [] .v:=E2 (Fw hg hm (show RelV (.int i) _ from⟨_,rfl⟩) hd) λ_=>.int i
def two {W:V->V->Hp->Prop}(I:SR Γ B G H σ env β)
  (h:Out Γ E (fa (vl env) β) λd1 β1=>Out Γ E (fb (vl env) β1) λd2 β2=>∀x y G2 H2,SR Γ B G2 H2 σ (bp (La ++ Lb) env) β2->ay G G2->i8 B H H2->l7 Γ.K B G2 H2 x d1->l7 Γ.K B G2 H2 y d2->W x y H2) :
  pT Γ E fa La ma σ H λx H1=>pT Γ E fb Lb mb σ H1 λy H2=>W x y H2:=by
 refine⟨env,G,B,β,I,h.imp λd1 β1 h x G1 H1 I1 s1 m1 vx=>⟨bp La env,G1,B,β1,I1,?_⟩⟩
 rw[gy]
 refine h.imp λd2 β2 k y G2 H2 I2 s2 m2 vy=>?_
 refine k x y G2 H2 (by rw[cE];exact I2) (s1.trans s2) (m1.trans m2) ((vx.brw I.boxThere).mono s2 m2) (vy.brw I1.boxThere)
def nP (K:Frag)(r:R2)(g:D->D->Option D)(md:Md):Prop:=∀(B:Option Addr) (G H:Hp) (x y:V) (dx dy d:D) (Q:VK),ay G H->(∀x,B=some x->H x≠none)->l7 K B G H x dx->l7 K B G H y dy->g dx dy=some d->
 (∀v G' H',Ext G H G' H'->VO K B H G' H' md d v->Q v H')->r x y H Q
def f2 (fa fb:VF D)(g:D->D->Option D):VF D:=λvs β=>(fa vs β).bnd λx β1=>(fb vs β1).bnd λy β2=>R.of (g x y) β2
theorem gm (m:i8 B H H2)(hB:∀x,B=some x->H2 x≠none)(h:H2 p=none):H p=none:=by
 cases e:H p with
 |none=>rfl
 |some o=>obtain⟨u,eu,_⟩:=(m.1 p o e λz=>hB p z h).some;rw[eu] at h;cases h
theorem VO.back {K:Frag}{B:Option Addr}{H H2 G' H':Hp}{d:D}{v:V}(h:VO K B H2 G' H' md d v)(m:i8 B H H2)(hB:∀x,B=some x->H2 x≠none):VO K B H G' H' md d v:=by
 cases md with
 |b=>exact h
 |v=>exact h
 |w=>obtain⟨p,e,h1,h2,h3⟩:=h;exact⟨p,e,gm m hB h1,h2,h3⟩
def ni {g:D->D->Option D}{Q:VK}(pr:nP Γ.K r g md)(I:SR Γ B G H σ env β)
  (h:Out Γ E (f2 fa fb g (vl env) β) λd β'=>∀v G' H',SR Γ B G' H' σ (bp (La ++ Lb) env) β'->ay G G'->i8 B H H'->VO Γ.K B H G' H' md d v->Q v H') :
  pT Γ E fa La ma σ H λx H1=>pT Γ E fb Lb mb σ H1 λy H2=>r x y H2 Q:=by
 refine two I (h.bnd.imp λd1 β1 h=>h.bnd.imp λd2 β2 h x y G2 H2 I2 s2 m2 bx by'=>?_)
 obtain⟨d,e,k⟩:=h.of
 refine pr B G2 H2 x y d1 d2 d Q I2.sub I2.boxThere bx by' e λv G' H' x' vo=>?_
 exact k v G' H' (I2.ext x') (s2.trans x'.gg) (m2.trans (x'.hh.mov B)) (vo.back m2 I2.boxThere)
def bC {g:D->D->Option D}(ho:mM X (binaryOp op) r)(pr:nP Γ.K r g md)(ha:SE X Γ E a fa La ma)(hb:SE X Γ E b fb Lb mb):SE X Γ E (.BinOp a op b pos) (f2 fa fb g) (La ++ Lb) md:=
 PE.post' (sy ho ha hb) λσ H Q ⟨env,G,B,β,I,o⟩=>ni pr I o
def jB {g:D->D->Option D}(ho:mM X (compareOp op) r)(pr:nP Γ.K r g md)(ha:SE X Γ E a fa La ma)(hb:SE X Γ E b fb Lb mb)(hm:behindInMarks op b=false):SE X Γ E (.Compare a [op] [b] pos) (f2 fa fb g) (La ++ Lb) md:=
 PE.post' (EA ho ha hb hm) λσ H Q ⟨env,G,B,β,I,o⟩=>ni pr I o
def bO {g:D->D->Option D}(hr:C2 X r)(pr:nP Γ.K r g md)(ha:SE X Γ E a fa La ma)(hb:SE X Γ E b fb Lb mb)(hs:y6 b):SE X Γ E (.Subscript a b pos) (f2 fa fb g) (La ++ Lb) md:=
 PE.post' (l5 hr ha hb hs) λσ H Q ⟨env,G,B,β,I,o⟩=>ni pr I o
def BO (K:Frag)(r:V->Hp->VK->Prop)(g:D->Option D)(md:Md):Prop:=∀(B:Option Addr) (G H:Hp) (x:V) (dx d:D) (Q:VK),ay G H->(∀x,B=some x->H x≠none)->l7 K B G H x dx->g dx=some d->
 (∀v G' H',Ext G H G' H'->VO K B H G' H' md d v->Q v H')->r x H Q
def f1 (fa:VF D)(g:D->Option D):VF D:=λvs β=>(fa vs β).bnd λx β1=>R.of (g x) β1
def il {r:V->Hp->VK->Prop}{g:D->Option D}{Q:VK}(pr:BO Γ.K r g md)(I:SR Γ B G H σ env β)
  (h:Out Γ E (f1 fa g (vl env) β) λd β'=>∀v G' H',SR Γ B G' H' σ (bp La env) β'->ay G G'->i8 B H H'->VO Γ.K B H G' H' md d v->Q v H') :
  pT Γ E fa La ma σ H λx H1=>r x H1 Q:=by
 refine⟨env,G,B,β,I,h.bnd.imp λd1 β1 h x G1 H1 I1 s1 m1 vx=>?_⟩
 obtain⟨d,e,k⟩:=h.of
 refine pr B G1 H1 x d1 d Q I1.sub I1.boxThere (vx.brw I.boxThere) e λv G' H' x' vo=>?_
 exact k v G' H' (I1.ext x') (s1.trans x'.gg) (m1.trans (x'.hh.mov B)) (vo.back m1 I1.boxThere)
def DS {r:V->Hp->VK->Prop}{g:D->Option D}(ho:L1 X (unaryOp op) r)(pr:BO Γ.K r g md)(ha:SE X Γ E a fa La ma):SE X Γ E (.UnaryOp op a pos) (f1 fa g) La md:=
 PE.post' (LR ho ha) λσ H Q ⟨env,G,B,β,I,o⟩=>il pr I o
def aL {id:String}{r:List V->Hp->VK->Prop}{g:D->Option D}{x:Str}{p:Pos}(hc:cI X (.builtin id) r)(pr:BO Γ.K (λx=>r [x]) g md)(hg:Gl X x)(hm:X.mg x=none)(hv:bootBuiltins x=some (.builtin id))(ha:SE X Γ E a fa La ma)(hn:x≠"__name__":=by decide)(hdb:(x == ("__debug__":Str))=false:=by decide)
  (he:starEach [a] X.env=(false,eval a X.env) :: starEach [] X.env:=by rfl):SE X Γ E (.Call (.Name x p) [a] [] pos) (f1 fa g) La md:=
 PE.post' (i0 hc hg hm hv (aN ha bu he) hn hdb he) λσ H Q ⟨env,G,B,β,I,o⟩=>il (r:=λx=>r [x]) pr I o
def lh {id:String}{r:List V->Hp->VK->Prop}{g:D->Option D}{x:Str}{p:Pos}(hc:cI X (.type id) r)(pr:BO Γ.K (λx=>r [x]) g md)(hg:Gl X x)(hm:X.mg x=none)(hv:bootBuiltins x=some (.type id))(ha:SE X Γ E a fa La ma)(hn:x≠"__name__":=by decide)(hdb:(x == ("__debug__":Str))=false:=by decide)
  (he:starEach [a] X.env=(false,eval a X.env) :: starEach [] X.env:=by rfl):SE X Γ E (.Call (.Name x p) [a] [] pos) (f1 fa g) La md:=
 PE.post' (fZ hc hg hm hv (aN ha bu he) hn hdb he) λσ H Q ⟨env,G,B,β,I,o⟩=>il (r:=λx=>r [x]) pr I o
def wH {id:String}{r:List V->Hp->VK->Prop}{g:D->D->Option D}{x:Str}{p:Pos}(hc:cI X (.builtin id) r)(pr:nP Γ.K (λx y=>r [x,y]) g md)(hg:Gl X x)(hm:X.mg x=none)(hv:bootBuiltins x=some (.builtin id))(ha:SE X Γ E a fa La ma)(hb:SE X Γ E b fb Lb mb)(hn:x≠"__name__":=by decide)(hdb:(x == ("__debug__":Str))=false:=by decide)
  (he:starEach [a,b] X.env=(false,eval a X.env) :: starEach [b] X.env:=by rfl) (he2:starEach [b] X.env=(false,eval b X.env) :: starEach [] X.env:=by rfl) (hpl:(backTo pos (starEach [b] X.env)).any (·.1)=false:=by rfl):SE X Γ E (.Call (.Name x p) [a,b] [] pos) (f2 fa fb g) (La ++ Lb) md:=
 PE.post' (i0 hc hg hm hv (aN ha (aN hb bu he2) he) hn hdb he hpl) λσ H Q ⟨env,G,B,β,I,o⟩=>ni (r:=λx y=>r [x,y]) pr I o
def fP (fa fb:VF D):VF D:=λvs β=>(fa vs β).bnd λx β1=>match x with
 | .bool true=>fb vs β1
 | .bool false=>.ok (.bool false) β1
 |_=>.bad
def kX {op}(h:SE X Γ E a fa La md):SE X Γ E (.BoolOp op [a] pos) fa La md:=Ho h
theorem jY {rest:List Expr}(ha:SE X Γ E a fa La ma)(hb:SE X Γ E (.BoolOp .And (b :: rest) pos) fb Lb .v)(hbr:∀i,i∈Lb->Γ.br i=false):SE X Γ E (.BoolOp .And (a :: b :: rest) pos) (fP fa fb) (La ++ Lb) .v:=by
 refine PE.post' (Js ha hb) λσ H Q ⟨env,G,B,β,I,o⟩=>?_
 refine⟨env,G,B,β,I,o.bnd.imp λd1 β1 h x G1 H1 I1 s1 m1 vx=>?_⟩
 have bx:=vx.brw I.boxThere
 cases d1 with
 |bool c=>
  obtain rfl:=bx.bool
  refine⟨c,rfl,?_⟩
  cases c with
  |true=>exact wc ⟨_,G1,B,β1,I1,by rw[gy];exact h.imp λd β' k v G' H' I' s' m' vo=>k v G' H' (by rw[cE];exact I') (s1.trans s') (m1.trans m') vo⟩
  |false=>
   obtain⟨G2,I2,s2⟩:=I1.bp Lb hbr
   exact wC (h _ G2 H1 (by rw[cE];exact I2) (s1.trans s2) m1 (.bl false))
 |_=>exact h.elim
def yk:D->Option D
 | .bool c=>some (.bool (!c))
 |_=>none
theorem yj (ha:SE X Γ E a fa La ma):SE X Γ E (.UnaryOp .Not a pos) (f1 fa yk) La .v:=by
 refine PE.post' (Ir ha) λσ H Q ⟨env,G,B,β,I,o⟩=>?_
 refine il (r:=λx H1 Q=>∃c,x=.bl c/\Q (.bl (!c)) H1) ?_ I o
 intro B G H x dx d Q s hB bx e k
 cases dx with
 |bool c=>
  obtain rfl:=bx.bool
  cases e
  exact⟨c,rfl,k _ G H (Ext.refl s) (.bl _)⟩
 |_=>cases e
def JG:D->Option Bool
 | .none=>some false
 | .bool b=>some b
 | .int i=>some (i != 0)
 | .str y=>if y.length<=sizeLine then some ((y.length:Int) != 0) else none
 | .list ds=>some (!ds.isEmpty)
 | .tuple ds=>some (!ds.isEmpty)
 | .dict _=>none
def kU (fa:VF D):VF Bool:=λvs β=>(fa vs β).bnd λx β1=>R.of (JG x) β1
def oS {K:Frag}{G:Hp}{xs:List V}{ds:List D}(r:cg K G xs ds):(!ds.isEmpty)= !xs.isEmpty:=by cases r <;> rfl
theorem cy (hK:X.K=Γ.K)(ha:SE X Γ E a fa La ma)(he:∀whole,isTrue a X.env whole=(do let v <-whole;standAt a.pos;holding [v] (truthy v)):=by intro _;rfl):AZ X Γ E a (kU fa) La:=by
 refine PT.post (D6 ha he) λσ H Q ⟨env,G,B,β,I,o⟩=>?_
 refine⟨env,G,B,β,I,o.bnd.imp λd1 β1 h x G1 H1 I1 s1 m1 vx=>?_⟩
 obtain⟨c,e,k⟩:=h.of
 have bx:=vx.brw I.boxThere
 refine⟨c,?_,k G1 H1 I1 s1 m1⟩
 rw[hK]
 cases d1 with
 |none=>obtain rfl:=bx.none;cases e;rfl
 |bool b=>obtain rfl:=bx.bool;cases e;rfl
 |int i=>obtain rfl:=bx.int;cases e;rfl
 |str y=>
  obtain rfl:=bx.str
  simp only[JG] at e
  split at e
  ·cases e;exact⟨by assumption,rfl⟩
  ·cases e
 |list ds=>obtain⟨p,xs,rfl,hq,r⟩:=bx.list I1.sub;cases e;exact .inl ⟨xs,.inl hq,oS r⟩
 |tuple ds=>obtain⟨p,xs,rfl,hq,r⟩:=bx.tuple I1.sub;cases e;exact .inr (.inl ⟨xs,hq,oS r⟩)
 |dict ds=>cases e
def cB (fa:VF D):VF Bool:=λvs β=>(fa vs β).bnd λx β1=>match x with
 | .bool c=>.ok c β1
 |_=>.bad
theorem bw {g:D->D->Option D}(ho:mM X (compareOp op) r)(pr:nP Γ.K r g .v)(ha:SE X Γ E a fa La ma)(hb:SE X Γ E b fb Lb mb)(hm:behindInMarks op b=false):AZ X Γ E (.Compare a [op] [b] pos) (cB (f2 fa fb g)) (La ++ Lb):=by
 refine PT.post (GB ho ha hb hm) λσ H Q ⟨env,G,B,β,I,o⟩=>?_
 refine ni pr I (o.bnd.imp λd β' h v G' H' I' s' m' vo=>?_)
 cases d with
 |bool c=>cases vo;exact⟨c,rfl,h G' H' I' s' m'⟩
 |_=>exact h.elim
def rk (t:VF Bool):VF Bool:=λvs β=>(t vs β).bnd λc β1=>.ok (!c) β1
def Iv (t u:VF Bool):VF Bool:=λvs β=>(t vs β).bnd λc β1=>if c=true then u vs β1 else .ok false β1
def lb (t u:VF Bool):VF Bool:=λvs β=>(t vs β).bnd λc β1=>if c=true then .ok true β1 else u vs β1
variable {ta tb tc:VF Bool}
def dE (ha:AZ X Γ E a ta La):AZ X Γ E (.UnaryOp .Not a pos) (rk ta) La:=by
 refine PT.post (HN ha) λσ H Q ⟨env,G,B,β,I,o⟩=>?_
 exact⟨env,G,B,β,I,o.bnd.imp λc β1 h=>h⟩
def rC.t (h:rC X Γ E e ta La):AZ X Γ E e ta La:=PW.pt h
def FX (ha:AZ X Γ E a ta La):rC X Γ E (.BoolOp .And [a] pos) ta La:=Ab ha
def gY (ha:AZ X Γ E a ta La):rC X Γ E (.BoolOp .Or [a] pos) ta La:=JB ha
theorem Hy {rest:List Expr}(ha:AZ X Γ E a ta La)(hb:rC X Γ E (.BoolOp .And (b :: rest) pos) tb Lb)(hbr:∀i,i∈Lb->Γ.br i=false):rC X Γ E (.BoolOp .And (a :: b :: rest) pos) (Iv ta tb) (La ++ Lb):=by
 refine PW.post (D3 ha hb) λσ H Q ⟨env,G,B,β,I,o⟩=>?_
 refine⟨env,G,B,β,I,o.bnd.imp λc β1 h G1 H1 I1 s1 m1=>?_⟩
 cases c with
 |true=>exact wc ⟨_,G1,B,β1,I1,by rw[gy];exact Out.imp h λd β' k G' H' I' s' m'=>k G' H' (by rw[cE];exact I') (s1.trans s') (m1.trans m')⟩
 |false=>
  obtain⟨G2,I2,s2⟩:=I1.bp Lb hbr
  exact wC (h G2 H1 (by rw[cE];exact I2) (s1.trans s2) m1)
theorem kM {rest:List Expr}(ha:AZ X Γ E a ta La)(hb:rC X Γ E (.BoolOp .Or (b :: rest) pos) tb Lb)(hbr:∀i,i∈Lb->Γ.br i=false):rC X Γ E (.BoolOp .Or (a :: b :: rest) pos) (lb ta tb) (La ++ Lb):=by
 refine PW.post (Kw ha hb) λσ H Q ⟨env,G,B,β,I,o⟩=>?_
 refine⟨env,G,B,β,I,o.bnd.imp λc β1 h G1 H1 I1 s1 m1=>?_⟩
 cases c with
 |true=>
  obtain⟨G2,I2,s2⟩:=I1.bp Lb hbr
  exact wc (h G2 H1 (by rw[cE];exact I2) (s1.trans s2) m1)
 |false=>exact wC ⟨_,G1,B,β1,I1,by rw[gy];exact Out.imp h λd β' k G' H' I' s' m'=>k G' H' (by rw[cE];exact I') (s1.trans s') (m1.trans m')⟩
def NT (t:VF Bool)(fa fb:VF D):VF D:=λvs β=>(t vs β).bnd λc β1=>if c=true then fa vs β1 else fb vs β1
def af:VF (List D):=λ_ β=>.ok [] β
def aa (fa:VF D)(fr:VF (List D)):VF (List D):=λvs β=>(fa vs β).bnd λx β1=>(fr vs β1).bnd λxs β2=>.ok (x :: xs) β2
variable {fr:VF (List D)}{es:List Expr}
def ak:SA X Γ E [] af []:=PA.post bu λσ H Q ⟨env,G,B,β,I,o⟩=>o [] G H I (ay.refl _) (i8.refl _ _) .nil
def ab (ha:SE X Γ E a fa La .v)(hr:SA X Γ E es fr Lb)(hs:starEach (a :: es) X.env=(false,eval a X.env) :: starEach es X.env:=by rfl):SA X Γ E (a :: es) (aa fa fr) (La ++ Lb):=by
 refine PA.post (aN ha hr hs) λσ H Q ⟨env,G,B,β,I,o⟩=>?_
 refine⟨env,G,B,β,I,o.bnd.imp λd1 β1 h x G1 H1 I1 s1 m1 vx=>⟨bp La env,G1,B,β1,I1,?_⟩⟩
 rw[gy]
 refine h.bnd.imp λds β2 k xs G2 H2 I2 s2 m2 r=>?_
 exact k (x :: xs) G2 H2 (by rw[cE];exact I2) (s1.trans s2) (m1.trans m2) (.cons (vx.mono s2) r)
def fq (fr:VF (List D)):VF D:=λvs β=>(fr vs β).bnd λds β1=>if ds.length<=sizeLine then .ok (.tuple ds) β1 else .bad
def bR (fr:VF (List D)):VF D:=λvs β=>(fr vs β).bnd λds β1=>if ds.length<=sizeLine then .ok (.list ds) β1 else .bad
def kg {x1}(h:SA X Γ E es fr L):SE X Γ E (.Tuple es x1 pos) (fq fr) L .v:=by
 refine PE.post' (yy h) λσ H Q ⟨env,G,B,β,I,o⟩=>?_
 refine⟨env,G,B,β,I,o.bnd.imp λds β1 k xs G1 H1 I1 s1 m1 r=>?_⟩
 by_cases hz:ds.length<=sizeLine
 ·rw[N1 hz] at k
  refine⟨by rw[r.len];exact hz,λp hp=>?_⟩
  have x:=Ext.new I1.sub (o:=.tup xs) hp
  exact k _ _ _ (I1.ext x) (s1.trans x.gg) (m1.trans (x.hh.mov B)) (.tup (.inl (.inl aA)) (r.mono x.gg))
 ·rw[N8 hz] at k;exact k.elim
def bZ (h:SA X Γ E es fr L):SE X Γ E (.List es pos) (bR fr) L .w:=by
 refine PE.post' (DG h) λσ H Q ⟨env,G,B,β,I,o⟩=>?_
 refine⟨env,G,B,β,I,o.bnd.imp λds β1 k xs G1 H1 I1 s1 m1 r=>?_⟩
 by_cases hz:ds.length<=sizeLine
 ·rw[N1 hz] at k
  refine⟨by rw[r.len];exact hz,λp hp=>?_⟩
  have x:=Ext.own I1.sub (o:=.lst xs) hp
  exact k _ _ _ (I1.ext x) s1 (m1.trans (x.hh.mov B)) ⟨p,rfl,gm m1 I1.boxThere hp,I1.sub.free hp,xs,aA,r⟩
 ·rw[N8 hz] at k;exact k.elim
inductive FR where
 |ok (d:D) (fresh:Bool)
 |exc (c:Str)
 |bad
def FV (K:Frag)(H G' H':Hp)(fr:Bool)(d:D)(v:V):Prop:=if fr=true then ∃a,v=.ref a/\H a=none/\G' a=none/\Own K G' H' a d else Rp K G' v d
def Dd (K:Frag)(ca:Str->Addr)(n:Nat)(F:List D->FR):Sp:=λvs H Q E=>∃G ds,ay G H/\ds.length=n/\cg K G vs ds/\match F ds with
 | .ok d fr=>∀v G' H',ay H H'->ay G G'->ay G' H'->(∀b,Mx H b->G b=none->G' b=none)->FV K H G' H' fr d v->Q v H'
 | .exc c=>∀H',ay H H'->E (.ref (ca c)) none H'
 | .bad=>False
structure bP (P:Program)(w:World)(K:Frag)(mg:Str->Option Value)(base:Heap)(ca:Str->Addr)(x:Str)(ps:List Str)(k:Nat)(F:List D->FR):Prop where
 ex:∃f fd,mg x=some (.ref f)/\PySem.W.keepIn K (.ref f)=true/\Binds K fd ps []/\fV P w K mg base (r0 P w) k f fd ps (Dd K ca ps.length F)
 len:∀ds,F ds≠.bad->ds.length=ps.length
def aq (F:List D->FR)(fr:VF (List D)):VF D:=λvs β=>(fr vs β).bnd λds β1=>match F ds with
 | .ok d _=>.ok d β1
 | .exc c=>.exc c
 | .bad=>.bad
def vV (F:List D->FR)(fr:VF (List D)):VF D:=λvs β=>(fr vs β).bnd λds β1=>match F ds with
 | .ok d true=>.ok d β1
 | .ok _ false=>.bad
 | .exc c=>.exc c
 | .bad=>.bad
def SR.called (I1:SR Γ B G1 H1 σ env β)(h:ay H1 H2)(g:ay G1 G2)(s:ay G2 H2)(n:∀b,Mx H1 b->G1 b=none->G2 b=none):SR Γ B G2 H2 σ env β/\i8 B H1 H2:=by
 refine⟨⟨s,I1.old.trans g,λb n1 n2=>?_,λb o e np=>(I1.keep b o e np).step h,λb hb=>?_,I1.fix,λb e=>?_,I1.len,λi t e=>?_,I1.sep⟩,h.mov B⟩
 ·exact n b (I1.thereM n1) (I1.new b n1 n2)
 ·exact (I1.pin b hb).same λo e=>h b o e
 ·obtain⟨h1,h2,h3⟩:=I1.box b e
  exact⟨h b _ h1,n b (Mx.lst h1) h2,h3⟩
 ·have q:=I1.slot i t e
  cases t with
  |no=>trivial
  |fz d=>obtain⟨v,h1,h2⟩:=q;exact⟨v,h1,h2.mono g⟩
  |ow d=>
   obtain⟨p,h1,h2,h3,h4,h5⟩:=q
   exact⟨p,h1,h2,n p h5.mx h3,h4,h5.mono g λo q=>h p o q⟩
  |bx=>exact q
  |br d=>obtain⟨b1,p,h1,h4,hp,h5⟩:=q;exact⟨b1,p,h1,h4,hp,h5.mono g λo q=>h p o q⟩
def SR.kp (I:SR Γ B G H σ env β)(h:ay H H'):Kp Γ H':=λb o e n=>(I.keep b o e n).step h
theorem sC {F:List D->FR}{ps:List Str}{Q:VK}(I:SR Γ B G H σ env β)(hK:X.K=Γ.K){wv:Bool}
  (h:Out Γ E (if wv=true then vV F fr (vl env) β else aq F fr (vl env) β) λd β'=>∀v G' H',SR Γ B G' H' σ (bp L env) β'->ay G G'->i8 B H H'->VO Γ.K B H G' H' (if wv=true then .w else .v) d v->Q v H') (hl:∀ds,F ds≠.bad->ds.length=ps.length) :
  aT Γ E fr L σ H λvs H1=>Dd X.K Γ.ca ps.length F vs H1 Q E:=by
 refine⟨env,G,B,β,I,?_⟩
 have h:Out Γ E (fr (vl env) β) λds β1=>Out Γ E (match F ds with
   | .ok d true=>.ok d β1
   | .ok d false=>if wv=true then .bad else .ok d β1
   | .exc c=>.exc c
   | .bad=>.bad) λd β'=>∀v G' H',SR Γ B G' H' σ (bp L env) β'->ay G G'->i8 B H H'->VO Γ.K B H G' H' (if wv=true then .w else .v) d v->Q v H':=by
  cases wv with
  |true=>
   simp only[O7] at h ⊢
   refine h.bnd.imp λds β1 h=>?_
   cases q:F ds with
   |ok d b=>rw[q] at h;cases b <;> exact h
   |exc c=>rw[q] at h;exact h
   |bad=>rw[q] at h;exact h
  |false=>
   simp only[Oj,OR] at h ⊢
   refine h.bnd.imp λds β1 h=>?_
   cases q:F ds with
   |ok d b=>rw[q] at h;cases b <;> exact h
   |exc c=>rw[q] at h;exact h
   |bad=>rw[q] at h;exact h
 refine h.imp λds β1 k vs G1 H1 I1 s1 m1 r=>?_
 refine⟨G1,ds,I1.sub,?_,by rw[hK];exact r,?_⟩
 ·exact hl ds λz=>by rw[z] at k;exact k
 cases q:F ds with
 |bad=>rw[q] at k;exact k
 |exc c=>rw[q] at k;exact λH' s=>k H' (I1.kp s)
 |ok d b=>
  rw[q] at k
  intro v G' H' hh hg hs hn fv
  obtain⟨I2,m2⟩:=I1.called hh hg hs hn
  cases b with
  |true=>
   obtain⟨p,rfl,p1,p2,p3⟩:∃a,v=.ref a/\H1 a=none/\G' a=none/\Own X.K G' H' a d:=fv
   rw[hK] at p3
   have hp:=gm m1 I1.boxThere p1
   cases wv with
   |true=>exact k _ G' H' I2 (s1.trans hg) (m1.trans m2) ⟨p,rfl,hp,p2,p3⟩
   |false=>
    obtain⟨q1,q2,q3,q4⟩:=I1.fresh p1
    obtain⟨G3,I3,s3,r3⟩:=I2.letIn q1 p2 q3 q4 p3
    exact k _ G3 H' I3 ((s1.trans hg).trans s3) (m1.trans m2) r3
  |false=>
   cases wv with
   |true=>exact k.elim
   |false=>
    have fv:Rp X.K G' v d:=fv
    rw[hK] at fv
    exact k _ G' H' I2 (s1.trans hg) (m1.trans m2) fv
def az {F:List D->FR}{p:Pos}(hf:bP X.prog X.w X.K X.mg X.base Γ.ca x ps k F)(hr:fN k X.A)(hx:Passes (r0 X.prog X.w) X E)(hK:X.K=Γ.K)(hg:Gl X x)(ha:SA X Γ E (a :: es) fr L)(hdb:(x == ("__debug__":Str))=false:=by decide)
  (he:starEach (a :: es) X.env=(false,eval a X.env) :: starEach es X.env:=by rfl) (hpl:(backTo pos (starEach es X.env)).any (·.1)=false:=by rfl):SE X Γ E (.Call (.Name x p) (a :: es) [] pos) (aq F fr) L .v:=by
 obtain⟨f,fd,hm,hk,hb,hF⟩:=hf.ex
 refine PE.post' (nH (dvs:=[]) hF hr hg hm hk hb .nil hx ha hdb he hpl) λσ H Q ⟨env,G,B,β,I,o⟩=>?_
 show aT Γ E fr L σ H λvs H1=>Dd X.K Γ.ca ps.length F (vs ++ []) H1 Q E
 have:=sC (Q:=Q) (wv:=false) (ps:=ps) I hK o hf.len
 simpa using this
def D1 {F:List D->FR}{p:Pos}(hf:bP X.prog X.w X.K X.mg X.base Γ.ca x ps k F)(hr:fN k X.A)(hx:Passes (r0 X.prog X.w) X E)(hK:X.K=Γ.K)(hg:Gl X x)(ha:SA X Γ E (a :: es) fr L)(hdb:(x == ("__debug__":Str))=false:=by decide)
  (he:starEach (a :: es) X.env=(false,eval a X.env) :: starEach es X.env:=by rfl) (hpl:(backTo pos (starEach es X.env)).any (·.1)=false:=by rfl):SE X Γ E (.Call (.Name x p) (a :: es) [] pos) (vV F fr) L .w:=by
 obtain⟨f,fd,hm,hk,hb,hF⟩:=hf.ex
 refine PE.post' (nH (dvs:=[]) hF hr hg hm hk hb .nil hx ha hdb he hpl) λσ H Q ⟨env,G,B,β,I,o⟩=>?_
 show aT Γ E fr L σ H λvs H1=>Dd X.K Γ.ca ps.length F (vs ++ []) H1 Q E
 have:=sC (Q:=Q) (wv:=true) (ps:=ps) I hK o hf.len
 simpa using this
end
inductive SO where
 |nx (env:En) (β:Int)
 |bk (env:En) (β:Int)
 |ct (env:En) (β:Int)
 |rt (d:D) (fr:Bool) (β:Int)
 |exc (c:Str)
 |bad
abbrev SF:=En->Int->SO
def RV (Γ:Fx)(G' H':Hp)(fr:Bool)(d:D)(v:V):Prop:=if fr=true then ∃a,v=.ref a/\Γ.H0 a=none/\G' a=none/\Own Γ.K G' H' a d else Rp Γ.K G' v d
def rn (Γ:Fx)(E:XK)(G:Hp)(N:Ends):SO->Prop
 | .nx env β=>∀B G' H' σ,SR Γ B G' H' σ env β->ay G G'->N.nx σ H'
 | .bk env β=>∀B G' H' σ,SR Γ B G' H' σ env β->ay G G'->N.bk σ H'
 | .ct env β=>∀B G' H' σ,SR Γ B G' H' σ env β->ay G G'->N.ct σ H'
 | .rt d fr β=>∀B G' H' σ env v,SR Γ B G' H' σ env β->ay G G'->RV Γ G' H' fr d v->N.rt v H'
 | .exc c=>∀H',Kp Γ H'->E (.ref (Γ.ca c)) none H'
 | .bad=>False
def sT (Γ:Fx)(E:XK)(m:SF):TS:=λN σ H=>∃env G B β,SR Γ B G H σ env β/\rn Γ E G N (m env β)
def SS (X:Cx)(Γ:Fx)(E:XK)(st:Stmt)(m:SF):Prop:=PS X st (sT Γ E m)
def Ep (X:Cx)(Γ:Fx)(E:XK)(st:List Stmt)(m:SF):Prop:=sV X st (sT Γ E m)
def sV.post {X:Cx}{st:List Stmt}(h:sV X st t)(m:∀D σ H,u D σ H->t D σ H):sV X st u:=λpins s σ H D I q=>h pins s σ H D I (m D σ H q)
def aH (m m':SF):SF:=λenv β=>match m env β with
 | .nx env' β'=>m' env' β'
 |r=>r
def jT:SF:=λenv β=>.nx env β
section
variable {X:Cx}{Γ:Fx}{E:XK}{e a b c:Expr}{f fa fb:VF D}{L La Lb:List Nat}{md ma mb:Md}{pos:Pos}{st:Stmt}{sts:List Stmt}{m m':SF}{ta:VF Bool}
theorem rn.weak (h:rn Γ E G N r)(s:ay G G1):rn Γ E G1 N r:=by
 cases r with
 |nx env β=>exact λB G' H' σ I s'=>h B G' H' σ I (s.trans s')
 |bk env β=>exact λB G' H' σ I s'=>h B G' H' σ I (s.trans s')
 |ct env β=>exact λB G' H' σ I s'=>h B G' H' σ I (s.trans s')
 |rt d fr β=>exact λB G' H' σ env v I s'=>h B G' H' σ env v I (s.trans s')
 |exc c=>exact h
 |bad=>exact h
def bG:Ep X Γ E [] jT:=sV.post zk λN σ H ⟨env,G,B,β,I,o⟩=>o B G H σ I (ay.refl _)
theorem ao (h:SS X Γ E st m)(h':Ep X Γ E sts m'):Ep X Γ E (st :: sts) (aH m m'):=by
 refine sV.post (iL h h') λN σ H ⟨env,G,B,β,I,o⟩=>?_
 refine⟨env,G,B,β,I,?_⟩
 unfold aH at o
 cases q:m env β with
 |nx env' β'=>rw[q] at o;exact λB' G' H' σ' I' s'=>⟨env',G',B',β',I',o.weak s'⟩
 |bk env' β'=>rw[q] at o;exact o
 |ct env' β'=>rw[q] at o;exact o
 |rt d fr β'=>rw[q] at o;exact o
 |exc c=>rw[q] at o;exact o
 |bad=>rw[q] at o;exact o
def av (h:SS X Γ E st m):Ep X Γ E [st] m:=jl h
def toS {α:Type}(r:R α)(k:α->Int->SO):SO:=match r with
 | .ok x β=>k x β
 | .exc c=>.exc c
 | .bad=>.bad
theorem dh {α:Type}{G:Hp}{N:Ends}{r:R α}{k:α->Int->SO}{P:α->Int->Prop}(h:rn Γ E G N (toS r k))(i:∀x β,rn Γ E G N (k x β)->P x β):Out Γ E r P:=by
 cases r with
 |ok x β=>exact i x β h
 |exc c=>exact h
 |bad=>exact h
def SR.set' (I:SR Γ B G H σ env β)(i:Nat)(h:Rp Γ.K G v d):SR Γ B G H (σ.set i (some v)) (env.set i (.fz d)) β:=by
 by_cases hi:i < env.length
 ·exact I.set hi h
 ·have h1:env.set i (.fz d)=env:=P7 (by omega)
  have h2:σ.set i (some v)=σ:=P7 (by rw[I.len];omega)
  rw[h1,h2];exact I
def SR.setOw' (I:SR Γ B G H σ env β)(i:Nat){a:Addr}(h0:Γ.H0 a=none)(hg:G a=none)(hb:B≠some a)(h:Own Γ.K G H a d)(hn:∀(j:Nat) (d':D),env[j]? =some (.ow d')->σ[j]?≠some (some (.ref a))):SR Γ B G H (σ.set i (some (.ref a))) (env.set i (.ow d)) β:=by
 by_cases hi:i < env.length
 ·exact I.setOw hi h0 hg hb h λj d' e _=>hn j d' e
 ·have h1:env.set i (.ow d)=env:=P7 (by omega)
  have h2:σ.set i (some (.ref a))=σ:=P7 (by rw[I.len];omega)
  rw[h1,h2];exact I
def bS (i:Nat)(L:List Nat)(f:VF D):SF:=λenv β=>toS (f (vl env) β) λd β'=>.nx ((bp L env).set i (.fz d)) β'
def bA {i:Nat}{x:Str}{pos':Pos}(he:SE X Γ E e f L .v)(hN:X.N.Nodup)(hi:X.N[i]? =some x:=by rfl)(hx:Loc X.env.scope x:=by first |exact Or.inl rfl |exact Or.inr rfl)(hs:swapsWith e (some (.Name x pos')) pos.line X.env=pure false:=by rfl)(hf:X.fn x=true\/X.env.scope.names.lookup x=some .local:=by first |exact .inl rfl |exact .inr rfl |assumption) :
  SS X Γ E (.Assign [.Name x pos'] e pos) (bS i L f):=by
 refine PS.post (uL hN hi hx he hs hf) λN σ H ⟨env,G,B,β,I,o⟩=>?_
 refine⟨env,G,B,β,I,dh o λd β' k v G' H' I' s' m' vo=>?_⟩
 exact k B G' H' _ (I'.set' i vo) s'
def jF (i:Nat)(L:List Nat)(f:VF D):SF:=λenv β=>toS (f (vl env) β) λd β'=>.nx ((bp L env).set i (.ow d)) β'
def iA {i:Nat}{x:Str}{pos':Pos}(he:SE X Γ E e f L .w)(hN:X.N.Nodup)(hi:X.N[i]? =some x:=by rfl)(hx:Loc X.env.scope x:=by first |exact Or.inl rfl |exact Or.inr rfl)(hs:swapsWith e (some (.Name x pos')) pos.line X.env=pure false:=by rfl)(hf:X.fn x=true\/X.env.scope.names.lookup x=some .local:=by first |exact .inl rfl |exact .inr rfl |assumption) :
  SS X Γ E (.Assign [.Name x pos'] e pos) (jF i L f):=by
 refine PS.post (uL hN hi hx he hs hf) λN σ H ⟨env,G,B,β,I,o⟩=>?_
 refine⟨env,G,B,β,I,dh o λd β' k v G' H' I' s' m' vo=>?_⟩
 obtain⟨p,rfl,h1,h2,h3⟩:=vo
 obtain⟨q1,q2,q3,q4⟩:=I.fresh h1
 exact k B G' H' _ (I'.setOw' i q1 h2 q3 h3 λj d' z=>q4 j d' (uU z)) s'
def jk (L:List Nat)(f:VF D):SF:=λenv β=>toS (f (vl env) β) λ_ β'=>.nx (bp L env) β'
def gA (he:SE X Γ E e f L md)(hs:swapsWith e none pos.line X.env=pure false:=by rfl):SS X Γ E (.Expr e pos) (jk L f):=by
 refine PS.post (pA he hs) λN σ H ⟨env,G,B,β,I,o⟩=>?_
 exact⟨env,G,B,β,I,dh o λd β' k v G' H' I' s' m' vo=>k B G' H' _ I' s'⟩
def bF (f:VF D):SF:=λenv β=>toS (f (vl env) β) λd β'=>.rt d false β'
def aR (he:SE X Γ E e f L .v):SS X Γ E (.Return (some e) pos) (bF f):=by
 refine PS.post (oA he) λN σ H ⟨env,G,B,β,I,o⟩=>?_
 exact⟨env,G,B,β,I,dh o λd β' k v G' H' I' s' m' vo=>k B G' H' σ _ v I' s' vo⟩
def lI (f:VF D):SF:=λenv β=>toS (f (vl env) β) λd β'=>.rt d true β'
def kh (he:SE X Γ E e f L .w):SS X Γ E (.Return (some e) pos) (lI f):=by
 refine PS.post (oA he) λN σ H ⟨env,G,B,β,I,o⟩=>?_
 refine⟨env,G,B,β,I,dh o λd β' k v G' H' I' s' m' vo=>?_⟩
 obtain⟨p,rfl,h1,h2,h3⟩:=vo
 obtain⟨q1,_⟩:=I.fresh h1
 exact k B G' H' σ _ _ I' s' ⟨p,rfl,q1,h2,h3⟩
def jP (i:Nat):SF:=λenv β=>match env[i]? with
 |some (.fz d)=>.rt d false β
 |some (.ow d)=>.rt d true β
 |_=>.bad
theorem km (i:Nat){p:Pos}(hN:X.N[i]? =some x:=by rfl)(hv:AL X.env.scope x:=by first |exact Or.inl rfl |exact Or.inr (Or.inl rfl) |exact Or.inr (Or.inr rfl))(hd:(x == ("__debug__":Str))=false:=by decide)
  (hcd:(x == ("__classdict__":Str))=false:=by decide):SS X Γ E (.Return (some (.Name x p)) pos) (jP i):=by
 refine PS.post (oA (ju hN hv hd hcd)) λN σ H ⟨env,G,B,β,I,o⟩=>?_
 unfold jP at o
 cases q:env[i]? with
 |none=>rw[q] at o;exact o.elim
 |some s=>
  rw[q] at o
  cases s with
  |no=>exact o.elim
  |bx=>exact o.elim
  |br d=>exact o.elim
  |fz d=>
   obtain⟨v,h1,h2⟩:=I.slot i _ q
   exact⟨v,h1,o B G H σ env v I (ay.refl _) h2⟩
  |ow d=>
   obtain⟨p,h1,h2,h3,h4,h5⟩:=I.slot i _ q
   exact⟨_,h1,o B G H σ env _ I (ay.refl _) ⟨p,rfl,h2,h3,h5⟩⟩
def i9 (L:List Nat)(t:VF Bool)(m m':SF):SF:=λenv β=>toS (t (vl env) β) λc β'=>if c=true then m (bp L env) β' else m' (bp L env) β'
theorem cf {x y:List Stmt}(hc:AZ X Γ E c ta L)(ha:Ep X Γ E x m)(hb:Ep X Γ E y m'):SS X Γ E (.If c x y pos) (i9 L ta m m'):=by
 refine PS.post (G8 hc ha hb) λN σ H ⟨env,G,B,β,I,o⟩=>?_
 refine⟨env,G,B,β,I,dh o λd β' k G' H' I' s' m'=>?_⟩
 cases d with
 |true=>exact wc ⟨_,G',B,β',I',rn.weak k s'⟩
 |false=>exact wC ⟨_,G',B,β',I',rn.weak k s'⟩
def i4 (L:List Nat)(t:VF Bool)(m:SF):Nat->SF
 | 0=>λ_ _=>.bad
 |n + 1=>λenv β=>toS (t (vl env) β) λc β'=>if c=true then (match m (bp L env) β' with
   | .nx env2 β2=>i4 L t m n env2 β2
   | .ct env2 β2=>i4 L t m n env2 β2
   | .bk env2 β2=>.nx env2 β2
   |r=>r) else .nx (bp L env) β'
theorem nh {x:List Stmt}(n:Nat)(hp:PassesOwn (model X.prog X.w) X.A X.env X.xe)(hc:AZ X Γ E c ta L)(hb:Ep X Γ E x m):SS X Γ E (.While c x [] pos) (i4 L ta m n):=by
 refine PS.post (DP hp hc hb) λN σ H ⟨env,G,B,β,I,o⟩=>?_
 refine⟨λk σ H=>∃env G1 B β,SR Γ B G1 H σ env β/\ay G G1/\rn Γ E G1 N (i4 L ta m k env β),⟨n,env,G,B,β,I,ay.refl _,o⟩,?_⟩
 rintro k σ H ⟨env,G1,B,β,I,sG,o⟩
 cases k with
 |zero=>exact o.elim
 |succ k=>
  refine⟨env,G1,B,β,I,dh o λd β' q G' H' I' s' m'=>?_⟩
  cases d with
  |false=>exact wC (q B G' H' σ I' s')
  |true=>
   refine wc ⟨λσ H=>∃env G1 B β,SR Γ B G1 H σ env β/\ay G G1/\rn Γ E G1 N (i4 L ta m k env β),λσ' H' h=>⟨k,Nat.lt_succ_self k,h⟩,bp L env,G',B,β',I',?_⟩
   rw[N1 rfl] at q
   cases r:m (bp L env) β' with
   |nx env2 β2=>rw[r] at q;exact λB2 G2 H2 σ2 I2 s2=>⟨env2,G2,B2,β2,I2,(sG.trans s').trans s2,rn.weak q (s'.trans s2)⟩
   |ct env2 β2=>rw[r] at q;exact λB2 G2 H2 σ2 I2 s2=>⟨env2,G2,B2,β2,I2,(sG.trans s').trans s2,rn.weak q (s'.trans s2)⟩
   |bk env2 β2=>rw[r] at q;exact λB2 G2 H2 σ2 I2 s2=>q B2 G2 H2 σ2 I2 (s'.trans s2)
   |rt d fr β2=>rw[r] at q;exact rn.weak q s'
   |exc c=>rw[r] at q;exact q
   |bad=>rw[r] at q;exact q
def Walk (K:Frag)(B:Option Addr)(G H1:Hp)(ds:List D)(J:It):Prop:=∀Gc H (i:Nat),ay G Gc->ay Gc H->i8 B H1 H->
 (i < ds.length->J.go i H/\∀x H',J.yld i H x H'->∃G' d,Ext Gc H G' H'/\ds[i]? =some d/\Rp K G' x d)/\(ds.length<=i->J.stop i H)
def Walk.any {K:Frag}{B:Option Addr}{G H1:Hp}{ds:List D}{J:It}(h:Walk K B G (λ_=>none) ds J):Walk K B G H1 ds J:=λGc H i s1 s2 _=>h Gc H i s1 s2 ⟨(λb o e=>by cases e),λb o u e=>by cases e⟩
def iT (Γ:Fx)(E:XK)(f:VF (List D))(L:List Nat)(md:Md):TI:=λσ H Rr=>∃env G B β,SR Γ B G H σ env β/\
 Out Γ E (f (vl env) β) λds β'=>∀J G' H',SR Γ B G' H' σ (bp L env) β'->ay G G'->i8 B H H'->Walk Γ.K B G' (match md with | .b=>H' |_=>λ_=>none) ds J->Rr J H'
def SI (X:Cx)(Γ:Fx)(E:XK)(tg e:Expr)(f:VF (List D))(L:List Nat)(md:Md):Prop:=PI X tg e (iT Γ E f L md)
def PI.post {X:Cx}{tg e:Expr}(h:PI X tg e t)(m:∀σ H Q,u σ H Q->t σ H Q):PI X tg e u:=λpins s σ H Q I q=>h pins s σ H Q I (m σ H Q q)
variable {tg:Expr}
def hG:D->Option (List D)
 | .list ds=>some ds
 | .tuple ds=>some ds
 |_=>none
def bq (fa:VF D):VF (List D):=λvs β=>(fa vs β).bnd λx β1=>R.of (hG x) β1
end
def NR (K:Frag)(tl:TE):TI:=λσ H R=>tl σ H λx H1=>∃a xs,x=.ref a/\((gf K H1 a xs/\R (AQ K a) H1)\/(fO K H1 a xs/\R (GL K a) H1))
section
variable {X:Cx}{tg l:Expr}{tl:TE}
def GZ (hl:PE X l tl):PI X tg l (NR X.K tl):=by
 intro pins s σ H R I h
 refine cR (hl pins s σ H _ I h) λv s1 ⟨x,H1,I1,r1,q1⟩=>?_
 obtain⟨a,xs,e,q⟩:=q1
 subst e
 cases r1
 rcases q with⟨hq,q⟩ | ⟨hq,q⟩
 ·obtain⟨its,rv,p,hz⟩:=I1.list hq
  refine QE p.isList ?_
  refine⟨s1.heap.objs.size,[s1.heap.objs.size],_,_,H1,rfl,I1.kept (t':=s1.toks) λb o e=>NY _ e,nR a _,⟨_,Od _ rfl,rfl,rfl⟩,λb hb=>?_,q⟩
  have e:b=s1.heap.objs.size:=by simpa using hb
  subst e
  exact I1.fpOk (N4 _) (I1.hok.fresh (N4 _))
 ·obtain⟨its,rv,p,hz⟩:=I1.tuple hq
  refine QA (show s1.heap.IsTuple a its.toArray from p) ?_
  refine⟨s1.heap.objs.size,[s1.heap.objs.size],_,_,H1,rfl,I1.kept (t':=s1.toks) λb o e=>NY _ e,qS a _,⟨_,Od _ rfl,rfl,rfl⟩,λb hb=>?_,q⟩
  have e:b=s1.heap.objs.size:=by simpa using hb
  subst e
  exact I1.fpOk (N4 _) (I1.hok.fresh (N4 _))
end
section
variable {X:Cx}{Γ:Fx}{E:XK}{e a b c:Expr}{f fa fb:VF D}{L La Lb:List Nat}{md ma mb:Md}{pos:Pos}{st:Stmt}{sts:List Stmt}{m m':SF}{ta:VF Bool}{tg:Expr}
def oi {K:Frag}{B:Option Addr}{G H1:Hp}{p:Addr}{xs:List V}{ds:List D}(h:∀Gc H,ay G Gc->ay Gc H->i8 B H1 H->gf K H p xs)(r:cg K G xs ds):Walk K B G H1 ds (AQ K p):=λGc H i s1 s2 m=>by
 have hq:=h Gc H s1 s2 m
 refine⟨λhi=>⟨?_,λx H' y=>?_⟩,λhi=>⟨xs,hq,by rw[r.len];exact hi⟩⟩
 ·have hi':i < xs.length:=by rw[r.len];exact hi
  exact⟨xs,xs[i],hq,by simp[hi']⟩
 ·obtain⟨rfl,y⟩:=y
  obtain⟨d,e,q⟩:=r.at' (y xs hq)
  exact⟨Gc,d,Ext.refl s2,e,q.mono s1⟩
def vm {K:Frag}{B:Option Addr}{G H1:Hp}{p:Addr}{xs:List V}{ds:List D}(h:∀Gc H,ay G Gc->ay Gc H->i8 B H1 H->fO K H p xs)(r:cg K G xs ds):Walk K B G H1 ds (GL K p):=λGc H i s1 s2 m=>by
 have hq:=h Gc H s1 s2 m
 refine⟨λhi=>⟨?_,λx H' y=>?_⟩,λhi=>⟨xs,hq,by rw[r.len];exact hi⟩⟩
 ·have hi':i < xs.length:=by rw[r.len];exact hi
  exact⟨xs,xs[i],hq,by simp[hi']⟩
 ·obtain⟨rfl,y⟩:=y
  obtain⟨d,e,q⟩:=r.at' (y xs hq)
  exact⟨Gc,d,Ext.refl s2,e,q.mono s1⟩
theorem wL (hK:X.K=Γ.K)(ha:SE X Γ E a fa La .v):SI X Γ E tg a (bq fa) La .v:=by
 refine PI.post (GZ ha) λσ H Q ⟨env,G,B,β,I,o⟩=>?_
 refine⟨env,G,B,β,I,o.bnd.imp λd1 β1 h x G1 H1 I1 s1 m1 vx=>?_⟩
 obtain⟨ds,e,k⟩:=h.of
 rw[hK]
 have vx:Rp Γ.K G1 x d1:=vx
 cases d1 with
 |list l=>
  cases e
  cases vx with
  | @lst p xs _ hq r=>exact⟨p,xs,rfl,.inl ⟨.inl (Rd.mono (.inl hq) I1.sub),k _ G1 H1 I1 s1 m1 (oi (λGc H t1 t2 _=>.inl (Rd.mono (.inl hq) (t1.trans t2))) r)⟩⟩
 |tuple l=>
  cases e
  cases vx with
  | @tup p xs _ hq r=>exact⟨p,xs,rfl,.inr ⟨hq.grow I1.sub.grow,k _ G1 H1 I1 s1 m1 (vm (λGc H t1 t2 _=>hq.grow (t1.trans t2).grow) r)⟩⟩
 |_=>cases e
theorem jv (hK:X.K=Γ.K)(ha:SE X Γ E a fa La ma):SI X Γ E tg a (bq fa) La .b:=by
 refine PI.post (GZ ha) λσ H Q ⟨env,G,B,β,I,o⟩=>?_
 refine⟨env,G,B,β,I,o.bnd.imp λd1 β1 h x G1 H1 I1 s1 m1 vx=>?_⟩
 obtain⟨ds,e,k⟩:=h.of
 rw[hK]
 have vx:=vx.brw I.boxThere
 cases d1 with
 |list l=>
  cases e
  rcases vx with vx | ⟨p,rfl,hb,xs,q,r⟩
  ·cases vx with
   | @lst p xs _ hq r=>exact⟨p,xs,rfl,.inl ⟨.inl (Rd.mono (.inl hq) I1.sub),k _ G1 H1 I1 s1 m1 (oi (λGc H t1 t2 _=>.inl (Rd.mono (.inl hq) (t1.trans t2))) r)⟩⟩
  ·exact⟨p,xs,rfl,.inl ⟨.inl (.inl q),k _ G1 H1 I1 s1 m1 (oi (λGc H t1 t2 mv=>.inl (.inl (mv.1 p _ q hb))) r)⟩⟩
 |tuple l=>
  cases e
  rcases vx with vx | ⟨p,rfl,hb,q⟩
  ·cases vx with
   | @tup p xs _ hq r=>exact⟨p,xs,rfl,.inr ⟨hq.grow I1.sub.grow,k _ G1 H1 I1 s1 m1 (vm (λGc H t1 t2 _=>hq.grow (t1.trans t2).grow) r)⟩⟩
  ·exact q.elim
 |_=>cases e
def cU (lo:Int)(n:Nat):List D:=(List.range n).map λ(k:Nat)=>int (lo + k)
def sS (lo:Int)(n:Nat):(cU lo n).length=n:=by unfold cU;simp
def w9 {K:Frag}{B:Option Addr}{G H1:Hp}(lo:Int)(n:Nat):Walk K B G H1 (cU lo n) (AX lo n):=λGc H i s1 s2 m=>by
 rw[sS]
 refine⟨λhi=>⟨hi,λx H' y=>?_⟩,λhi=>hi⟩
 obtain⟨rfl,rfl⟩:=y
 refine⟨Gc,.int (lo + i),Ext.refl s2,?_,.int _⟩
 unfold cU
 rw[Oa,Qf hi];rfl
def BP (j:Int):Bool:=Nat.ble j.natAbs 1000000
def oo (h:BP j=true): -(2 ^ 62)<=j/\j < 2 ^ 62:=by
 have:=Nat.le_of_ble_eq_true h
 omega
def n6 (h: -1000<=j)(h2:j<=10000):BP j=true:=Nat.ble_eq_true_of_le (by omega)
def i6 (fa:VF D):VF (List D):=λvs β=>(fa vs β).bnd λx β1=>match x with
 | .int j=>if BP j=true then .ok (cU 0 j.toNat) β1 else .bad
 |_=>.bad
def oF (fa fb:VF D):VF (List D):=λvs β=>(fa vs β).bnd λx β1=>(fb vs β1).bnd λy β2=>match x,y with
 | .int i,.int j=>if (BP i && BP j)=true then .ok (cU i (j - i).toNat) β2 else .bad
 |_,_=>.bad
theorem sH {p:Pos}(hg:Gl X "range")(hm:X.mg "range"=none)(ha:SE X Γ E a fa La ma)(hs:starEach [a] X.env= [(false,eval a X.env)]:=by rfl)(hs':starEach [a] X.env=(false,eval a X.env) :: starEach [] X.env:=by rfl):SI X Γ E tg (.Call (.Name "range" p) [a] [] pos) (i6 fa) La md:=by
 refine PI.post (lN hg hm (aN ha bu hs') hs) λσ H Q ⟨env,G,B,β,I,o⟩=>?_
 refine⟨env,G,B,β,I,o.bnd.imp λd1 β1 h x G1 H1 I1 s1 m1 vx=>?_⟩
 have vx:=vx.brw I.boxThere
 cases d1 with
 |int j=>
  obtain rfl:=vx.int
  dsimp only at h
  by_cases hj:BP j=true
  ·rw[N1 hj] at h
   exact⟨j,rfl,(oo hj).1,(oo hj).2,h _ G1 H1 I1 s1 m1 (w9 0 _)⟩
  ·rw[N8 hj] at h;exact h.elim
 |_=>exact h.elim
def Hl {p:Pos}(hg:Gl X "range")(hm:X.mg "range"=none)(ha:SE X Γ E a fa La ma)(hb:SE X Γ E b fb Lb mb)(hs:starEach [a,b] X.env= [(false,eval a X.env),(false,eval b X.env)]:=by rfl)(hs2:starEach [b] X.env= [(false,eval b X.env)]:=by rfl)(hs':starEach [a,b] X.env=(false,eval a X.env) :: starEach [b] X.env:=by rfl)(hs3:starEach [b] X.env=(false,eval b X.env) :: starEach [] X.env:=by rfl):SI X Γ E tg (.Call (.Name "range" p) [a,b] [] pos) (oF fa fb) (La ++ Lb) md:=by
 refine PI.post (AA hg hm (aN ha (aN hb bu hs3) hs') hs hs2) λσ H Q ⟨env,G,B,β,I,o⟩=>?_
 refine two (W:=λx y H2=>∃i j:Int,[x,y]= [.int i,.int j]/\(-(2 ^ 62)<=i/\i < 2 ^ 62/\ -(2 ^ 62)<=j/\j < 2 ^ 62)/\Q (AX i (j - i).toNat) H2) I (o.bnd.imp λd1 β1 h=>h.bnd.imp λd2 β2 h x y G2 H2 I2 s2 m2 bx by'=>?_)
 obtain⟨i,j,rfl,rfl⟩:∃i j,d1=.int i/\d2=.int j:=by
  cases d1 <;> cases d2 <;> first |exact h.elim |exact⟨_,_,rfl,rfl⟩
 obtain rfl:=bx.int
 obtain rfl:=by'.int
 dsimp only at h
 by_cases hj:(BP i && BP j)=true
 ·rw[N1 hj] at h
  rw[Om] at hj
  exact⟨i,j,rfl,⟨(oo hj.1).1,(oo hj.1).2,(oo hj.2).1,(oo hj.2).2⟩,h _ G2 H2 I2 s2 m2 (w9 i _)⟩
 ·rw[N8 hj] at h;exact h.elim
inductive Tg where
 |nm (i:Nat)
 |two (i j:Nat)
def pairD:D->Option (D×D)
 | .tuple [x,y]=>some (x,y)
 |_=>none
def DI (h:pairD d=some (x,y)):d=.tuple [x,y]:=by
 unfold pairD at h
 split at h
 ·cases h;rfl
 ·cases h
def fQ:Tg->D->En->Option En
 | .nm i,d,env=>some (env.set i (.fz d))
 | .two i j,d,env=>(pairD d).map λp=>(env.set i (.fz p.1)).set j (.fz p.2)
def oJ:Tg->D->List Nv->Option (List Nv)
 | .nm i,d,vs=>some (vs.set i (.da d))
 | .two i j,d,vs=>(pairD d).map λp=>(vs.set i (.da p.1)).set j (.da p.2)
def yp (env:En)(i:Nat)(s:Sl):vl (env.set i s)=(vl env).set i s.val:=by unfold vl;rw[List.map_set]
theorem Fy (t:Tg)(d:D)(env:En):(fQ t d env).map vl=oJ t d (vl env):=by
 cases t with
 |nm i=>show some (vl _)=some _;rw[yp];rfl
 |two i j=>
  show ((pairD d).map _).map vl=(pairD d).map _
  cases pairD d with
  |none=>rfl
  |some p=>show some (vl _)=some _;rw[yp,yp];rfl
def gT (Γ:Fx)(t:Tg):TG:=λv σ H Q=>∃env G B β d env',SR Γ B G H σ env β/\Rp Γ.K G v d/\fQ t d env=some env'/\∀σ',SR Γ B G H σ' env' β->Q σ' H
def SG (X:Cx)(Γ:Fx)(tg:Expr)(t:Tg):Prop:=PG X tg (gT Γ t)
def PG.post {X:Cx}{tg:Expr}(h:PG X tg t)(m:∀v σ H Q,u v σ H Q->t v σ H Q):PG X tg u:=λpins s σ H v uu Q I r q=>h pins s σ H v uu Q I r (m v σ H Q q)
def cC (hN:X.N.Nodup)(hi:X.N[i]? =some x:=by rfl)(hx:Loc X.env.scope x:=by first |exact Or.inl rfl |exact Or.inr rfl)(hf:X.fn x=true\/X.env.scope.names.lookup x=some .local:=by first |exact .inl rfl |exact .inr rfl |assumption):SG X Γ (.Name x pos) (.nm i):=by
 refine PG.post (di hN hi hx hf) λv σ H Q ⟨env,G,B,β,d,env',I,r,e,k⟩=>?_
 cases e
 exact k _ (I.set' i r)
theorem fW {i j:Nat}{x y:Str}{px py:Pos}{n:Nat}(hN:X.N.Nodup)(hc:X.calm=true:=by rfl)(hK:X.K=Γ.K:=by rfl)(hi:X.N[i]? =some x:=by rfl)(hj:X.N[j]? =some y:=by rfl)(hx:Loc X.env.scope x:=by first |exact Or.inl rfl |exact Or.inr rfl)(hy:Loc X.env.scope y:=by first |exact Or.inl rfl |exact Or.inr rfl)
  (hf:X.fn x=true\/X.env.scope.names.lookup x=some .local:=by first |exact .inl rfl |exact .inr rfl |assumption) (hf':X.fn y=true\/X.env.scope.names.lookup y=some .local:=by first |exact .inl rfl |exact .inr rfl |assumption):SG X Γ (.Tuple [.Name x px,.Name y py] n pos) (.two i j):=by
 refine PG.post (rh (n:=2) hc (dY (di hN hi hx hf) (dY (di hN hj hy hf') nr))) λv σ H Q ⟨env,G,B,β,d,env',I,r,e,k⟩=>?_
 rw[hK]
 have e:(pairD d).map (λp=>(env.set i (.fz p.1)).set j (.fz p.2))=some env':=e
 cases q:pairD d with
 |none=>rw[q] at e;cases e
 |some p=>
  obtain⟨dx,dy⟩:=p
  rw[q] at e
  cases e
  obtain rfl:=DI q
  cases r with
  | @tup p xs _ hq r=>
   cases r with
   |cons r1 r=>
    cases r with
    |cons r2 r=>
     cases r
     exact⟨p,_,rfl,hq.grow I.sub.grow,rfl,_,_,rfl,_,_,rfl,rfl,k _ ((I.set' i r1).set' j r2)⟩
def ja (t:Tg)(m:SF):List D->SF
 | []=>λenv β=>.nx env β
 |d :: ds=>λenv β=>match fQ t d env with
  |none=>.bad
  |some env1=>match m env1 β with
   | .nx env2 β2=>ja t m ds env2 β2
   | .ct env2 β2=>ja t m ds env2 β2
   | .bk env2 β2=>.nx env2 β2
   |r=>r
def cM (t:Tg)(L:List Nat)(fi:VF (List D))(m:SF):SF:=λenv β=>toS (fi (vl env) β) λds β'=>ja t m ds (bp L env) β'
def dz (hp:PassesOwn (model X.prog X.w) X.A X.env X.xe)(hc:X.calm=true)(hi:SI X Γ E tg e fi L .v)(hg:SG X Γ tg t)(hb:Ep X Γ E x m)(hs:∀x,foldedSetIterable e X.env x=pure x:=by intro _;rfl):SS X Γ E (.For tg e x [] pos) (cM t L fi m):=by
 refine PS.post (tZ hp hc hi hg hb hs) λN σ H ⟨env,G,B,β,I,o⟩=>?_
 refine⟨env,G,B,β,I,dh o λds β' q J G' H' I' s' m' w=>?_⟩
 have w:Walk Γ.K B G' (λ_=>none) ds J:=w
 refine⟨λi n σ H=>n=ds.length - i/\i<=ds.length/\∃env G1 B β,SR Γ B G1 H σ env β/\ay G' G1/\rn Γ E G1 N (ja t m (ds.drop i) env β),⟨ds.length,by simp,OJ _,bp L env,G',B,β',I',ay.refl _,by rw[List.drop_zero];exact rn.weak q s'⟩,?_⟩
 rintro i n σ H ⟨rfl,hi,env,G1,B1,β1,I1,s1,q⟩
 obtain⟨w1,w2⟩:=w G1 H i s1 I1.sub ⟨(λb o e=>by cases e),λb o u e=>by cases e⟩
 by_cases hlt:i < ds.length
 ·obtain⟨go,yl⟩:=w1 hlt
  refine .inr ⟨go,λσ H=>∃env G2 B β,SR Γ B G2 H σ env β/\ay G' G2/\rn Γ E G2 N (ja t m (ds.drop (i + 1)) env β),λσ2 H2 h=>⟨ds.length - (i + 1),by omega,rfl,hlt,h⟩,λx H2 y=>?_⟩
  obtain⟨G2,d,x2,ed,rd⟩:=yl x H2 y
  have I2:=I1.ext x2
  have q:=rn.weak q x2.gg
  rw[List.drop_eq_getElem_cons hlt] at q
  have ed':ds[i]=d:=by rw[NW hlt] at ed;exact Option.some.inj ed
  rw[ed'] at q
  unfold ja at q
  cases eb:fQ t d env with
  |none=>rw[eb] at q;exact q.elim
  |some env1=>
   rw[eb] at q
   refine⟨env,G2,B1,β1,d,env1,I2,rd,eb,λσ3 I3=>⟨env1,G2,B1,β1,I3,?_⟩⟩
   have s2:=s1.trans x2.gg
   dsimp only at q
   cases r:m env1 β1 with
   |nx env2 β2=>rw[r] at q;exact λB2 G3 H3 σ2 I2 s3=>⟨env2,G3,B2,β2,I2,s2.trans s3,rn.weak q s3⟩
   |ct env2 β2=>rw[r] at q;exact λB2 G3 H3 σ2 I2 s3=>⟨env2,G3,B2,β2,I2,s2.trans s3,rn.weak q s3⟩
   |bk env2 β2=>rw[r] at q;exact λB2 G3 H3 σ2 I2 s3=>q B2 G3 H3 σ2 I2 s3
   |rt d fr β2=>rw[r] at q;exact q
   |exc c=>rw[r] at q;exact q
   |bad=>rw[r] at q;exact q
 ·have e:i=ds.length:=by omega
  subst e
  rw[List.drop_length] at q
  exact .inl ⟨w2 (N4 _),q B1 G1 H σ I1 (ay.refl _)⟩
end
abbrev Fx.jE (Γ:Fx)(H0 G0:Hp)(par:List Addr)(br:Nat->Bool)(bx:Option Addr):Fx:=⟨Γ.K,H0,G0,par,Γ.ca,br,bx⟩
def hU (own:Nat)(ixs:List Nat)(vs:List Nv):List Nv:=List.replicate own .no ++ ixs.map λi=>(vs[i]?).getD .no
def Kl:Option Sl->Sl
 |some (.ow d)=>.br d
 |some s=>s
 |none=>.no
def benv (own:Nat)(ixs:List Nat)(env:En):En:=List.replicate own .no ++ ixs.map λi=>Kl env[i]?
theorem FO (o:Option Sl):(Kl o).val=(o.map Sl.val).getD .no:=by
 cases o with
 |none=>rfl
 |some s=>cases s <;> rfl
def Gb (own:Nat)(ixs:List Nat)(env:En):vl (benv own ixs env)=hU own ixs (vl env):=by
 unfold vl benv hU
 rw[OA,List.map_replicate,O1]
 congr 1
 refine Pf λi _=>?_
 show (Kl env[i]?).val=_
 rw[FO,Oa]
def yV (env:En):Prop:=∀(i:Nat) (d:D),env[i]?≠some (.ow d)
theorem wt {env:En}(h:yV env)(L:List Nat):bp L env=env:=by
 unfold bp
 induction L with
 |nil=>rfl
 |cons i L ih=>
  rw[QS]
  have:jL env i=env:=by
   unfold jL
   split
   ·rename_i d e;exact absurd e (h i d)
   ·rfl
  rw[this];exact ih
def tJ (own:Nat)(ixs:List Nat)(env:En):yV (benv own ixs env):=λi d e=>by
 unfold benv at e
 have hm:=Ob e
 rcases Of.mp hm with h |h
 ·have:=Q7 h;cases this
 ·obtain⟨k,_,hk⟩:=N7.mp h
  cases q:env[k]? with
  |none=>rw[q] at hk;cases hk
  |some s=>rw[q] at hk;cases s <;> cases hk
def pS {env:En}(h:yV env)(i:Nat)(d:D):yV (env.set i (.fz d)):=λj d' e=>by
 by_cases z:i=j
 ·subst z
  by_cases hi:i < env.length
  ·rw[Oy hi] at e;cases e
  ·rw[P7 (by omega)] at e;exact h _ _ e
 ·rw[Ou z] at e;exact h _ _ e
theorem Be {env env1:En}{t:Tg}(h:yV env)(e:fQ t d env=some env1):yV env1:=by
 cases t with
 |nm i=>cases e;exact pS h i d
 |two i j=>
  have e:(pairD d).map _=some env1:=e
  cases q:pairD d with
  |none=>rw[q] at e;cases e
  |some p=>rw[q] at e;cases e;exact pS (pS h _ _) _ _
theorem BH {env env1:En}{t:Tg}(e:fQ t d env=some env1)(d':D):fQ t d' env1=fQ t d' env:=by
 cases t with
 |nm i=>cases e;show some _=some _;rw[set_set]
 |two i j=>
  have e:(pairD d).map _=some env1:=e
  cases q:pairD d with
  |none=>rw[q] at e;cases e
  |some p=>
   rw[q] at e;cases e
   show (pairD d').map _=(pairD d').map _
   cases pairD d' with
   |none=>rfl
   |some p'=>
    show some _=some _
    congr 1
    dsimp only
    by_cases z:i=j
    ·subst z;simp[set_set]
    ·rw[List.set_comm _ _ (Ne.symm z),set_set,set_set]
def Ext.mov {G H G' H':Hp}(x:Ext G H G' H')(B:Option Addr):i8 B H H':=x.hh.mov B
section
variable {Γ:Fx}{B:Option Addr}{G H G1 H1 Gc Hc:Hp}{σ σ':St}{env envb:En}{β β':Int}{own:Nat}{ixs:List Nat}{Da:Addr}{acc:List V}
def yI (envb:En):Nat->Bool:=λj=>match envb[j]? with
 |some (.br _)=>true
 |_=>false
def SR.block (I:SR Γ B G H σ env β)(own:Nat)(ixs:List Nat)(hD:H Da=none):SR (Γ.jE (upd H Da (.lst [])) G (Da :: B.toList) (yI (benv own ixs env)) B) B G (upd H Da (.lst [])) (dS own ixs σ) (benv own ixs env) β:=by
 obtain⟨q1,q2,q3,q4⟩:=I.fresh hD
 have nB:∀b,B=some b->b≠Da:=λb e z=>q3 (by rw[<-z];exact e)
 refine⟨I.sub.trans (ay.new hD),ay.refl _,λb _ h=>h,λb o h _=>Kt.of h,λb hb=>?_,λb e=>e,λb e=>?_,?_,λi s e=>?_,λi j c d d' e=>absurd e (tJ own ixs env i d)⟩
 ·rcases NX.mp hb with z |z
  ·subst z;exact Mx.lst aA
  ·have z':B=some b:=by simpa using z
   exact Mx.lst (by rw[aC (nB b z')];exact (I.box b z').1)
 ·obtain⟨h1,h2,_⟩:=I.box b e
  exact⟨by rw[aC (nB b e)];exact h1,h2,.inl (N5 _ (by simpa using e))⟩
 ·unfold dS benv;simp
 ·by_cases hi:i < own
  ·unfold benv at e
   rw[OU (by simpa using hi),PL,N1 hi] at e
   cases e;trivial
  ·have e0:=e
   unfold benv at e
   rw[OK (by simpa using hi),Ql,Oa] at e
   cases ek:ixs[i - own]? with
   |none=>rw[ek] at e;cases e
   |some k=>
    rw[ek] at e
    have e:Kl env[k]? =s:=Option.some.inj e
    have es:(dS own ixs σ)[i]? =some ((σ[k]?).join):=by
     unfold dS
     rw[OK (by simpa using hi),Ql,Oa,ek];rfl
    rw[es]
    cases q:env[k]? with
    |none=>rw[q] at e;subst e;trivial
    |some t=>
     rw[q] at e
     have w:=I.slot k t q
     cases t with
     |no=>subst e;trivial
     |fz d=>subst e;obtain⟨v,h1,h2⟩:=w;exact⟨v,by rw[h1];rfl,h2⟩
     |bx=>subst e;obtain⟨a,h1,h2⟩:=w;exact⟨a,by rw[h1];rfl,h2⟩
     |ow d=>
      subst e
      obtain⟨a,h1,h2,h3,h4,h5⟩:=w
      obtain⟨o,ho⟩:=h5.obj
      have aD:a≠Da:=aK ho hD
      refine⟨by show yI _ i=true;unfold yI;rw[e0];rfl,a,by rw[h1];rfl,h4,?_,h5.mono (ay.refl _) λo q=>Kt.of (by rw[aC aD];exact q)⟩
      intro hm
      rcases NX.mp hm with z |z
      ·exact aD z
      ·exact h4 (by simpa using z)
     |br d=>
      subst e
      obtain⟨b1,a,h1,h4,hp,h5⟩:=w
      obtain⟨o,ho⟩:=h5.obj
      have aD:a≠Da:=aK ho hD
      refine⟨by show yI _ i=true;unfold yI;rw[e0];rfl,a,by rw[h1];rfl,h4,?_,h5.mono (ay.refl _) λo q=>Kt.of (by rw[aC aD];exact q)⟩
      intro hm
      rcases NX.mp hm with z |z
      ·exact aD z
      ·exact h4 (by simpa using z)
def SR.unblock (I:SR Γ B G H σ env β){br:Nat->Bool}(hD:H Da=none)(J:SR (Γ.jE (upd H Da (.lst [])) G (Da :: B.toList) br B) B Gc Hc σ' envb β'):SR Γ B Gc Hc σ env β'/\i8 B H Hc/\Gc Da=none:=by
 obtain⟨q1,q2,q3,q4⟩:=I.fresh hD
 have up:∀{b:Addr},Mx H b->Mx (upd H Da (.lst [])) b:=λ{b} h=>h.same λo e=>Kt.of (by rw[aC (aK e hD)];exact e)
 have mv0:∀b o,H b=some o->B≠some b->Kt Hc b o:=λb o e n=>J.keep b o (show upd H Da (.lst []) b=some o by rw[aC (aK e hD)];exact e) λhm=>by
  rcases NX.mp hm with z |z
  ·rw[z,hD] at e;cases e
  ·exact n (by simpa using z)
 have mv:i8 B H Hc:=⟨mv0,λb o u e=>mv0 b _ e λz=>by rw[(I.box b z).1] at e;cases e⟩
 refine⟨⟨J.sub,I.old.trans J.old,λb h1 h2=>J.new b (up (I.thereM h1)) (I.new b h1 h2),λb o h1 h2=>qK (I.keep b o h1 h2) mv λz=>?_,λb hb=>J.thereM (up (I.pin b hb)),I.fix,λb e=>?_,I.len,λi s e=>?_,I.sep⟩,mv,J.new Da (Mx.lst (show upd H Da (.lst []) Da=some (.lst []) from aA)) q2⟩
 ·obtain⟨_,_,h3⟩:=I.box b z
  rcases h3 with h3 |h3
  ·exact h2 h3
  ·rw[h1] at h3;cases h3
 ·obtain⟨j1,j2,_⟩:=J.box b e
  exact⟨j1,j2,(I.box b e).2.2⟩
 ·have w:=I.slot i s e
  cases s with
  |no=>trivial
  |fz d=>obtain⟨v,h1,h2⟩:=w;exact⟨v,h1,h2.mono J.old⟩
  |bx=>exact w
  |ow d=>
   obtain⟨a,h1,h2,h3,h4,h5⟩:=w
   exact⟨a,h1,h2,J.new a (up h5.mx) h3,h4,h5.mono J.old λo q=>mv.1 a o q h4⟩
  |br d=>
   obtain⟨b1,a,h1,h4,hp,h5⟩:=w
   exact⟨b1,a,h1,h4,hp,h5.mono J.old λo q=>mv.1 a o q h4⟩
def SR.updD (J:SR Γ B G H σ env β)(hp:Da∈Γ.par)(h0:Mx Γ.H0 Da)(g0:Γ.G0 Da=none)(hB:B≠some Da):SR Γ B G (upd H Da (.lst ys)) σ env β:=by
 have gD:=J.new Da h0 g0
 have ha:∀x y,H Da≠some (.bp x y):=λx y w=>(J.pin Da hp).2 _ w trivial
 refine⟨λb u q=>k7 (J.sub b u q) (λz=>by rw[z,gD] at q;cases q) ha,J.old,J.new,λb u q n=>k7 (J.keep b u q n) (λz=>n (by rw[z];exact hp)) ha,λb hb=>?_,J.fix,λb e=>?_,J.len,λi s e=>?_,J.sep⟩
 ·by_cases z:b=Da
  ·subst z;exact Mx.lst aA
  ·exact (J.pin b hb).same λo e=>Kt.of (by rw[aC z];exact e)
 ·obtain⟨h1,h2⟩:=J.box b e
  exact⟨by rw[aC (λz=>hB (by rw[<-z];exact e))];exact h1,h2⟩
 ·have w:=J.slot i s e
  cases s with
  |no=>trivial
  |fz d=>exact w
  |bx=>exact w
  |ow d=>
   obtain⟨a,h1,h2,h3,h4,h5⟩:=w
   have aD:a≠Da:=λz=>h0.1 (by rw[<-z];exact h2)
   exact⟨a,h1,h2,h3,h4,h5.mono (ay.refl _) λo q=>Kt.of (by rw[aC aD];exact q)⟩
  |br d=>
   obtain⟨b1,a,h1,h4,hpa,h5⟩:=w
   have aD:a≠Da:=λz=>hpa (by rw[z];exact hp)
   exact⟨b1,a,h1,h4,hpa,h5.mono (ay.refl _) λo q=>Kt.of (by rw[aC aD];exact q)⟩
end
def R.okb {α γ:Type}(r:R α)(k:α->Int->R γ):R γ:=match r with
 | .ok a β=>k a β
 |_=>.bad
def iJ (t:Tg)(ft:VF Bool)(fe:VF D)(vs:List Nv):List D->Int->R (List D)
 | [],β=>.ok [] β
 |d :: ds,β=>match oJ t d vs with
  |none=>.bad
  |some vs1=>(ft vs1 β).okb λc β1=>if c=true then (fe vs1 β1).okb λx β2=>(iJ t ft fe vs ds β2).okb λxs β3=>.ok (x :: xs) β3 else iJ t ft fe vs ds β1
def aP (own:Nat)(ixs:List Nat)(t:Tg)(fi:VF (List D))(ft:VF Bool)(fe:VF D):VF D:=λvs β=>(fi vs β).bnd λds β1=>if ds.length<=sizeLine then (iJ t ft fe (hU own ixs vs) ds β1).okb λxs β2=>.ok (.list xs) β2 else .bad
def kL:VF Bool:=λ_ β=>.ok true β
def G6 (own:Nat)(ixs Lc:List Nat)(j:Nat):Bool:=decide (j < own) || (match ixs[j - own]? with
 |some i=>Lc.contains i
 |none=>false)
theorem FW {α γ:Type}{Γ:Fx}{E:XK}{r:R α}{k:α->Int->R γ}{P:γ->Int->Prop}(h:Out Γ E (r.okb k) P):∃a β,r=.ok a β/\Out Γ E (k a β) P:=by
 cases r with
 |ok a β=>exact⟨a,β,rfl,h⟩
 |exc c=>exact h.elim
 |bad=>exact h.elim
section
variable {X:Cx}{Γ:Fx}{E:XK}{tg iter elt:Expr}{ifs:List Expr}{scope:Scope}{NB:List Str}{own:Nat}{ixs Li Lc Lt Le:List Nat}{t:Tg}{fi:VF (List D)}{ft:VF Bool}{fe:VF D}{pos:Pos}
def cG {X:Cx}{Γ:Fx}{E:XK}:Ec X [] (qT Γ E kL []):=λpins s σ H Q I ⟨env,G,B,β,J,o⟩=>uv pins s σ H Q I (o G H J (ay.refl _) (i8.refl _ _))
def jr {X:Cx}{Γ:Fx}{E:XK}(h:AZ X Γ E c ta L):Ec X [c] (qT Γ E ta L):=zL h
def lF {NB:List Str}{scope:Scope}:Passes (r0 P w) (jE X NB scope C ex s3 H3 pn) E0:=λpins σ H s e s' I h=>by
 obtain⟨_,_,_,_,_,_,_,_,_,q⟩:=h
 exact q.elim
abbrev gU (Γ:Fx)(t:Tg):TG:=λv σ H Q=>∃H0 G0 par br bx,gT (Γ.jE H0 G0 par br bx) t v σ H Q
abbrev tU (Γ:Fx)(own:Nat)(ixs Lc:List Nat)(ft:VF Bool)(Lt:List Nat):TT:=λσ H Q=>∃H0 G0 par br bx,(∀j,G6 own ixs Lc j=true->br j=false)/\qT (Γ.jE H0 G0 par br bx) E0 ft Lt σ H Q
abbrev eU (Γ:Fx)(own:Nat)(ixs Lc:List Nat)(fe:VF D)(Le:List Nat):TE:=λσ H Q=>∃H0 G0 par br bx,(∀j,G6 own ixs Lc j=true->br j=false)/\pT (Γ.jE H0 G0 par br bx) E0 fe Le .v σ H Q
def Hk {σ:St}{H:Hp}{Q:VK}(hLc:∀i,i∈Lc->Γ.br i=false)(h:pT Γ E (aP own ixs t fi ft fe) (Li ++ Lc) .w σ H Q):xQ own ixs (iT Γ E fi Li .b) (gU Γ t) (tU Γ own ixs Lc ft Lt) (eU Γ own ixs Lc fe Le) σ H Q:=by
 obtain⟨env,G,B,β,I,o⟩:=h
 refine⟨env,G,B,β,I,o.bnd.imp λds β1 h J G1 H1 I1 s1 m1 wk Da hD=>?_⟩
 have wk:Walk Γ.K B G1 H1 ds J:=wk
 by_cases hz:ds.length<=sizeLine
 case neg=>rw[N8 hz] at h;exact h.elim
 rw[N1 hz] at h
 obtain⟨xs0,β0,e0,h⟩:=FW h
 have h:∀v G' H',SR Γ B G' H' σ (bp (Li ++ Lc) env) β0->ay G G'->i8 B H H'->VO Γ.K B H G' H' .w (.list xs0) v->Q v H':=h
 obtain⟨G2,I2,s2⟩:=I1.bp Lc hLc
 rw[<-cE] at I2
 obtain⟨q1,q2,q3,q4⟩:=I2.fresh hD
 have Ib0:=I2.block own ixs hD
 generalize hbr:yI (benv own ixs (bp (Li ++ Lc) env))=br at Ib0
 have hbo:∀j,G6 own ixs Lc j=true->br j=false:=by
  intro j hj
  rw[<-hbr]
  unfold yI
  split
  ·rename_i d e
   exfalso
   unfold benv at e
   by_cases hjo:j < own
   ·rw[OU (by simpa using hjo),PL,N1 hjo] at e;cases e
   ·rw[OK (by simpa using hjo),Ql,Oa] at e
    unfold G6 at hj
    rw[Oe hjo,Bool.false_or] at hj
    cases ek:ixs[j - own]? with
    |none=>rw[ek] at hj;cases hj
    |some k=>
     rw[ek] at hj e
     have hk:k∈Lc:=by simpa using hj
     have e:Kl (bp (Li ++ Lc) env)[k]? =.br d:=Option.some.inj e
     cases q:(bp (Li ++ Lc) env)[k]? with
     |none=>rw[q] at e;cases e
     |some s=>
      rw[q] at e
      cases s with
      |no=>cases e
      |fz _=>cases e
      |bx=>cases e
      |br d'=>
       obtain⟨b1,_⟩:=I2.slot k _ q
       rw[hLc k hk] at b1;cases b1
      |ow d'=>
       rw[cE] at q
       have key:∀(M:List Nat) (en:En),k∈M->∀d',(bp M en)[k]?≠some (.ow d'):=by
        intro M
        induction M with
        |nil=>intro en hm;cases hm
        |cons i M ih=>
         intro en hm d' z
         rcases NX.mp hm with y |y
         ·subst y
          have z1:(jL en k)[k]? =some (.ow d'):=uU (L:=M) z
          have z2:=zw z1
          unfold jL at z1
          rw[z2] at z1
          dsimp only at z1
          rw[Oy (N9.mp z2).1] at z1;cases z1
         ·exact ih (jL en i) y d' z
       exact key Lc _ hk d' q
  ·rfl
 have evb:vl (benv own ixs (bp (Li ++ Lc) env))=hU own ixs (vl env):=by rw[Gb,gy]
 refine⟨λi n σ' H'=>n=ds.length - i/\i<=ds.length/\∃envb Gc β' acc accd,SR (Γ.jE (upd H1 Da (.lst [])) G2 (Da :: B.toList) br B) B Gc H' σ' envb β'/\(envb=benv own ixs (bp (Li ++ Lc) env)\/∃d,fQ t d (benv own ixs (bp (Li ++ Lc) env))=some envb)/\
   H' Da=some (.lst acc)/\cg Γ.K Gc acc accd/\accd.length<=i/\∃xs,iJ t ft fe (hU own ixs (vl env)) (ds.drop i) β'=.ok xs β0/\accd ++ xs=xs0,
  ⟨ds.length,by simp,OJ _,_,G2,β1,[],[],Ib0,.inl rfl,aA,.nil,OJ _,xs0,by rw[List.drop_zero];exact e0,rfl⟩,?_⟩
 rintro i n σ' H' ⟨rfl,hi',envb,Gc,β',acc,accd,Ib,eb,hacc,racc,lacc,xs,ec,exs⟩
 obtain⟨Io,mv,gD⟩:=I2.unblock hD Ib
 obtain⟨w1,w2⟩:=wk Gc H' i (s2.trans Ib.old) Ib.sub mv
 by_cases hlt:i < ds.length
 ·obtain⟨go,yl⟩:=w1 hlt
  refine .inr ⟨go,λσ' H'=>∃envb Gc β' acc accd,SR (Γ.jE (upd H1 Da (.lst [])) G2 (Da :: B.toList) br B) B Gc H' σ' envb β'/\(envb=benv own ixs (bp (Li ++ Lc) env)\/∃d,fQ t d (benv own ixs (bp (Li ++ Lc) env))=some envb)/\
   H' Da=some (.lst acc)/\cg Γ.K Gc acc accd/\accd.length<=i + 1/\∃xs,iJ t ft fe (hU own ixs (vl env)) (ds.drop (i + 1)) β'=.ok xs β0/\accd ++ xs=xs0,λσ2 H2 hh=>⟨ds.length - (i + 1),by omega,rfl,hlt,hh⟩,λx H2 y=>?_⟩
  obtain⟨G3,d,x3,ed,rd⟩:=yl x H2 y
  have I3:=Ib.ext x3
  have ed':ds[i]=d:=by rw[NW hlt] at ed;exact Option.some.inj ed
  rw[List.drop_eq_getElem_cons hlt,ed'] at ec
  unfold iJ at ec
  cases ebv:oJ t d (hU own ixs (vl env)) with
  |none=>rw[ebv] at ec;cases ec
  |some vs1=>
   rw[ebv] at ec
   dsimp only at ec
   obtain⟨env1,eb1,ev1⟩:∃env1,fQ t d (benv own ixs (bp (Li ++ Lc) env))=some env1/\vl env1=vs1:=by
    have:=Fy t d (benv own ixs (bp (Li ++ Lc) env))
    rw[evb,ebv] at this
    cases q:fQ t d (benv own ixs (bp (Li ++ Lc) env)) with
    |none=>rw[q] at this;cases this
    |some env1=>rw[q] at this;exact⟨env1,rfl,Option.some.inj this⟩
   have eb2:fQ t d envb=some env1:=by
    rcases eb with rfl | ⟨d0,eb⟩
    ·exact eb1
    ·rw[BH eb];exact eb1
   have no1:yV env1:=Be (tJ _ _ _) eb1
   have a2:H2 Da=some (.lst acc):=x3.hh _ _ hacc
   refine⟨_,_,_,_,_,envb,G3,B,β',d,env1,I3,rd,eb2,λσ3 I4=>?_⟩
   refine⟨_,_,_,_,_,hbo,env1,G3,B,β',I4,?_⟩
   rw[ev1]
   cases et:ft vs1 β' with
   |exc c=>rw[et] at ec;cases ec
   |bad=>rw[et] at ec;cases ec
   |ok c β2=>
    rw[et] at ec
    intro G4 H4 I5 s4 m4
    rw[wt no1] at I5
    have a4:H4 Da=some (.lst acc):=m4.1 _ _ a2 q3
    cases c with
    |false=>
     refine wC ⟨env1,G4,β2,acc,accd,I5,.inr ⟨d,eb1⟩,a4,racc.mono (x3.gg.trans s4),by omega,xs,?_,exs⟩
     exact ec
    |true=>
     refine wc ⟨_,_,_,_,_,hbo,env1,G4,B,β2,I5,?_⟩
     rw[ev1]
     have ec:((fe vs1 β2).okb λx β3=>(iJ t ft fe (hU own ixs (vl env)) (ds.drop (i + 1)) β3).okb λxs β4=>R.ok (x :: xs) β4)=R.ok xs β0:=ec
     cases ee:fe vs1 β2 with
     |exc c=>rw[ee] at ec;cases ec
     |bad=>rw[ee] at ec;cases ec
     |ok dx β3=>
      rw[ee] at ec
      intro v G5 H5 I6 s5 m5 vo
      rw[wt no1] at I6
      have a5:H5 Da=some (.lst acc):=m5.1 _ _ a4 q3
      have ec:((iJ t ft fe (hU own ixs (vl env)) (ds.drop (i + 1)) β3).okb λxs β4=>R.ok (dx :: xs) β4)=R.ok xs β0:=ec
      cases er:iJ t ft fe (hU own ixs (vl env)) (ds.drop (i + 1)) β3 with
      |exc c=>rw[er] at ec;cases ec
      |bad=>rw[er] at ec;cases ec
      |ok ys β4=>
       rw[er] at ec
       cases ec
       refine⟨acc,a5,by rw[racc.len];omega,env1,G5,β3,acc ++ [v],accd ++ [dx],?_,.inr ⟨d,eb1⟩,aA,(racc.mono ((x3.gg.trans s4).trans s5)).snoc vo,by rw[Ow];simp;omega,ys,er,by rw[<-exs,Pz];rfl⟩
       refine I6.updD (N0 ..) (Mx.lst (show upd H1 Da (.lst []) Da=some (.lst []) from aA)) (I2.sub.free hD) q3
 ·have e:i=ds.length:=by omega
  subst e
  rw[List.drop_length] at ec
  cases ec
  rw[Qz] at exs
  subst exs
  refine .inl ⟨w2 (N4 _),⟨acc,hacc⟩,h _ Gc H' Io ((s1.trans s2).trans Ib.old) (m1.trans mv) ⟨Da,rfl,gm m1 I1.boxThere hD,gD,acc,hacc,racc⟩⟩
def bU (hg:∀H0 G0 par br bx C ex s3 H3 pn,SG (jE X NB scope C ex s3 H3 pn) (Γ.jE H0 G0 par br bx) tg t)(C:Addr)(ex:List Addr)(s3:Shared)(H3:Hp)(pn:List (Addr×Obj)):PG (jE X NB scope C ex s3 H3 pn) tg (gU Γ t):=by
 rintro pins s σ H v u Q I r ⟨H0,G0,par,br,bx,q⟩
 exact hg H0 G0 par br bx C ex s3 H3 pn pins s σ H v u Q I r q
def bM (Lc:List Nat)(hc:X.calm=true)(S:dG X NB own ixs scope)(hLc:∀i,i∈Lc->Γ.br i=false)(hi:SI X Γ E tg iter fi Li .b)
  (hg:∀H0 G0 par br bx C ex s3 H3 pn,SG (jE X NB scope C ex s3 H3 pn) (Γ.jE H0 G0 par br bx) tg t)
  (ht:∀H0 G0 par br bx C ex s3 H3 pn,(∀j,G6 own ixs Lc j=true->br j=false)->Ec (jE X NB scope C ex s3 H3 pn) ifs (qT (Γ.jE H0 G0 par br bx) E0 ft Lt))
  (he:∀H0 G0 par br bx C ex s3 H3 pn,(∀j,G6 own ixs Lc j=true->br j=false)->SE (jE X NB scope C ex s3 H3 pn) (Γ.jE H0 G0 par br bx) E0 elt fe Le .v)
  (hs:∀x,foldedSetIterable iter X.env x=pure x:=by intro _;rfl) :
  SE X Γ E (.ListComp elt [⟨tg,iter,ifs,0⟩] scope pos) (aP own ixs t fi ft fe) (Li ++ Lc) .w:=by
 refine PE.post' (wF (g:=gU Γ t) (tt:=tU Γ own ixs Lc ft Lt) (te:=eU Γ own ixs Lc fe Le) hc S hi (bU hg) (λC ex s3 H3 pn=>?_) (λC ex s3 H3 pn=>?_) hs) λσ H Q h=>Hk hLc h
 ·rintro pins s σ H Q I ⟨H0,G0,par,br,bx,b,q⟩
  exact ht H0 G0 par br bx C ex s3 H3 pn b pins s σ H Q I q
 ·rintro pins s σ H Q I ⟨H0,G0,par,br,bx,b,q⟩
  exact he H0 G0 par br bx C ex s3 H3 pn b pins s σ H Q I q
def yX {y:Str}{py spos:Pos}(Lc:List Nat)(hc:X.calm=true)(S:dG X NB own ixs scope)(hLc:∀i,i∈Lc->Γ.br i=false)(hi:SI X Γ E tg iter fi Li .b)
  (hg:∀H0 G0 par br bx C ex s3 H3 pn,SG (jE X NB scope C ex s3 H3 pn) (Γ.jE H0 G0 par br bx) tg t)
  (ht:∀H0 G0 par br bx C ex s3 H3 pn,(∀j,G6 own ixs Lc j=true->br j=false)->Ec (jE X NB scope C ex s3 H3 pn) ifs (qT (Γ.jE H0 G0 par br bx) E0 ft Lt))
  (he:∀H0 G0 par br bx C ex s3 H3 pn,(∀j,G6 own ixs Lc j=true->br j=false)->SE (jE X NB scope C ex s3 H3 pn) (Γ.jE H0 G0 par br bx) E0 elt fe Le .v)
  (hN:X.N.Nodup) (hy:X.N[i]? =some y:=by rfl) (hl:X.env.scope.names.lookup y=some .local:=by rfl)
  (hsw:swapsWith (.ListComp elt [⟨tg,iter,ifs,0⟩] scope pos) (some (.Name y py)) spos.line X.env=pure true:=by rfl)
  (hs:∀x,foldedSetIterable iter X.env x=pure x:=by intro _;rfl) :
  SS X Γ E (.Assign [.Name y py] (.ListComp elt [⟨tg,iter,ifs,0⟩] scope pos) spos) (bS i (Li ++ Lc) (aP own ixs t fi ft fe)):=by
 refine PS.post (DF (g:=gU Γ t) (tt:=tU Γ own ixs Lc ft Lt) (te:=eU Γ own ixs Lc fe Le) hc S hi (bU hg) (λC ex s3 H3 pn=>?_) (λC ex s3 H3 pn=>?_) hN hy hl hsw hs) λN σ H ⟨env,G,B,β,I,o⟩=>?_
 ·rintro pins s σ H Q I ⟨H0,G0,par,br,bx,b,q⟩
  exact ht H0 G0 par br bx C ex s3 H3 pn b pins s σ H Q I q
 ·rintro pins s σ H Q I ⟨H0,G0,par,br,bx,b,q⟩
  exact he H0 G0 par br bx C ex s3 H3 pn b pins s σ H Q I q
 refine Hk hLc ⟨env,G,B,β,I,dh o λd β' k v G' H' I' s' m' vo=>?_⟩
 obtain⟨G2,I2,s2,r⟩:=I.letW I' vo
 exact k B G2 H' _ (I2.set' i r) (s'.trans s2)
end
def fin:SO->FR
 | .nx _ _=>.ok .none false
 | .rt d fr _=>.ok d fr
 | .exc c=>.exc c
 |_=>.bad
def A8 (n:Nat)(ds:List D):En:=ds.map Sl.fz ++ List.replicate (n - ds.length) .no
def aZ (n p:Nat)(m:SF):List D->FR:=λds=>if ds.length=p then fin (m (A8 n ds) 0) else .bad
abbrev Fx.fn (K:Frag)(H G:Hp)(ca:Str->Addr):Fx:=⟨K,H,G,[],ca,λ_=>false,none⟩
def SR.start {K:Frag}{ca:Str->Addr}(s:ay G H)(r:cg K G vs ds)(hn:ds.length<=N.length):SR (Fx.fn K H G ca) none G H (start N vs) (A8 N.length ds) 0:=by
 have hl:=r.len
 refine⟨s,ay.refl _,λb _ h=>h,λb o h _=>Kt.of h,λb h=>(by cases h),λb h=>(by cases h),λb h=>(by cases h),?_,λi t e=>?_,λi j a d e h=>?_⟩
 ·unfold L2.start A8;simp;omega
 ·unfold A8 at e
  by_cases hi:i < ds.length
  ·rw[OU (by simpa using hi),Oa,NW hi] at e
   cases e
   obtain⟨x,hx,rx⟩:=r.at (NW hi)
   refine⟨x,?_,rx⟩
   unfold L2.start
   rw[OU (by simpa[hl] using hi),Oa,hx];rfl
  ·rw[OK (by simpa using hi),PL] at e
   split at e
   ·cases e;trivial
   ·cases e
 ·unfold A8 at h
  have hm:=Ob h
  rcases Of.mp hm with z |z
  ·obtain⟨_,_,z⟩:=N7.mp z;cases z
  ·have:=Q7 z;cases this
section
variable {P:Program}{w:World}{K:Frag}{mg:Str->Option Value}{base:Heap}{ca:Str->Addr}
def aO {st:Stmt}{f:Addr}{k:Nat}{m:SF}(F:Es K x qual st f fd)(S:aG N ps (ar st))
  (hbody:∀(cdv:Value) (A:Around) (outer:List Env) (s:Shared) (H G:Hp) (E:XK),fN k (A.deeper (envOfC qual (ar st) s.heap.objs.size f cdv))->Ep (rP (r0 P w) P w K mg base N qual (ar st) f cdv A outer s H E) (Fx.fn K H G ca) E (dg st) m) :
  fV P w K mg base (r0 P w) (k + 1) f fd ps (Dd K ca ps.length (aZ N.length ps.length m)):=by
 have hpn:ps.length<=N.length:=by have:=congrArg List.length S.pre;rw[OX] at this;omega
 refine F.BP S (λvs H Q E h=>?_) (λcdv A outer s H vs Q E hr h=>?_)
 ·obtain⟨G,ds,sG,hl,r,_⟩:=h
  rw[r.len];exact hl
 ·obtain⟨G,ds,sG,hl,r,h⟩:=h
  refine⟨_,hbody cdv A outer s H G E hr,?_⟩
  have I:=SR.start (ca:=ca) (N:=N) sG r (by omega)
  refine⟨_,G,none,0,I,?_⟩
  unfold aZ at h
  rw[N1 hl] at h
  have fin':∀{B G' H' σ env β},SR (Fx.fn K H G ca) B G' H' σ env β->ay H H':=λJ b o e=>J.keep b o e (λz=>by cases z)
  cases q:m (A8 N.length ds) 0 with
  |nx env β=>rw[q] at h;exact λB G' H' σ J s'=>h .non G' H' (fin' J) s' J.sub (λb h1 h2=>J.new b h1 h2) Rp.non
  |bk env β=>rw[q] at h;exact h.elim
  |ct env β=>rw[q] at h;exact h.elim
  |rt d fr β=>
   rw[q] at h
   refine λB G' H' σ env v J s' rv=>h v G' H' (fin' J) s' J.sub (λb h1 h2=>J.new b h1 h2) ?_
   cases fr with
   |true=>exact rv
   |false=>exact rv
  |exc c=>rw[q] at h;exact λH' kp=>h H' λb o e=>kp b o e (λz=>by cases z)
  |bad=>rw[q] at h;exact h.elim
def C9 {f:Addr}:fV P w K mg base (r0 P w) k f fd ps (Dd K ca ps.length λ_=>.bad):=
 ⟨λvs H Q E h=>by obtain⟨_,_,_,_,_,h⟩:=h;exact h.elim,λA outer s H args us vs Q E _ _ _ _ h=>by obtain⟨_,_,_,_,_,h⟩:=h;exact h.elim⟩
def FJ {F F':List D->FR}(h:∀ds,ds.length=n->F' ds≠.bad->F ds=F' ds){E:XK}(q:Dd K ca n F' vs H Q E):Dd K ca n F vs H Q E:=by
 obtain⟨G,ds,s,hl,r,q⟩:=q
 refine⟨G,ds,s,hl,r,?_⟩
 by_cases hb:F' ds=.bad
 ·rw[hb] at q;exact q.elim
 ·rw[h ds hl hb];exact q
def bP.imp {F F':List D->FR}(h:bP P w K mg base ca x ps k F)(i:∀ds,F' ds≠.bad->F ds=F' ds):bP P w K mg base ca x ps k F':=by
 obtain⟨f,fd,a,b,c,d⟩:=h.ex
 exact⟨⟨f,fd,a,b,c,d.imp λvs H Q E q=>FJ (λds _=>i ds) q⟩,λds hn=>h.len ds (by rw[i ds hn];exact hn)⟩
def aJ (ds:List D)(h:aZ n p m ds≠.bad):ds.length=p:=by
 unfold aZ at h
 by_cases hl:ds.length=p
 ·exact hl
 ·rw[N8 hl] at h;exact absurd rfl h
end
section
variable {X:Cx}{Γ:Fx}{E:XK}{e a b c:Expr}{f fa fb:VF D}{L La Lb:List Nat}{md ma mb:Md}{pos apos cpos np:Pos}
def o9:Option Sl->Bool
 |some (.ow (.list _))=>true
 |_=>false
theorem nc (h:o9 o=true):∃ds,o=some (.ow (.list ds)):=by
 cases o with
 |none=>cases h
 |some s=>
  cases s with
  |ow d=>cases d with
   |list ds=>exact⟨ds,rfl⟩
   |_=>cases h
  |_=>cases h
def GN (i:Nat)(env:En)(β:Int)(g:List D->Option (List D)):SO:=match env[i]? with
 |some (.ow (.list ds))=>(match g ds with
  |some es=>.nx (env.set i (.ow (.list es))) β
  |none=>.bad)
 |_=>.bad
def mw (i:Nat)(L:List Nat)(f:VF D):SF:=λenv β=>if o9 env[i]? =true then toS (f (vl env) β) λd β'=>GN i (bp L env) β' λds=>if ds.length < sizeLine then some (ds ++ [d]) else none else .bad
def pG {Γ:Fx}{E:XK}{g:List D->Option (List D)}(h:rn Γ E G N (GN i env β g)):∃ds es,env[i]? =some (.ow (.list ds))/\g ds=some es/\rn Γ E G N (.nx (env.set i (.ow (.list es))) β):=by
 unfold GN at h
 split at h
 ·rename_i ds q
  cases e:g ds with
  |none=>rw[e] at h;exact h.elim
  |some es=>rw[e] at h;exact⟨ds,es,q,e,h⟩
 ·exact h.elim
def lU (i:Nat)(hb:∀j,Γ.br j=false)(he:SE X Γ E e f L .v)(hN:X.N[i]? =some x:=by rfl)(hv:AL X.env.scope x:=by first |exact Or.inl rfl |exact Or.inr (Or.inl rfl) |exact Or.inr (Or.inr rfl))(hd:(x == ("__debug__":Str))=false:=by decide)
  (hcd:(x == ("__classdict__":Str))=false:=by decide)
  (hbase:attributeBase (.Name x np) "append" X.env (eval (.Name x np) X.env)=eval (.Name x np) X.env:=by rfl)
  (hfew:((backTo cpos (starEach [e] X.env)).all (λx=> !x.1) && (backToKw cpos (keywordEach [] X.env)).all (λx=>x.1.isSome)
   && decide ([e].length + ([]:List Keyword).length + (if ([]:List Keyword).isEmpty then 0 else 1) < 30))=true:=by rfl)
  (hline:(apos.endLine == cpos.line)=true:=by rfl) (hs:starEach [e] X.env=(false,eval e X.env) :: starEach [] X.env:=by rfl)
  (hsw:swapsWith (.Call (.Attribute (.Name x np) "append" apos) [e] [] cpos) none pos.line X.env=pure false:=by rfl) :
  SS X Γ E (.Expr (.Call (.Attribute (.Name x np) "append" apos) [e] [] cpos) pos) (mw i L f):=by
 refine PS.post (pA (zx Qv PySem.F.slot_list_append PySem.F.type_list_append nM (ju hN hv hd hcd) (aN he bu hs) hbase hfew hline hs rfl) hsw) λN σ H ⟨env,G,B,β,I,o⟩=>?_
 unfold mw at o
 by_cases hO:o9 env[i]? =true
 case neg=>rw[N8 hO] at o;exact o.elim
 rw[N1 hO] at o
 obtain⟨ds0,q0⟩:=nc hO
 obtain⟨p,h1,_,_,_,xs,h5,_⟩:=I.slot i _ q0
 refine⟨_,h1,.inl ⟨rfl,xs,.inl (.inl h5)⟩,?_⟩
 refine⟨env,G,B,β,I,dh o λd β' k v G' H' I' s' m' vo=>?_⟩
 obtain⟨ds,es,q,eg,k⟩:=pG k
 by_cases hz:ds.length < sizeLine
 case neg=>rw[N8 hz] at eg;cases eg
 rw[N1 hz] at eg
 cases eg
 obtain⟨p',g1,_,_,_,ys,g5,g6⟩:=I'.slot i _ q
 rw[h1] at g1;cases g1
 refine⟨p,ys,v,rfl,rfl,g5,by rw[g6.len];exact hz,?_⟩
 exact k B G' _ σ (I'.write hb q h1 λH2 e2 s2=>⟨_,e2,g6.snoc vo⟩) s'
def Kc:V->List V->Hp->VK->Prop:=λx vs H Q=>∃l b xs zs,x=.ref l/\vs= [.ref b]/\H l=some (.lst xs)/\Rd H b (.lst zs)/\xs.length + zs.length<=sizeLine/\Q .non (upd H l (.lst (xs ++ zs)))
def Inv.lstR (I:Inv X pins σ H s)(hH:Rd H l (.lst xs)):xs.length<=sizeLine/\∃(its:List Value) (n:Nat),Vals xs its/\xs.length=its.length/\s.heap.get? l=some {cls:=.type "list",data:=.seq its.toArray n}:=by
 obtain⟨z,its,n,r,e⟩:=hH.ok I.hok
 exact⟨z,its,n,r,r.length,e⟩
def FL:Kv X "list.extend" Kc:=by
 intro pins s σ H x vs v us Q I rx rv h
 obtain⟨l,b,xs,zs,rfl,rfl,hH,hB,hz,q⟩:=h
 cases rx
 obtain⟨u,rfl,ru⟩:=rv.one
 cases ru
 obtain⟨z,its,n,r,hl,e⟩:=I.lstM hH
 obtain⟨z2,its2,n2,r2,hl2,e2⟩:=I.lstR hB
 have hsz:its.toArray.size + its2.toArray.size<=sizeLine:=by rw[Oh,Oh];omega
 have hlong:¬(!its.toArray.isEmpty && Builtin.List.listTooLong (its.toArray.size + its2.toArray.size))=true:=by
  rw[vH hsz,Bool.and_false]
  exact OG
 refine call_meets F.slot_list_extend ⟨_,e,rfl⟩ F.entry_list_extend (F.args_list_extend_2 _ _)
  (AutoSeq1.list_extend_list_list_0 l its.toArray n b its2.toArray n2 hlong (by rw[Oh];omega) (by omega)) ⟨e,e2,?_⟩
 refine⟨.non,_,I.lset (its':=its ++ its2) hH e (by simp) (r.append r2) ?_,rfl,q⟩
 rw[Ow]
 omega
def Du (i:Nat)(L:List Nat)(f:VF D):SF:=λenv β=>if o9 env[i]? =true then toS (f (vl env) β) λd β'=>GN i (bp L env) β' λds=>match d with
 | .list es=>if ds.length + es.length<=sizeLine then some (ds ++ es) else none
 |_=>none else .bad
theorem AM (i:Nat)(hb:∀j,Γ.br j=false)(he:SE X Γ E e f L md)(hN:X.N[i]? =some x:=by rfl)(hv:AL X.env.scope x:=by first |exact Or.inl rfl |exact Or.inr (Or.inl rfl) |exact Or.inr (Or.inr rfl))(hd:(x == ("__debug__":Str))=false:=by decide)
  (hcd:(x == ("__classdict__":Str))=false:=by decide)
  (hbase:attributeBase (.Name x np) "extend" X.env (eval (.Name x np) X.env)=eval (.Name x np) X.env:=by rfl)
  (hfew:((backTo cpos (starEach [e] X.env)).all (λx=> !x.1) && (backToKw cpos (keywordEach [] X.env)).all (λx=>x.1.isSome)
   && decide ([e].length + ([]:List Keyword).length + (if ([]:List Keyword).isEmpty then 0 else 1) < 30))=true:=by rfl)
  (hline:(apos.endLine == cpos.line)=true:=by rfl) (hs:starEach [e] X.env=(false,eval e X.env) :: starEach [] X.env:=by rfl)
  (hsw:swapsWith (.Call (.Attribute (.Name x np) "extend" apos) [e] [] cpos) none pos.line X.env=pure false:=by rfl) :
  SS X Γ E (.Expr (.Call (.Attribute (.Name x np) "extend" apos) [e] [] cpos) pos) (Du i L f):=by
 refine PS.post (pA (zx Qv PySem.F.slot_list_extend PySem.F.type_list_extend FL (ju hN hv hd hcd) (aN he bu hs) hbase hfew hline hs rfl) hsw) λN σ H ⟨env,G,B,β,I,o⟩=>?_
 unfold Du at o
 by_cases hO:o9 env[i]? =true
 case neg=>rw[N8 hO] at o;exact o.elim
 rw[N1 hO] at o
 obtain⟨ds0,q0⟩:=nc hO
 obtain⟨p,h1,_,_,_,xs,h5,_⟩:=I.slot i _ q0
 refine⟨_,h1,.inl ⟨rfl,xs,.inl (.inl h5)⟩,?_⟩
 refine⟨env,G,B,β,I,dh o λd β' k v G' H' I' s' m' vo=>?_⟩
 obtain⟨ds,es,q,eg,k⟩:=pG k
 cases d with
 |list fs=>
  dsimp only at eg
  by_cases hz:ds.length + fs.length<=sizeLine
  case neg=>rw[N8 hz] at eg;cases eg
  rw[N1 hz] at eg
  cases eg
  obtain⟨p',g1,_,_,_,ys,g5,g6⟩:=I'.slot i _ q
  rw[h1] at g1;cases g1
  obtain⟨pb,zs,rfl,hq,rz⟩:=(vo.brw I.boxThere).list I'.sub
  refine⟨p,pb,ys,zs,rfl,rfl,g5,hq,by rw[g6.len,rz.len];exact hz,?_⟩
  exact k B G' _ σ (I'.write hb q h1 λH2 e2 s2=>⟨_,e2,g6.append rz⟩) s'
 |_=>cases eg
def pR (i:Nat)(Le Li:List Nat)(fe fi:VF D):SF:=λenv β=>toS (fe (vl env) β) λd β1=>if o9 (bp Le env)[i]? =true then toS (fi (vl env) β1) λk β2=>GN i (bp (Le ++ Li) env) β2 λds=>match k with
 | .int j=>(t6 ds.length j).map λn=>ds.set n d
 |_=>none else .bad
theorem y7 (i:Nat){spos:Pos}(hb:∀j,Γ.br j=false)(he:SE X Γ E e f La .v)(hi:SE X Γ E a fa Lb mb)(hN:X.N[i]? =some x:=by rfl)(hv:AL X.env.scope x:=by first |exact Or.inl rfl |exact Or.inr (Or.inl rfl) |exact Or.inr (Or.inr rfl))(hd:(x == ("__debug__":Str))=false:=by decide)
  (hcd:(x == ("__classdict__":Str))=false:=by decide)
  (hA:∀v,assign (.Subscript (.Name x np) a spos) X.env v=(do
   let ov <-holding [v] (eval (.Name x np) X.env)
   let iv <-holding [v,ov] (eval a X.env)
   standAt spos
   holding [v,ov,iv] (setItem ov iv v)
   release [v,ov,iv] []):=by intro _;rfl)
  (hs:swapsWithSole [.Subscript (.Name x np) a spos] e pos.line X.env=pure false:=by rfl) (hw:swappedStores [.Subscript (.Name x np) a spos] e X.env=pure none:=by rfl)
  (h1:(assignEach [.Subscript (.Name x np) a spos] X.env).map (·.2)= [assign (.Subscript (.Name x np) a spos) X.env]:=by rfl) :
  SS X Γ E (.Assign [.Subscript (.Name x np) a spos] e pos) (pR i La Lb f fa):=by
 refine PS.post (qZ he (uF (ju hN hv hd hcd) hi set_list hA) hs hw h1) λN σ H ⟨env,G,B,β,I,o⟩=>?_
 refine⟨env,G,B,β,I,dh o λd β1 o v G1 H1 I1 s1 m1 vo=>?_⟩
 by_cases hO:o9 (bp La env)[i]? =true
 case neg=>rw[N8 hO] at o;exact o.elim
 rw[N1 hO] at o
 obtain⟨ds0,q0⟩:=nc hO
 obtain⟨p,h1,_,_,_,xs,h5,_⟩:=I1.slot i _ q0
 refine⟨_,h1,bp La env,G1,B,β1,I1,?_⟩
 rw[gy]
 refine dh o λk β2 o w G2 H2 I2 s2 m2 vi=>?_
 rw[<-cE] at I2
 obtain⟨ds,es,q,eg,o⟩:=pG o
 cases k with
 |int j=>
  dsimp only at eg
  obtain rfl:=(vi.brw I1.boxThere).int
  obtain⟨p',g1,_,_,_,ys,g5,g6⟩:=I2.slot i _ q
  rw[h1] at g1;cases g1
  cases en:t6 ds.length j with
  |none=>rw[en] at eg;cases eg
  |some n=>
   rw[en] at eg
   cases eg
   have vo:Rp Γ.K G1 v d:=vo
   refine⟨p,ys,j,n,rfl,rfl,g5,by rw[g6.len];exact en,?_⟩
   exact o B G2 _ σ (I2.write hb q h1 λH3 e3 s3=>⟨_,e3,g6.set (vo.mono s2) n⟩) (s1.trans s2)
 |_=>cases eg
end
section
variable {K:Frag}{X:Cx}
def so {g:Int->Int->V}{gd:D->D->Option D}(h:∀dx dy d,gd dx dy=some d->∃i j,dx=.int i/\dy=.int j/\∀G,Rp K G (g i j) d):nP K (xM g) gd .v:=by
 intro B G H x y dx dy d Q s hB bx by' e k
 obtain⟨i,j,rfl,rfl,r⟩:=h _ _ _ e
 obtain rfl:=bx.int
 obtain rfl:=by'.int
 exact⟨i,j,rfl,rfl,k _ G H (Ext.refl s) (r G)⟩
def y1 {C:Int->Int->Prop}{g:Int->Int->V}{gd:D->D->Option D}(h:∀dx dy d,gd dx dy=some d->∃i j,dx=.int i/\dy=.int j/\C i j/\∀G,Rp K G (g i j) d):nP K (rI C g) gd .v:=by
 intro B G H x y dx dy d Q s hB bx by' e k
 obtain⟨i,j,rfl,rfl,c,r⟩:=h _ _ _ e
 obtain rfl:=bx.int
 obtain rfl:=by'.int
 exact⟨i,j,rfl,rfl,c,k _ G H (Ext.refl s) (r G)⟩
def gI (c:Int->Int->Bool)(g:Int->Int->D):D->D->Option D
 | .int i,.int j=>if c i j=true then some (g i j) else none
 |_,_=>none
def xt (g:Int->Int->D):D->D->Option D
 | .int i,.int j=>some (g i j)
 |_,_=>none
def zb {c:Int->Int->Bool}{g:Int->Int->D}(h:gI c g dx dy=some d):∃i j,dx=.int i/\dy=.int j/\c i j=true/\d=g i j:=by
 unfold gI at h
 split at h
 ·split at h
  ·cases h;exact⟨_,_,rfl,rfl,by assumption,rfl⟩
  ·cases h
 ·cases h
def ll {g:Int->Int->D}(h:xt g dx dy=some d):∃i j,dx=.int i/\dy=.int j/\d=g i j:=by
 unfold xt at h
 split at h
 ·cases h;exact⟨_,_,rfl,rfl,rfl⟩
 ·cases h
def BW:D->D->Option D:=gI (λ_ j=>decide (0 < j) && decide (j < 1073741824)) λi j=>.int (i / j)
def Fh:nP K (rI GH λi j=>.int (i / j)) BW .v:=y1 λdx dy d h=>by obtain⟨i,j,rfl,rfl,c,rfl⟩:=zb h;exact⟨i,j,rfl,rfl,by simpa[GH] using c,λ_=>.int _⟩
def mq:D->D->Option D:=gI (λ_ j=>decide (0 < j)) λi j=>.int (i % j)
def tj:nP K (rI (λ_ j=>0 < j) λi j=>.int (i % j)) mq .v:=y1 λdx dy d h=>by obtain⟨i,j,rfl,rfl,c,rfl⟩:=zb h;exact⟨i,j,rfl,rfl,by simpa using c,λ_=>.int _⟩
def HR (i j:Int):Bool:=decide (0<=j) && decide (j<=1000000) && decide (i.natAbs < 2 ^ 64)
def Ez (h:HR i j=true):IW i j:=by
 unfold HR at h
 simp only[Om,Oq] at h
 exact⟨h.1.1,h.1.2,h.2⟩
def IY:D->D->Option D:=gI HR λi j=>.int (i * 2 ^ j.toNat)
def KC:nP K (rI IW λi j=>.int (i * 2 ^ j.toNat)) IY .v:=y1 λdx dy d h=>by obtain⟨i,j,rfl,rfl,c,rfl⟩:=zb h;exact⟨i,j,rfl,rfl,Ez c,λ_=>.int _⟩
def B7:D->D->Option D:=xt λi j=>.int (Builtin.bitAnd i j)
def K5:nP K (xM λi j=>.int (Builtin.bitAnd i j)) B7 .v:=so λdx dy d h=>by obtain⟨i,j,rfl,rfl,rfl⟩:=ll h;exact⟨i,j,rfl,rfl,λ_=>.int _⟩
def Nt:D->D->Option D:=xt λi j=>.int (Builtin.bitOr i j)
def Nh:nP K (xM λi j=>.int (Builtin.bitOr i j)) Nt .v:=so λdx dy d h=>by obtain⟨i,j,rfl,rfl,rfl⟩:=ll h;exact⟨i,j,rfl,rfl,λ_=>.int _⟩
def xZ:D->D->Option D:=xt λi j=>.bool (decide (i < j))
def CN:D->D->Option D:=xt λi j=>.bool (decide (i<=j))
def Nd:D->D->Option D:=xt λi j=>.bool (decide (j < i))
def Cv:nP K (xM λi j=>.bl (decide (i < j))) xZ .v:=so λdx dy d h=>by obtain⟨i,j,rfl,rfl,rfl⟩:=ll h;exact⟨i,j,rfl,rfl,λ_=>.bl _⟩
def IS:nP K (xM λi j=>.bl (decide (i<=j))) CN .v:=so λdx dy d h=>by obtain⟨i,j,rfl,rfl,rfl⟩:=ll h;exact⟨i,j,rfl,rfl,λ_=>.bl _⟩
def MZ:nP K (xM λi j=>.bl (decide (j < i))) Nd .v:=so λdx dy d h=>by obtain⟨i,j,rfl,rfl,rfl⟩:=ll h;exact⟨i,j,rfl,rfl,λ_=>.bl _⟩
mutual
theorem zy:∀d:D,d.canLay0=true->D5 d=true
 | .none,_=>rfl
 | .bool _,_=>rfl
 | .int _,_=>rfl
 | .str _,_=>rfl
 | .list ds,h=>by simp only[PyData.canLay0] at h;simp only[D5];exact pP ds h
 | .tuple ds,h=>by simp only[PyData.canLay0] at h;simp only[D5];exact pP ds h
 | .dict _,h=>by simp[PyData.canLay0] at h
theorem pP:∀ds:List D,PyData.canLayAll0 ds=true->rM ds=true
 | [],_=>rfl
 |d :: ds,h=>by
  simp only[PyData.canLayAll0,Om] at h
  simp only[rM,Om]
  exact⟨zy d h.1,pP ds h.2⟩
end
def uR (h:SeqAt.shaped d=true):D5 d=true:=zy d (PN h)
theorem Ai:∀{ds:List D},(ds.all SeqAt.shaped)=true->rM ds=true
 | [],_=>rfl
 |d :: ds,h=>by
  rw[all_cons,Om] at h
  simp only[rM,Om]
  exact⟨uR h.1,Ai h.2⟩
def cV (neg:Bool)(x y:D):Option D:=if (SeqAt.shaped x && SeqAt.shaped y)=true then some (.bool (if neg then !PyData.eqv x y else PyData.eqv x y)) else none
def fG :nP K (Hx K neg) (cV neg) .v:=by
 intro B G H x y dx dy d Q s hB bx by' e k
 unfold cV at e
 split at e
 ·rename_i h
  rw[Om] at h
  cases e
  exact⟨dx,dy,(bx.rpH s).rep (uR h.1),(by'.rpH s).rep (uR h.2),h.1,h.2,k _ G H (Ext.refl s) (.bl _)⟩
 ·cases e
def rV (neg:Bool)(x y:D):Option D:=match hG y with
 |some ds=>if (SeqAt.shaped x && ds.all SeqAt.shaped)=true then some (.bool (if neg then !(ds.any λe=>PyData.eqv e x) else ds.any λe=>PyData.eqv e x)) else none
 |none=>none
theorem l7.seq (h:l7 K B G H v d)(e:hG d=some ds)(s:ay G H):∃a xs,v=.ref a/\(gf K H a xs\/fO K H a xs)/\cg K G xs ds:=by
 cases d with
 |list l=>cases e;obtain⟨a,xs,e,q,r⟩:=h.list s;exact⟨a,xs,e,.inl (.inl q),r⟩
 |tuple l=>cases e;obtain⟨a,xs,e,q,r⟩:=h.tuple s;exact⟨a,xs,e,.inr q,r⟩
 |_=>cases e
theorem Br :nP K (Jf K neg) (rV neg) .v:=by
 intro B G H x y dx dy d Q s hB bx by' e k
 unfold rV at e
 cases q:hG dy with
 |none=>rw[q] at e;cases e
 |some ds=>
  rw[q] at e
  dsimp only at e
  split at e
  ·rename_i h
   rw[Om] at h
   cases e
   obtain⟨a,xs,rfl,hq,r⟩:=by'.seq q s
   refine⟨a,xs,dx,ds,rfl,hq,(r.mono s).reps (Ai h.2),(bx.rpH s).rep (uR h.1),h.1,λe he=>Ot.mp h.2 e he,k _ G H (Ext.refl s) (.bl _)⟩
  ·cases e
def AI:D->Bool
 | .none=>true
 |_=>false
theorem cg.ints :∀ns:List Int,cg K G (ns.map V.int) (ns.map int)
 | []=>.nil
 |n :: ns=>.cons (.int n) (cg.ints ns)
theorem BX.noNone (h:BX K G kvs ((.none,d) :: r)):False:=by
 generalize e:(PyData.none,d) :: r=l at h
 cases h with
 |nil=>cases e
 | @cons k x xs d' ds _ _=>
  injection e with e1 _
  injection e1 with e2 _
  cases k <;> cases e2
theorem BU.noNone (h:BU K G kvs ((.none,d) :: r)):False:=by
 generalize e:(PyData.none,d) :: r=l at h
 cases h with
 |nil=>cases e
 | @cons k x xs d' ds _ _=>
  injection e with e1 _
  injection e1 with e2 _
  cases e2
def l7.scr (h:l7 K B G H v (.dict [(.none,.list ds)]))(s:ay G H):∃a xs,v=.ref a/\gf K H a xs/\cg K G xs ds:=by
 rcases h with h | ⟨a,rfl,n,h⟩
 ·cases h with
  | @scr a ns q=>exact⟨a,_,rfl,s.seq q,cg.ints ns⟩
  |dK _ r=>exact r.noNone.elim
  |dT _ r=>exact r.noNone.elim
 ·rcases h with⟨_,_,r⟩ | ⟨_,_,r⟩
  ·exact r.noNone.elim
  ·exact r.noNone.elim
def cn:D->D->Option D
 | .list ds,.int i=>kG ds i
 | .tuple ds,.int i=>kG ds i
 | .str z,.int i=>if z.length<=sizeLine then (kG z.cps.toList i).map λc=>.str ⟨#[c]⟩ else none
 | .dict [(.none,.list ds)],.int i=>kG ds i
 |_,_=>none
theorem tX (r:cg K G xs ds)(h:kG ds i=some d):∃x,kG xs i=some x/\Rp K G x d:=by
 unfold kG at h ⊢
 rw[r.len]
 cases e:t6 ds.length i with
 |none=>rw[e] at h;cases h
 |some j=>rw[e] at h;exact r.at h
theorem de:nP K (Nx K) cn .v:=by
 intro B G H x y dx dy d Q s hB bx by' e k
 cases dx with
 |list ds=>
  cases dy with
  |int i=>
   obtain rfl:=by'.int
   obtain⟨a,xs,rfl,q,r⟩:=bx.list s
   obtain⟨v,ev,rv⟩:=tX r e
   exact .inl ⟨a,xs,i,v,rfl,rfl,.inl q,ev,k _ G H (Ext.refl s) rv⟩
  |_=>cases e
 |tuple ds=>
  cases dy with
  |int i=>
   obtain rfl:=by'.int
   obtain⟨a,xs,rfl,q,r⟩:=bx.tuple s
   obtain⟨v,ev,rv⟩:=tX r e
   exact .inr (.inl ⟨a,xs,i,v,rfl,rfl,q,ev,k _ G H (Ext.refl s) rv⟩)
  |_=>cases e
 |str z=>
  cases dy with
  |int i=>
   obtain rfl:=by'.int
   obtain rfl:=bx.str
   simp only[cn] at e
   split at e
   ·rename_i hz
    cases q:kG z.cps.toList i with
    |none=>rw[q] at e;cases e
    |some c=>rw[q] at e;cases e;exact .inr (.inr ⟨z,i,c,rfl,rfl,hz,q,k _ G H (Ext.refl s) (.str _)⟩)
   ·cases e
  |_=>cases e
 |none=>cases dy <;> cases e
 |bool b=>cases dy <;> cases e
 |int b=>cases dy <;> cases e
 |dict b=>
  obtain⟨ds,i,rfl,rfl,e⟩:∃ds i,b= [(.none,.list ds)]/\dy=.int i/\kG ds i=some d:=by
   unfold cn at e
   split at e
   ·contradiction
   ·contradiction
   ·contradiction
   ·rename_i h;cases h;exact⟨_,_,rfl,rfl,e⟩
   ·cases e
  obtain rfl:=by'.int
  obtain⟨a,xs,rfl,q,r⟩:=bx.scr s
  obtain⟨v,ev,rv⟩:=tX r e
  exact .inl ⟨a,xs,i,v,rfl,rfl,q,ev,k _ G H (Ext.refl s) rv⟩
def bL:D->Option D
 | .list ds=>some (.int ds.length)
 | .tuple ds=>some (.int ds.length)
 | .str z=>if z.length<=sizeLine then some (.int z.length) else none
 | .dict [(.none,.list ds)]=>some (.int ds.length)
 |_=>none
def ME (K:Frag):List V->Hp->VK->Prop:=λxs H Q=>∃x n,xs= [x]/\K7 K x H n/\Q (.int n) H
def dU:BO K (λx=>ME K [x]) bL .v:=by
 intro B G H x dx d Q s hB bx e k
 unfold bL at e
 split at e
 ·cases e;obtain⟨a,xs,rfl,q,r⟩:=bx.list s;exact⟨_,_,rfl,.inl ⟨xs,.inl q,r.len.symm⟩,k _ G H (Ext.refl s) (.int _)⟩
 ·cases e;obtain⟨a,xs,rfl,q,r⟩:=bx.tuple s;exact⟨_,_,rfl,.inr ⟨xs,q,r.len.symm⟩,k _ G H (Ext.refl s) (.int _)⟩
 ·obtain rfl:=bx.str
  split at e
  ·rename_i hz;cases e;exact⟨_,_,rfl,⟨hz,rfl⟩,k _ G H (Ext.refl s) (.int _)⟩
  ·cases e
 ·cases e;obtain⟨a,xs,rfl,q,r⟩:=bx.scr s;exact⟨_,_,rfl,.inl ⟨xs,q,r.len.symm⟩,k _ G H (Ext.refl s) (.int _)⟩
 ·cases e
def n5:D->Option D
 | .list ds=>some (.tuple ds)
 | .tuple ds=>some (.tuple ds)
 |_=>none
theorem pM:BO K (λx H Q=>∃p ys,[x]= [.ref p]/\((gf K H p ys/\∀l,H l=none->Q (.ref l) (upd H l (.tup ys)))\/(fO K H p ys/\Q (.ref p) H))) n5 .v:=by
 intro B G H x dx d Q s hB bx e k
 cases dx with
 |list ds=>
  cases e
  obtain⟨a,xs,rfl,q,r⟩:=bx.list s
  refine⟨a,xs,rfl,.inl ⟨.inl q,λl hl=>?_⟩⟩
  have x:=Ext.new s (o:=.tup xs) hl
  exact k _ _ _ x (.tup (.inl (.inl aA)) (r.mono x.gg))
 |tuple ds=>
  cases e
  rcases bx with bx | ⟨_,_,_,z⟩
  ·cases bx with
   | @tup a xs _ hq r=>exact⟨a,xs,rfl,.inr ⟨hq.grow s.grow,k _ G H (Ext.refl s) (.tup hq r)⟩⟩
  ·exact z.elim
 |_=>cases e
def GQ:D->Option D
 | .list ds=>some (.list ds)
 | .tuple ds=>some (.list ds)
 |_=>none
def Hv:BO K (λx H Q=>∃p ys,[x]= [.ref p]/\(gf K H p ys\/fO K H p ys)/\∀l,H l=none->Q (.ref l) (upd H l (.lst ys))) GQ .w:=by
 intro B G H x dx d Q s hB bx e k
 obtain⟨ds,e1,rfl⟩:∃ds,hG dx=some ds/\d=.list ds:=by
  cases dx <;> cases e <;> exact⟨_,rfl,rfl⟩
 obtain⟨a,xs,rfl,hq,r⟩:=bx.seq e1 s
 refine⟨a,xs,rfl,hq,λl hl=>?_⟩
 exact k _ _ _ (Ext.own s (o:=.lst xs) hl) ⟨l,rfl,hl,s.free hl,xs,aA,r⟩
def k9:List D->Option (List Bool)
 | []=>some []
 | .bool b :: ds=>(k9 ds).map (b :: ·)
 |_=>none
theorem sN :∀{ds:List D} {bs:List Bool} {xs:List V},k9 ds=some bs->cg K G xs ds->xs=bs.map V.bl
 | [],bs,xs,e,r=>by cases e;cases r;rfl
 | .bool b :: ds,bs,xs,e,r=>by
  cases r with
  |cons r1 r2=>
   cases r1
   simp only[k9] at e
   cases q:k9 ds with
   |none=>rw[q] at e;cases e
   |some cs=>rw[q] at e;cases e;rw[sN q r2];rfl
 | .none :: _,_,_,e,_=>by cases e
 | .int _ :: _,_,_,e,_=>by cases e
 | .str _ :: _,_,_,e,_=>by cases e
 | .list _ :: _,_,_,e,_=>by cases e
 | .tuple _ :: _,_,_,e,_=>by cases e
 | .dict _ :: _,_,_,e,_=>by cases e
def bK (f:List Bool->Bool):D->Option D
 | .list ds=>(k9 ds).map λbs=>.bool (f bs)
 |_=>none
theorem fD {f:List Bool->Bool}:BO K (λx=>yb K f [x]) (bK f) .v:=by
 intro B G H x dx d Q s hB bx e k
 cases dx with
 |list ds=>
  simp only[bK] at e
  cases q:k9 ds with
  |none=>rw[q] at e;cases e
  |some bs=>
   rw[q] at e
   cases e
   obtain⟨a,xs,rfl,hq,r⟩:=bx.list s
   obtain rfl:=sN q r
   exact⟨a,bs,rfl,.inl hq,k _ G H (Ext.refl s) (.bl _)⟩
 |_=>cases e
def G7:R2:=λx y H Q=>∃l b xs zs,x=.ref l/\y=.ref b/\Rd H l (.lst xs)/\Rd H b (.lst zs)/\xs.length + zs.length<=sizeLine/\∀p,H p=none->Q (.ref p) (upd H p (.lst (xs ++ zs)))
def fH:mM X (binaryOp .Add) G7:=by
 intro pins s σ H x y v u Q I rx ry h
 obtain⟨l,b,xs,zs,rfl,rfl,hH,hB,hz,q⟩:=h
 cases rx
 cases ry
 obtain⟨z,its,n,r,hl,e⟩:=I.lstR hH
 obtain⟨z2,its2,n2,r2,hl2,e2⟩:=I.lstR hB
 refine PySem.P.add_list e e2 ?_ (by rw[Oh,Oh];omega)
 have ea:its.toArray ++ its2.toArray=(its ++ its2).toArray:=by simp
 rw[ea]
 exact⟨.ref _,_,I.lnew (t':=s.toks) (r.append r2) (by rw[Ow];omega),rfl,q _ I.fresh⟩
def dH:D->D->Option D
 | .list a,.list b=>if a.length + b.length<=sizeLine then some (.list (a ++ b)) else none
 |_,_=>none
def lH:nP K G7 dH .w:=by
 intro B G H x y dx dy d Q s hB bx by' e k
 cases dx <;> cases dy <;> first | (cases e;done) |skip
 rename_i a b
 simp only[dH] at e
 split at e
 ·rename_i hz
  cases e
  obtain⟨p,xs,rfl,q1,r1⟩:=bx.list s
  obtain⟨p2,ys,rfl,q2,r2⟩:=by'.list s
  refine⟨p,p2,xs,ys,rfl,rfl,q1,q2,by rw[r1.len,r2.len];exact hz,λl hl=>?_⟩
  exact k _ _ _ (Ext.own s (o:=.lst (xs ++ ys)) hl) ⟨l,rfl,hl,s.free hl,_,aA,r1.append r2⟩
 ·cases e
def cD:D->D->Option D:=xt λi j=>.int (i + j)
def iH:nP K (xM λi j=>.int (i + j)) cD .v:=so λdx dy d h=>by obtain⟨i,j,rfl,rfl,rfl⟩:=ll h;exact⟨i,j,rfl,rfl,λ_=>.int _⟩
def fo:D->D->Option D:=gI (λi j=>(decide (-(2 ^ 64) < i) && decide (i < 2 ^ 64)) || (decide (-(2 ^ 64) < j) && decide (j < 2 ^ 64))) λi j=>.int (i * j)
def mi:nP K (rI CS λi j=>.int (i * j)) fo .v:=y1 λdx dy d h=>by obtain⟨i,j,rfl,rfl,c,rfl⟩:=zb h;exact⟨i,j,rfl,rfl,by simpa[CS] using c,λ_=>.int _⟩
def v3:D->D->Option D
 | .list a,.int k=>if -(2 ^ 63)<=k/\k < 2 ^ 63/\a.length * k.toNat<=sizeLine then some (.list (List.replicate k.toNat a).flatten) else none
 |_,_=>none
def Ca (ha:SE X Γ E a fa La .w)(hb:SE X Γ E b fb Lb mb):SE X Γ E (.BinOp a .Mult b pos) (f2 fa fb v3) (La ++ Lb) .w:=by
 refine PE.post' (sy Dm ha hb) λσ H Q ⟨env,G,B,β,I,o⟩=>?_
 refine⟨env,G,B,β,I,o.bnd.imp λd1 β1 h x G1 H1 I1 s1 m1 vx=>⟨bp La env,G1,B,β1,I1,?_⟩⟩
 rw[gy]
 refine h.bnd.imp λd2 β2 h y G2 H2 I2 s2 m2 vy=>?_
 obtain⟨d,e,k⟩:=h.of
 rw[<-cE] at I2
 obtain⟨p,rfl,p1,p2,p3⟩:=vx
 have by':=vy.brw I1.boxThere
 cases d1 <;> cases d2 <;> first | (cases e;done) |skip
 rename_i l j
 obtain rfl:=by'.int
 simp only[v3] at e
 split at e
 ·rename_i hz
  cases e
  obtain⟨xs,q,r⟩:=p3
  obtain⟨q1,q2,q3,q4⟩:=I.fresh p1
  have r2:=r.mono s2
  refine⟨p,j,xs,rfl,rfl,m2.1 _ _ q q3,hz.1,hz.2.1,by rw[r.len];exact hz.2.2,λl hl=>?_⟩
  have x:=Ext.own I2.sub (o:=.lst (List.replicate j.toNat xs).flatten) hl
  exact k _ _ _ (I2.ext x) ((s1.trans s2).trans x.gg) ((m1.trans m2).trans (x.hh.mov B)) ⟨l,rfl,gm (m1.trans m2) I2.boxThere hl,I2.sub.free hl,_,aA,r2.rep⟩
 ·cases e
def xf:D->Option D
 | .int i=>some (.int (-i))
 |_=>none
theorem Cb:BO K (rU λi=>.int (-i)) xf .v:=by
 intro B G H x dx d Q s hB bx e k
 cases dx with
 |int i=>cases e;obtain rfl:=bx.int;exact⟨i,rfl,k _ G H (Ext.refl s) (.int _)⟩
 |_=>cases e
def Lm:D->String
 | .none=>"NoneType"
 | .bool _=>"bool"
 | .int _=>"int"
 | .str _=>"str"
 | .list _=>"list"
 | .tuple _=>"tuple"
 | .dict _=>"dict"
def Di (d:D)(T:String):Bool:=Lm d == T || (T == "int" && Lm d == "bool")
def dq:D->Bool
 | .dict ((.none,_) :: _)=>true
 |_=>false
def iM (T:String)(d:D):Option D:=if dq d=true then none else some (.bool (Di d T))
def NA (K:Frag)(H:Hp)(x:V)(t:String):Prop:=GC K H x t\/(t="dict"/\∃a kvs,x=.ref a/\H a=some (.dT kvs))
def LS (K:Frag):List V->Hp->VK->Prop:=λxs H Q=>∃x T t b,xs= [x,.ty T]/\NA K H x t/\PySem.W.kitOne K (.type t) (.type T)=some b/\Q (.bl b) H
def DD:cI X (.builtin "isinstance") (LS X.K):=by
 intro pins s σ H xs us Q I r h
 obtain⟨x,T,t,b,rfl,ty,e,q⟩:=h
 rcases ty with ty | ⟨rfl,a,kvs,rfl,hk⟩
 ·exact D0 pins s σ H _ us Q I r ⟨x,T,t,b,rfl,ty,e,q⟩
 ·obtain⟨u,c,rfl,rx,rc⟩:=vals2 r
  cases rc
  cases rx
  obtain⟨_,_,_,_,o,_,_,e2,ex,_⟩:=I.hok a _ hk
  exact O0 PySem.W.kitx_dict I.kIn ⟨o,e2,ex.1⟩ e (λz=>nomatch z) λtk=>⟨.bl b,H,I.tok tk,rfl,q⟩
theorem l7.ty (h:l7 K B G H v d)(s:ay G H)(n:dq d=false):NA K H v (Lm d):=by
 cases d with
 |none=>obtain rfl:=h.none;exact .inl .non
 |bool b=>obtain rfl:=h.bool;exact .inl (.bl b)
 |int b=>obtain rfl:=h.int;exact .inl (.int b)
 |str b=>obtain rfl:=h.str;exact .inl (.str b)
 |list b=>obtain⟨a,xs,rfl,q,_⟩:=h.list s;exact .inl (.lst (.inl q))
 |tuple b=>obtain⟨a,xs,rfl,q,_⟩:=h.tuple s;exact .inl (.tup q)
 |dict b=>
  rcases h with h | ⟨a,rfl,_,h⟩
  ·cases h with
   |scr _=>cases n
   |dK q _=>exact .inl (.dic (s _ _ q))
   |dT q _=>exact .inr ⟨rfl,_,_,rfl,s _ _ q⟩
  ·rcases h with⟨_,q,_⟩ | ⟨_,q,_⟩
   ·exact .inl (.dic q)
   ·exact .inr ⟨rfl,_,_,rfl,q⟩
theorem J4 (hT:T∈ ["int","bool","str","list","tuple","dict"]):PySem.W.kitOne K (.type (Lm d)) (.type T)=some (Di d T):=by
 simp only[NX,OC,Po] at hT
 cases d with
 |dict l=>rcases hT with rfl |rfl |rfl |rfl |rfl |rfl <;> rfl
 |none=>rcases hT with rfl |rfl |rfl |rfl |rfl |rfl <;> rfl
 |bool _=>rcases hT with rfl |rfl |rfl |rfl |rfl |rfl <;> rfl
 |int _=>rcases hT with rfl |rfl |rfl |rfl |rfl |rfl <;> rfl
 |str _=>rcases hT with rfl |rfl |rfl |rfl |rfl |rfl <;> rfl
 |list _=>rcases hT with rfl |rfl |rfl |rfl |rfl |rfl <;> rfl
 |tuple _=>rcases hT with rfl |rfl |rfl |rfl |rfl |rfl <;> rfl
def kq {pos p p2:Pos}(T:String)(hT:T∈ ["int","bool","str","list","tuple","dict"])(hK:X.K=Γ.K)(hg:Gl X "isinstance")(hm:X.mg "isinstance"=none)(hgT:Gl X y)(hmT:X.mg y=none)(hvT:bootBuiltins y=some (.type T))(ha:SE X Γ E a fa La ma)
  (hnT:y≠"__name__":=by decide) (hdT:(y == ("__debug__":Str))=false:=by decide)
  (he:starEach [a,.Name y p2] X.env=(false,eval a X.env) :: starEach [.Name y p2] X.env:=by rfl) (he2:starEach [.Name y p2] X.env=(false,eval (.Name y p2) X.env) :: starEach [] X.env:=by rfl) (hpl:(backTo pos (starEach [.Name y p2] X.env)).any (·.1)=false:=by rfl) :
  SE X Γ E (.Call (.Name "isinstance" p) [a,.Name y p2] [] pos) (f1 fa (iM T)) La .v:=by
 refine PE.post' (i0 DD hg hm (by decide +kernel) (aN ha (aN (Gu hgT hmT hvT (show RelV (.ty T) _ from rfl) hnT hdT) bu he2) he) (by decide) (by decide) he hpl) λσ H Q ⟨env,G,B,β,I,o⟩=>?_
 refine il (r:=λx H1 Q=>LS X.K [x,.ty T] H1 Q) ?_ I o
 intro B G H x dx d Q s hB bx e k
 unfold iM at e
 split at e
 ·cases e
 ·rename_i hn
  cases e
  rw[hK]
  exact⟨x,T,Lm dx,Di dx T,rfl,bx.ty s (by simpa using hn),J4 hT,k _ G H (Ext.refl s) (.bl _)⟩
def j7 (fa fb fc:VF D)(g g':D->D->Option D):VF D:=λvs β=>(fa vs β).bnd λx β1=>(fb vs β1).bnd λy β2=>match g x y with
 |some (.bool true)=>(fc vs β2).bnd λz β3=>R.of (g' y z) β3
 |some (.bool false)=>.ok (.bool false) β2
 |_=>.bad
theorem vJ {pos:Pos}{g g':D->D->Option D}(ho:mM X (compareOp op) r)(ho':mM X (compareOp op') r')(pr:nP Γ.K r g .v)(pr':nP Γ.K r' g' .v)(ha:SE X Γ E a fa [] ma)(hb:SE X Γ E b fb [] mb)(hc:SE X Γ E c fc [] mc)
  (hm:lastMarks [op,op'] [b,c]=false:=by with_unfolding_all rfl):SE X Γ E (.Compare a [op,op'] [b,c] pos) (j7 fa fb fc g g') [] .v:=by
 refine PE.post' (Cz ho ho' ha hb hc hm) λσ H Q ⟨env,G,B,β,I,o⟩=>?_
 refine two (W:=λx y H2=>r x y H2 λz H3=>∃k,z=.bl k/\(if k=true then pT Γ E fc [] mc σ H3 λw' H4=>r' y w' H4 Q else Q (.bl false) H3)) I (o.bnd.imp λd1 β1 h=>h.bnd.imp λd2 β2 h x y G2 H2 I2 s2 m2 bx by'=>?_)
 obtain⟨cb,ec,h⟩:∃cb,g d1 d2=some (.bool cb)/\Out Γ E (if cb=true then (fc (vl env) β2).bnd λz β3=>R.of (g' d2 z) β3 else .ok (.bool false) β2) λd β'=>∀v G' H',SR Γ B G' H' σ (bp [] env) β'->ay G G'->i8 B H H'->VO Γ.K B H G' H' .v d v->Q v H':=by
  split at h
  ·rename_i q;exact⟨true,q,by rw[N1 rfl];exact h⟩
  ·rename_i q;exact⟨false,q,by rw[N8 OG];exact h⟩
  ·exact h.elim
 refine pr B G2 H2 x y d1 d2 _ _ I2.sub I2.boxThere bx by' ec λv G' H' x' vo=>?_
 cases vo
 refine⟨cb,rfl,?_⟩
 have I3:=I2.ext x'
 cases cb with
 |false=>rw[N8 OG] at h;exact wC (h _ G' H' I3 (s2.trans x'.gg) (m2.trans (x'.mov B)) (.bl false))
 |true=>
  rw[N1 rfl] at h
  refine wc ⟨env,G',B,β2,I3,h.bnd.imp λd3 β3 h z G4 H4 I4 s4 m4 vz=>?_⟩
  obtain⟨d,e,k⟩:=h.of
  refine pr' B G4 H4 y z d2 d3 d Q I4.sub I4.boxThere (by'.mono (x'.gg.trans s4) ((x'.mov B).trans m4)) (vz.brw I3.boxThere) e λv G5 H5 x5 vo=>?_
  exact k v G5 H5 (I4.ext x5) (((s2.trans x'.gg).trans s4).trans x5.gg) (((m2.trans (x'.mov B)).trans m4).trans (x5.mov B)) vo
end
def fN.u1 (r:fN k A):A.units + 100 < cLine:=by have:=r.un;omega
def Nz (N:List Str)(sc:Scope)(NB:List Str)(own:Nat)(ixs:List Nat)(scope:Scope):Bool:=
 decide (scope.kind=.function) && (scope.names.all λy=>decide (y.2≠.cell)) && (scope.names.all λy=>decide (scope.names.lookup y.1=some y.2)) &&
 (scope.names.all λy=>decide (y.2=.free->(sc.names.lookup y.1=some .cell\/sc.names.lookup y.1=some .free))) && decide NB.Nodup && decide (NB.length=own + ixs.length) &&
 ((List.range ixs.length).all λk=>decide (NB[own + k]? =N[ixs.getD k 0]?) && (match NB[own + k]? with |some x=>decide ((x,NameKind.free)∈scope.names) |none=>true))
def b7 {X:Cx}{own:Nat}(h:Nz X.N X.env.scope NB own ixs scope=true):dG X NB own ixs scope:=by
 unfold Nz at h
 simp only[Om,Ot,Oq,Og] at h
 obtain⟨⟨⟨⟨⟨⟨h1,h2⟩,h3⟩,h4⟩,h5⟩,h6⟩,h7⟩:=h
 refine⟨h1,h2,h3,h4,h5,h6,λk hk=>⟨(h7 k hk).1,λx hx=>?_⟩⟩
 have:=(h7 k hk).2
 rw[hx] at this
 simpa using this
section
variable {X:Cx}{Γ:Fx}{E:XK}{e a b c:Expr}{f fa fb fc:VF D}{L La Lb:List Nat}{md ma mb mc:Md}{pos:Pos}{K:Frag}
theorem IL (bx:l7 K B G H x dx)(s:ay G H):decide (x=.non)=AI dx:=by
 cases dx with
 |none=>obtain rfl:=bx.none;rfl
 |bool b=>obtain rfl:=bx.bool;rfl
 |int b=>obtain rfl:=bx.int;rfl
 |str b=>obtain rfl:=bx.str;rfl
 |list b=>obtain⟨a,xs,rfl,_⟩:=bx.list s;rfl
 |tuple b=>obtain⟨a,xs,rfl,_⟩:=bx.tuple s;rfl
 |dict b=>
  rcases bx with bx | ⟨a,rfl,_⟩
  ·cases bx <;> rfl
  ·rfl
def tN (fa:VF D)(neg:Bool):VF Bool:=λvs β=>(fa vs β).bnd λx β1=>.ok (if neg then !AI x else AI x) β1
def Fu {j pos'}(ha:SE X Γ E a fa La ma):AZ X Γ E (.Compare a [.IsNot] [.Constant .none j pos'] pos) (tN fa true) La:=by
 refine PT.post (I0 (E8 ha)) λσ H Q ⟨env,G,B,β,I,o⟩=>?_
 refine⟨env,G,B,β,I,o.bnd.imp λd1 β1 h x G1 H1 I1 s1 m1 vx=>?_⟩
 refine⟨!AI d1,?_,h G1 H1 I1 s1 m1⟩
 rw[IL (vx.brw I.boxThere) I1.sub]
def oT (Γ:Fx)(E:XK)(f:VF (Option Int))(L:List Nat):TO:=λσ H Q=>∃env G B β,SR Γ B G H σ env β/\
 Out Γ E (f (vl env) β) λd β'=>∀G' H',SR Γ B G' H' σ (bp L env) β'->ay G G'->i8 B H H'->Q d H'
def L4 (X:Cx)(Γ:Fx)(E:XK)(e:Option Expr)(f:VF (Option Int))(L:List Nat):Prop:=PO X e (oT Γ E f L)
def tK:L4 X Γ E none (λ_ β=>.ok none β) []:=λpins s σ H Q I ⟨env,G,B,β,J,o⟩=>EF pins s σ H Q I (o G H J (ay.refl _) (i8.refl _ _))
def DL (fa:VF D):VF (Option Int):=λvs β=>(fa vs β).bnd λx β1=>match x with
 | .int i=>.ok (some i) β1
 |_=>.bad
theorem uN (ha:SE X Γ E a fa La ma):L4 X Γ E (some a) (DL fa) La:=λpins s σ H Q I ⟨env,G,B,β,J,o⟩=>by
 refine Fe ha pins s σ H Q I ⟨env,G,B,β,J,o.bnd.imp λd1 β1 h x G1 H1 I1 s1 m1 vx=>?_⟩
 cases d1 with
 |int i=>exact⟨i,(vx.brw J.boxThere).int,h G1 H1 I1 s1 m1⟩
 |_=>exact h.elim
def cutD (xs:List D)(lo hi:Option Int):List D:=(xs.drop (HT.sO xs.length 0 lo)).take (HT.sO xs.length xs.length hi - HT.sO xs.length 0 lo)
def Fp (r:cg K G xs ds)(lo hi:Option Int):cg K G (yu xs lo hi) (cutD ds lo hi):=by
 unfold yu cutD
 rw[r.len]
 exact (r.drop _).take _
def CA (fa:VF D)(fl fh:VF (Option Int)):VF D:=λvs β=>(fa vs β).bnd λx β1=>(fl vs β1).bnd λl β2=>(fh vs β2).bnd λh β3=>match x with
 | .list ds=>.ok (.list (cutD ds l h)) β3
 |_=>.bad
theorem qe {lo hi:Option Expr}{fl fh:VF (Option Int)}{Ll Lh:List Nat}{p2:Pos}(hK:X.K=Γ.K)(ha:SE X Γ E a fa La ma)(hl:L4 X Γ E lo fl Ll)(hh:L4 X Γ E hi fh Lh):SE X Γ E (.Subscript a (.Slice lo hi none p2) pos) (CA fa fl fh) (La ++ Ll ++ Lh) .w:=by
 refine PE.post' (DN FY ha hl hh) λσ H Q ⟨env,G,B,β,I,o⟩=>?_
 refine⟨env,G,B,β,I,o.bnd.imp λd1 β1 h x G1 H1 I1 s1 m1 vx=>⟨bp La env,G1,B,β1,I1,?_⟩⟩
 rw[gy]
 refine h.bnd.imp λl β2 h G2 H2 I2 s2 m2=>⟨bp Ll (bp La env),G2,B,β2,I2,?_⟩
 rw[gy,gy]
 refine h.bnd.imp λu β3 h G3 H3 I3 s3 m3=>?_
 rw[<-cE,<-cE,<-Pz] at I3
 have bx:=((vx.brw I.boxThere).mono s2 m2).mono s3 m3
 cases d1 with
 |list ds=>
  obtain⟨p,xs,rfl,hq,r⟩:=bx.list I3.sub
  rw[hK]
  refine⟨p,xs,rfl,.inl hq,λq hn=>?_⟩
  have x:=Ext.own I3.sub (o:=.lst (yu xs l u)) hn
  exact h _ _ _ (I3.ext x) ((s1.trans s2).trans s3) (((m1.trans m2).trans m3).trans (x.mov B)) ⟨q,rfl,gm ((m1.trans m2).trans m3) I3.boxThere hn,I3.sub.free hn,_,aA,Fp r l u⟩
 |_=>exact h.elim
def ID:nP K (λx y H Q=>∃i j,[x,y]= [.int i,.int j]/\Q (.int (if j > i then j else i)) H) (xt λi j=>.int (if j > i then j else i)) .v:=by
 intro B G H x y dx dy d Q s hB bx by' e k
 obtain⟨i,j,rfl,rfl,rfl⟩:=ll e
 obtain rfl:=bx.int
 obtain rfl:=by'.int
 exact⟨i,j,rfl,k _ G H (Ext.refl s) (.int _)⟩
def Ji:nP K (λx y H Q=>∃i j,[x,y]= [.int i,.int j]/\Q (.int (if j < i then j else i)) H) (xt λi j=>.int (if j < i then j else i)) .v:=by
 intro B G H x y dx dy d Q s hB bx by' e k
 obtain⟨i,j,rfl,rfl,rfl⟩:=ll e
 obtain rfl:=bx.int
 obtain rfl:=by'.int
 exact⟨i,j,rfl,k _ G H (Ext.refl s) (.int _)⟩
end
structure iw (K:Frag)(mg:Str->Option Value)(x:Str)(st:Stmt)(ps:List Str)(f:Addr)(fd:FuncData):Prop where
 mg:mg x=some (.ref f)
 F:Es K x x st f fd
 b:Binds K fd ps []
structure Exc (K:Frag)(mg:Str->Option Value)(ca:Str->Addr)(x:Str):Prop where
 mg:mg x=some (.ref (ca x))
 ex:PySem.W.excIn K (ca x) [.type "ValueError",.type "Exception",.type "BaseException",.type "object"] "ValueError.__new__"=true
def Exc.ca {K:Frag}{mg:Str->Option Value}{ca:Str->Addr}{x:Str}(h:Exc K mg ca x):ca x=ca x:=rfl
structure iY (mg:Str->Option Value):Prop where
 len:mg "len"=none
 range:mg "range"=none
 enumerate:mg "enumerate"=none
 zip:mg "zip"=none
 min:mg "min"=none
 max:mg "max"=none
 sum:mg "sum"=none
 abs:mg "abs"=none
 sorted:mg "sorted"=none
 reversed:mg "reversed"=none
 int:mg "int"=none
 str:mg "str"=none
 bool:mg "bool"=none
 list:mg "list"=none
 tuple:mg "tuple"=none
 dict:mg "dict"=none
 set:mg "set"=none
 isinstance:mg "isinstance"=none
 repr:mg "repr"=none
 any:mg "any"=none
 all:mg "all"=none
 divmod:mg "divmod"=none
inductive FB where
 |ok (d:D) (fresh:Bool) (β:Int)
 |bad
def J1 (K:Frag)(n:Nat)(F:List D->Int->FB):Sp:=λvs H Q _=>∃b rest G ds β,vs=.ref b :: rest/\H b=some (.lst [.int β])/\G b=none/\ay G H/\ds.length=n/\cg K G rest ds/\match F ds β with
 | .ok d fr β'=>∀v G' H',i8 (some b) H H'->H' b=some (.lst [.int β'])->ay G G'->ay G' H'->(∀c,Mx H c->G c=none->G' c=none)->FV K H G' H' fr d v->Q v H'
 | .bad=>False
structure uC (P:Program)(w:World)(K:Frag)(mg:Str->Option Value)(base:Heap)(x:Str)(ps:List Str)(k:Nat)(F:List D->Int->FB):Prop where
 ex:∃f fd,mg x=some (.ref f)/\PySem.W.keepIn K (.ref f)=true/\Binds K fd ps []/\fV P w K mg base (r0 P w) k f fd ps (J1 K (ps.length - 1) F)
 len:∀ds β,F ds β≠.bad->ds.length=ps.length - 1
def yr (vs:List Nv)(i:Nat):Bool:=match vs[i]? with
 |some .bx=>true
 |_=>false
def qQ (i:Nat)(F:List D->Int->FB)(fr:VF (List D)):VF D:=λvs β=>if yr vs i=true then (fr vs β).bnd λds β1=>match F ds β1 with
 | .ok d _ β2=>.ok d β2
 | .bad=>.bad else .bad
def M6 (i:Nat)(F:List D->Int->FB)(fr:VF (List D)):VF D:=λvs β=>if yr vs i=true then (fr vs β).bnd λds β1=>match F ds β1 with
 | .ok d true β2=>.ok d β2
 |_=>.bad else .bad
section
variable {X:Cx}{Γ:Fx}{E:XK}{e a b c:Expr}{f fa fb fc:VF D}{L La Lb:List Nat}{md ma mb mc:Md}{pos:Pos}{K:Frag}{es:List Expr}{fr:VF (List D)}
def Fs (h:yr (vl env) i=true):env[i]? =some .bx:=by
 unfold yr at h
 split at h
 ·exact Ky (by assumption)
 ·cases h
def EN {env:En}{i j:Nat}{d:D}(h:(jL env i)[j]? =some (.br d)):env[j]? =some (.br d):=by
 unfold jL at h
 split at h
 ·rename_i d' e
  by_cases z:i=j
  ·subst z
   rw[Oy (N9.mp e).1] at h;cases h
  ·rw[Ou z] at h;exact h
 ·exact h
theorem Jt {L:List Nat}{env:En}{j:Nat}{d:D}(h:(bp L env)[j]? =some (.br d)):env[j]? =some (.br d):=by
 unfold bp at h
 induction L generalizing env with
 |nil=>exact h
 |cons i L ih=>exact EN (ih h)
def SR.calledB (I1:SR Γ (some p) G1 H1 σ env β)(h:i8 (some p) H1 H2)(hp:H2 p=some (.lst [.int β']))(g:ay G1 G2)(s:ay G2 H2)(n:∀b,Mx H1 b->G1 b=none->G2 b=none):SR Γ (some p) G2 H2 σ env β':=by
 obtain⟨b1,b2,b3⟩:=I1.box p rfl
 refine⟨s,I1.old.trans g,λb n1 n2=>n b (I1.thereM n1) (I1.new b n1 n2),λb o e np=>qK (I1.keep b o e np) h λz=>?_,λb hb=>?_,I1.fix,λb e=>?_,I1.len,λi t e=>?_,I1.sep⟩
 ·cases z
  rcases b3 with b3 |b3
  ·exact np b3
  ·rw[e] at b3;cases b3
 ·by_cases z:p=b
  ·subst z;exact Mx.lst hp
  ·exact (I1.pin b hb).same λo q=>h.1 b o q λy=>z (Option.some.inj y)
 ·cases e
  exact⟨hp,n p (Mx.lst b1) b2,b3⟩
 ·have q:=I1.slot i t e
  cases t with
  |no=>trivial
  |fz d=>obtain⟨v,h1,h2⟩:=q;exact⟨v,h1,h2.mono g⟩
  |ow d=>
   obtain⟨c,h1,h2,h3,h4,h5⟩:=q
   exact⟨c,h1,h2,n c h5.mx h3,h4,h5.mono g λo q=>h.1 c o q h4⟩
  |bx=>exact q
  |br d=>obtain⟨b1,c,h1,h4,hpp,h5⟩:=q;exact⟨b1,c,h1,h4,hpp,h5.mono g λo q=>h.1 c o q h4⟩
theorem Gm {F:List D->Int->FB}{ps:List Str}{Q:VK}{i:Nat}(I:SR Γ B G H σ env β)(hK:X.K=Γ.K)(hp:B=some p){wv:Bool}
  (h:Out Γ E (fr (vl env) β) λds β1=>Out Γ E (match F ds β1 with
   | .ok d true β2=>.ok d β2
   | .ok d false β2=>if wv=true then .bad else .ok d β2
   | .bad=>.bad) λd β'=>∀v G' H',SR Γ B G' H' σ (bp L env) β'->ay G G'->i8 B H H'->VO Γ.K B H G' H' (if wv=true then .w else .v) d v->Q v H') (hl:∀ds β,F ds β≠.bad->ds.length=ps.length - 1) :
  aT Γ E fr L σ H λvs H1=>J1 X.K (ps.length - 1) F (.ref p :: vs) H1 Q E:=by
 subst hp
 refine⟨env,G,_,β,I,h.imp λds β1 k vs G1 H1 I1 s1 m1 r=>?_⟩
 obtain⟨b1,b2,b3⟩:=I1.box p rfl
 refine⟨p,vs,G1,ds,β1,rfl,b1,b2,I1.sub,hl ds β1 λz=>by rw[z] at k;exact k,by rw[hK];exact r,?_⟩
 cases q:F ds β1 with
 |bad=>rw[q] at k;exact k
 |ok d fr' β2=>
  rw[q] at k
  intro v G' H' hh hb hg hs hn fv
  have I2:=I1.calledB hh hb hg hs hn
  cases fr' with
  |true=>
   obtain⟨c,rfl,p1,p2,p3⟩:∃a,v=.ref a/\H1 a=none/\G' a=none/\Own X.K G' H' a d:=fv
   rw[hK] at p3
   have hp:=gm m1 I1.boxThere p1
   cases wv with
   |true=>exact k _ G' H' I2 (s1.trans hg) (m1.trans hh) ⟨c,rfl,hp,p2,p3⟩
   |false=>
    obtain⟨q1,q2,q3,q4⟩:=I1.fresh p1
    obtain⟨G3,I3,s3,r3⟩:=I2.letIn q1 p2 q3 q4 p3
    exact k _ G3 H' I3 ((s1.trans hg).trans s3) (m1.trans hh) r3
  |false=>
   cases wv with
   |true=>exact k.elim
   |false=>
    have fv:Rp X.K G' v d:=fv
    rw[hK] at fv
    exact k _ G' H' I2 (s1.trans hg) (m1.trans hh) fv
theorem Ij {F:List D->Int->FB}{ps:List Str}{Q:VK}{i:Nat}{σ:St}{H:Hp}(hK:X.K=Γ.K){wv:Bool}(hl:∀ds β,F ds β≠.bad->ds.length=ps.length - 1)(h:pT Γ E (if wv=true then M6 i F fr else qQ i F fr) L (if wv=true then .w else .v) σ H Q) :
  Fb i σ H λx H1=>aT Γ E fr L σ H1 λvs H2=>J1 X.K (ps.length - 1) F (x :: vs) H2 Q E:=by
 obtain⟨env,G,B,β,I,o⟩:=h
 have hi:yr (vl env) i=true:=by
  by_cases hi:yr (vl env) i=true
  ·exact hi
  ·exfalso
   cases wv with
   |true=>simp only[O7] at o;unfold M6 at o;rw[N8 hi] at o;exact o
   |false=>simp only[Oj,OR] at o;unfold qQ at o;rw[N8 hi] at o;exact o
 obtain⟨p,e1,e2⟩:=I.slot i _ (Fs hi)
 refine⟨.ref p,e1,Gm (i:=i) (ps:=ps) I hK e2 (wv:=wv) ?_ hl⟩
 cases wv with
 |true=>
  simp only[O7] at o ⊢
  unfold M6 at o
  rw[N1 hi] at o
  refine o.bnd.imp λds β1 h=>?_
  cases q:F ds β1 with
  |bad=>rw[q] at h;exact h
  |ok d b β2=>rw[q] at h;cases b <;> exact h
 |false=>
  simp only[Oj,OR] at o ⊢
  unfold qQ at o
  rw[N1 hi] at o
  refine o.bnd.imp λds β1 h=>?_
  cases q:F ds β1 with
  |bad=>rw[q] at h;exact h
  |ok d b β2=>rw[q] at h;cases b <;> exact h
def vF {x y:Str}{ps:List Str}{k:Nat}{F:List D->Int->FB}{p np:Pos}(i:Nat)(hf:uC X.prog X.w X.K X.mg X.base x ps k F)(hr:fN k X.A)(hx:Passes (r0 X.prog X.w) X E)(hK:X.K=Γ.K)(hg:Gl X x)(ha:SA X Γ E es fr L)(hN:X.N[i]? =some y:=by rfl)(hv:AL X.env.scope y:=by first |exact Or.inl rfl |exact Or.inr (Or.inl rfl) |exact Or.inr (Or.inr rfl))(hd:(y == ("__debug__":Str))=false:=by decide)
  (hcd:(y == ("__classdict__":Str))=false:=by decide) (hdb:(x == ("__debug__":Str))=false:=by decide)
  (he:starEach (.Name y np :: es) X.env=(false,eval (.Name y np) X.env) :: starEach es X.env:=by rfl) (hpl:(backTo pos (starEach es X.env)).any (·.1)=false:=by rfl):SE X Γ E (.Call (.Name x p) (.Name y np :: es) [] pos) (qQ i F fr) L .v:=by
 obtain⟨f,fd,hm,hk,hb,hF⟩:=hf.ex
 refine PE.post' (nH (dvs:=[]) hF hr hg hm hk hb .nil hx (aN (ju hN hv hd hcd) ha he) hdb he hpl) λσ H Q h=>?_
 have:=Ij (Q:=Q) (wv:=false) (ps:=ps) hK hf.len (by simpa using h)
 show Fb i σ H λx H1=>aT Γ E fr L σ H1 λvs H2=>J1 X.K (ps.length - 1) F ((x :: vs) ++ []) H2 Q E
 simpa using this
def C4:D->Option Int
 | .list [.int z]=>some z
 |_=>none
def Fg (h:C4 d=some z):d=.list [.int z]:=by
 unfold C4 at h
 split at h
 ·cases h;rfl
 ·cases h
def L9 (f0:VF D)(F:List D->Int->FB)(n:Int):VF D:=λvs β=>(f0 vs β).bnd λd0 β1=>match C4 d0 with
 |some z=>(match F [.int n] z with
  | .ok d _ _=>.ok d β1
  | .bad=>.bad)
 |none=>.bad
theorem Kr {x:Str}{ps:List Str}{k:Nat}{F:List D->Int->FB}{p cp:Pos}{n:Int}{j}(hf:uC X.prog X.w X.K X.mg X.base x ps k F)(hr:fN k X.A)(hx:Passes (r0 X.prog X.w) X E)(hK:X.K=Γ.K)(hg:Gl X x)(h0:SE X Γ E a fa La .w)(hdb:(x == ("__debug__":Str))=false:=by decide)
  (he:starEach [a,.Constant (.int n) j cp] X.env=(false,eval a X.env) :: starEach [.Constant (.int n) j cp] X.env:=by rfl) (he2:starEach [.Constant (.int n) j cp] X.env=(false,eval (.Constant (.int n) j cp) X.env) :: starEach [] X.env:=by rfl) (hpl:(backTo pos (starEach [.Constant (.int n) j cp] X.env)).any (·.1)=false:=by rfl):SE X Γ E (.Call (.Name x p) [a,.Constant (.int n) j cp] [] pos) (L9 fa F n) La .v:=by
 obtain⟨f,fd,hm,hk,hb,hF⟩:=hf.ex
 refine PE.post' (nH (dvs:=[]) hF hr hg hm hk hb .nil hx (aN h0 (aN uo bu he2) he) hdb he hpl) λσ H Q ⟨env,G,B,β,I,o⟩=>?_
 show pT Γ E fa La .w σ H λx H1=>J1 X.K (ps.length - 1) F ([x,.int n] ++ []) H1 Q E
 refine⟨env,G,B,β,I,o.bnd.imp λd0 β1 h x G1 H1 I1 s1 m1 vx=>?_⟩
 obtain⟨c,rfl,c1,c2,c3⟩:=vx
 cases q:C4 d0 with
 |none=>rw[q] at h;exact h.elim
 |some z=>
  rw[q] at h
  obtain rfl:=Fg q
  obtain⟨xs,c3,rx⟩:=c3
  obtain⟨q1,q2,q3,q4⟩:=I.fresh c1
  have hx2:H1 c=some (.lst [.int z]):=by
   cases rx with
   |cons r1 r2=>
    cases r1
    cases r2
    exact c3
  refine⟨c,[.int n],G1,[.int n],z,rfl,hx2,c2,I1.sub,hf.len [.int n] z λy=>?_,.cons (.int n) .nil,?_⟩
  ·dsimp only at h;rw[y] at h;exact h
  cases qF:F [.int n] z with
  |bad=>dsimp only at h;rw[qF] at h;exact h
  |ok d fr' β2=>
   dsimp only at h
   rw[qF] at h
   intro v G' H' hh hb' hg' hs hn fv
   have I2:SR Γ B G' H' σ (bp La env) β1:=by
    refine⟨hs,I1.old.trans hg',λb n1 n2=>hn b (I1.thereM n1) (I1.new b n1 n2),λb o e np=>qK (I1.keep b o e np) hh λz=>?_,λb hb=>?_,I1.fix,λb e=>?_,I1.len,λi t e=>?_,I1.sep⟩
    ·cases z;rw[q1] at e;cases e
    ·by_cases z:c=b
     ·subst z;exact Mx.lst hb'
     ·exact (I1.pin b hb).same λo qq=>hh.1 b o qq λy=>z (Option.some.inj y)
    ·obtain⟨b1,b2,b3⟩:=I1.box b e
     have bc:b≠c:=λz=>q3 (by rw[<-z];exact e)
     exact⟨hh.1 b _ b1 λy=>bc (Option.some.inj y).symm,hn b (Mx.lst b1) b2,b3⟩
    ·have w:=I1.slot i t e
     cases t with
     |no=>trivial
     |fz d=>obtain⟨v,h1,h2⟩:=w;exact⟨v,h1,h2.mono hg'⟩
     |ow d=>
      obtain⟨a',h1,h2,h3,h4,h5⟩:=w
      have ac:a'≠c:=λz=>q4 i d (uU e) (by rw[<-z];exact h1)
      exact⟨a',h1,h2,hn a' h5.mx h3,h4,h5.mono hg' λo q=>hh.1 a' o q λy=>ac (Option.some.inj y).symm⟩
     |bx=>exact w
     |br d=>
      obtain⟨b1,a',h1,h4,hpp,h5⟩:=w
      have e0:env[i]? =some (.br d):=Jt e
      obtain⟨_,a2,g1,_,_,g5⟩:=I.slot i _ e0
      rw[h1] at g1;cases g1
      obtain⟨o,ho⟩:=g5.obj
      have ac:a'≠c:=aK ho c1
      exact⟨b1,a',h1,h4,hpp,h5.mono hg' λo q=>hh.1 a' o q λy=>ac (Option.some.inj y).symm⟩
   have m2:i8 B H H':=⟨λb o e nb=>qK (m1.1 b o e nb) hh λy=>(by cases y;rw[c1] at e;cases e),λb o u e=>hh.2 b o u (m1.2 b o u e)⟩
   cases fr' with
   |true=>
    obtain⟨c',rfl,p1,p2,p3⟩:∃a,v=.ref a/\H1 a=none/\G' a=none/\Own X.K G' H' a d:=fv
    rw[hK] at p3
    obtain⟨w1,w2,w3,w4⟩:=I1.fresh p1
    obtain⟨G3,I3,s3,r3⟩:=I2.letIn w1 p2 w3 w4 p3
    exact h _ G3 H' I3 ((s1.trans hg').trans s3) m2 r3
   |false=>
    have fv:Rp X.K G' v d:=fv
    rw[hK] at fv
    exact h _ G' H' I2 (s1.trans hg') m2 fv
end
section
variable {P:Program}{w:World}{K:Frag}{mg:Str->Option Value}{base:Heap}{ca:Str->Addr}
def Ga:SO->FB
 | .nx _ β=>.ok .none false β
 | .rt d fr β=>.ok d fr β
 |_=>.bad
def xH (n:Nat)(ds:List D):En:=.bx :: ds.map Sl.fz ++ List.replicate (n - 1 - ds.length) .no
def xm (n p:Nat)(m:SF):List D->Int->FB:=λds β=>if ds.length=p then Ga (m (xH n ds) β) else .bad
abbrev Fx.fb (K:Frag)(H G:Hp)(ca:Str->Addr)(b:Addr):Fx:=⟨K,H,G,[b],ca,λ_=>false,some b⟩
def SR.startB {b:Addr}(s:ay G H)(hb:H b=some (.lst [.int β]))(gb:G b=none)(r:cg K G vs ds)(hn:ds.length + 1<=N.length):SR (Fx.fb K H G ca b) (some b) G H (L2.start N (.ref b :: vs)) (xH N.length ds) β:=by
 have hl:=r.len
 refine⟨s,ay.refl _,λc _ h=>h,λc o h _=>Kt.of h,λc h=>?_,λc h=>h,λc h=>?_,?_,λi t e=>?_,λi j a d e h=>?_⟩
 ·have:c=b:=by simpa using h
  subst this;exact Mx.lst hb
 ·cases h;exact⟨hb,gb,.inl (by simp)⟩
 ·unfold L2.start xH;simp;omega
 ·cases i with
  |zero=>
   unfold xH at e
   cases e
   exact⟨b,rfl,rfl⟩
  |succ i=>
   unfold xH at e
   have e:(ds.map Sl.fz ++ List.replicate (N.length - 1 - ds.length) Sl.no)[i]? =some t:=by simpa using e
   by_cases hi:i < ds.length
   ·rw[OU (by simpa using hi),Oa,NW hi] at e
    cases e
    obtain⟨x,hx,rx⟩:=r.at (NW hi)
    refine⟨x,?_,rx⟩
    unfold L2.start
    have hi':i < vs.length:=by rw[hl];exact hi
    rw[OU (by simp;exact hi'),Oa,List.getElem?_cons_succ,hx];rfl
   ·rw[OK (by simpa using hi),PL] at e
    split at e
    ·cases e;trivial
    ·cases e
 ·unfold xH at h
  have hm:=Ob h
  rcases NX.mp hm with z |hm
  ·cases z
  rcases Of.mp hm with z |z
  ·obtain⟨_,_,z⟩:=N7.mp z;cases z
  ·have:=Q7 z;cases this
def vK {st:Stmt}{f:Addr}{k:Nat}{m:SF}(F:Es K x qual st f fd)(S:aG N ps (ar st))(hp:1<=ps.length)
  (hbody:∀(cdv:Value) (A:Around) (outer:List Env) (s:Shared) (H G:Hp) (b:Addr) (E:XK),fN k (A.deeper (envOfC qual (ar st) s.heap.objs.size f cdv))->Ep (rP (r0 P w) P w K mg base N qual (ar st) f cdv A outer s H E) (Fx.fb K H G ca b) E (dg st) m) :
  fV P w K mg base (r0 P w) (k + 1) f fd ps (J1 K (ps.length - 1) (xm N.length (ps.length - 1) m)):=by
 have hpn:ps.length<=N.length:=by have:=congrArg List.length S.pre;rw[OX] at this;omega
 refine F.BP S (λvs H Q E h=>?_) (λcdv A outer s H vs Q E hr h=>?_)
 ·obtain⟨b,rest,G,ds,β,rfl,hb,gb,sG,hl,r,_⟩:=h
  rw[Ol,r.len];omega
 ·obtain⟨b,rest,G,ds,β,rfl,hb,gb,sG,hl,r,h⟩:=h
  refine⟨_,hbody cdv A outer s H G b E hr,?_⟩
  have I:=SR.startB (ca:=ca) (N:=N) sG hb gb r (by omega)
  refine⟨_,G,some b,β,I,?_⟩
  unfold xm at h
  rw[N1 hl] at h
  have fin':∀{B G' H' σ env β},SR (Fx.fb K H G ca b) B G' H' σ env β->i8 (some b) H H'/\H' b=some (.lst [.int β]):=λJ=>by
   have e:=J.fix b rfl
   have k:∀c o,H c=some o->some b≠some c->Kt _ c o:=λc o ec n=>J.keep c o ec λz=>n (show some b=some c by rw[show c=b by simpa using z])
   exact⟨⟨k,λc o u ec=>k c _ ec λz=>by cases z;rw[hb] at ec;cases ec⟩,(J.box b e).1⟩
  cases q:m (xH N.length ds) β with
  |nx env β'=>rw[q] at h;exact λB G' H' σ J s'=>h .non G' H' (fin' J).1 (fin' J).2 s' J.sub (λc h1 h2=>J.new c h1 h2) Rp.non
  |bk env β'=>rw[q] at h;exact h.elim
  |ct env β'=>rw[q] at h;exact h.elim
  |rt d fr β'=>
   rw[q] at h
   refine λB G' H' σ env v J s' rv=>h v G' H' (fin' J).1 (fin' J).2 s' J.sub (λc h1 h2=>J.new c h1 h2) ?_
   cases fr with
   |true=>exact rv
   |false=>exact rv
  |exc c=>rw[q] at h;exact h.elim
  |bad=>rw[q] at h;exact h.elim
def vG (ds:List D)(β:Int)(h:xm n p m ds β≠.bad):ds.length=p:=by
 unfold xm at h
 by_cases hl:ds.length=p
 ·exact hl
 ·rw[N8 hl] at h;exact absurd rfl h
end
def aU (p:Pr):D:=.tuple [.int p.1,.int p.2]
def qu:D->Option Pr
 | .tuple [.int a,.int b]=>some (a,b)
 |_=>none
def vj (h:qu d=some p):d=aU p:=by
 unfold qu at h
 split at h
 ·cases h;rfl
 ·cases h
def Bv (p:Pr):qu (aU p)=some p:=rfl
def fY:List D->Option (List Pr)
 | []=>some []
 |d :: ds=>match qu d,fY ds with
  |some p,some ps=>some (p :: ps)
  |_,_=>none
theorem jJ:∀{ds:List D} {ps:List Pr},fY ds=some ps->ds=ps.map aU
 | [],ps,h=>by cases h;rfl
 |d :: ds,ps,h=>by
  unfold fY at h
  split at h
  ·rename_i p qs h1 h2;cases h;rw[vj h1,jJ h2];rfl
  ·cases h
theorem fR:∀ps:List Pr,fY (ps.map aU)=some ps
 | []=>rfl
 |p :: ps=>by
  show (match qu (aU p),fY (ps.map aU) with
   |some p,some ps=>some (p :: ps)
   |_,_=>none)=_
  rw[Bv,fR ps]
section
variable {K:Frag}{X:Cx}{G H:Hp}
theorem cg.pairs:∀{ps:List Pr} {xs:List V},cg K G xs (ps.map aU)->aY K G xs ps
 | [],_,.nil=>.nil
 |p :: ps,_,.cons r t=>by
  cases r with
  |tup hq r=>
   cases r with
   |cons r1 r=>
    cases r with
    |cons r2 r=>cases r;cases r1;cases r2;exact .cons ⟨_,rfl,hq⟩ (cg.pairs t)
theorem aY.rps:∀{ps:List Pr} {xs:List V},aY K G xs ps->cg K G xs (ps.map aU)
 | [],_,.nil=>.nil
 |p :: ps,_,.cons r t=>by
  obtain⟨a,rfl,q⟩:=r
  exact .cons (.tup q (.cons (.int _) (.cons (.int _) .nil))) (aY.rps t)
def J3 (p:Pr):Bool:=decide (0<=p.1) && decide (p.1 < 8) && decide (0<=p.2) && decide (p.2 < 8)
def Eh (h:J3 p=true):Sm p:=by
 unfold J3 at h
 simp only[Om,Oq] at h
 exact⟨⟨h.1.1.1,h.1.1.2⟩,h.1.2,h.2⟩
noncomputable def cY (d:D):Option D:=match hG d with
 |some ds=>(match fY ds with
  |some ps=>if ps.all J3=true/\(OM.cw 8 (OM.Mem ps)).length < 64 then some (.list ((OM.cw 8 (OM.Mem ps)).map aU)) else none
  |none=>none)
 |none=>none
variable {Γ:Fx}{E:XK}{e a b c:Expr}{f fa fb fc:VF D}{L La Lb:List Nat}{md ma mb mc:Md}{pos:Pos}
theorem pU {p1 p2 pos2:Pos}(hc:X.calm=true)(hu:X.A.units + 64 < cLine)(hK:X.K=Γ.K)(hg:Gl X "sorted")(hm:X.mg "sorted"=none)(hg2:Gl X "set")(hm2:X.mg "set"=none)(ha:SE X Γ E a fa La ma)
  (he:starEach [a] X.env=(false,eval a X.env) :: starEach [] X.env:=by rfl)
  (he2:starEach [.Call (.Name "set" p2) [a] [] pos2] X.env=(false,eval (.Call (.Name "set" p2) [a] [] pos2) X.env) :: starEach [] X.env:=by rfl) :
  SE X Γ E (.Call (.Name "sorted" p1) [.Call (.Name "set" p2) [a] [] pos2] [] pos) (f1 fa cY) La .w:=by
 refine PE.post' (i0 (uW hc) hg hm (by decide +kernel) (aN (fZ (Cf hc hu) hg2 hm2 (by decide +kernel) (aN ha bu he) (by decide) (by decide) he) bu he2) (by decide) (by decide) he2) λσ H Q ⟨env,G,B,β,I,o⟩=>?_
 refine il (r:=λx H1 Q=>Ld X.prog X.w X.K [x] H1 λy H2=>wA X.prog X.w X.K [y] H2 Q) ?_ I o
 intro B G H x dx d Q s hB bx e k
 rw[hK]
 unfold cY at e
 cases q:hG dx with
 |none=>rw[q] at e;cases e
 |some ds=>
  rw[q] at e
  dsimp only at e
  cases q2:fY ds with
  |none=>rw[q2] at e;cases e
  |some ps=>
   rw[q2] at e
   dsimp only at e
   split at e
   ·rename_i hh
    obtain⟨h1,h2⟩:=hh
    cases e
    obtain⟨p,xs,rfl,hq,r⟩:=bx.seq q s
    rw[jJ q2] at r
    have pv:=(r.mono s).pairs
    have sm:∀p,p∈ps->Sm p:=λp hp=>Eh (Ot.mp h1 p hp)
    refine⟨p,xs,ps,rfl,hq,pv,sm,λS qs hS hpv nd hm=>?_⟩
    have qsl:qs.length < 64:=by
     have:(pq qs).length<=(OM.cw 8 (OM.Mem ps)).length:=OM.pX nd λx hx=>by
      have hx':=(hm x).mp hx
      have hs:=sm x hx'
      exact OM.bo.mpr ⟨⟨⟨hs.1.1,hs.1.2⟩,hs.2.1,hs.2.2⟩,hx'⟩
     simp only[NZ] at this
     omega
    have xS:=Ext.own s (o:=A1 X.prog X.w S qs) hS
    refine⟨S,qs,rfl,aA,hpv.grow (i3.new hS),λp hp=>sm p ((hm p).mp hp),nd,qsl,λl ws rs hl hpw hr hmem=>?_⟩
    have ers:rs=OM.cw 8 (OM.Mem ps):=OM.gN hr (OM.cX _ _) λx=>by
     rw[hmem x,hm x,OM.bo]
     constructor
     ·intro hx;have hs:=sm x hx;exact⟨⟨⟨hs.1.1,hs.1.2⟩,hs.2.1,hs.2.2⟩,hx⟩
     ·intro hx;exact hx.2
    subst ers
    have hlH:H l=none:=by
     by_cases z:l=S
     ·subst z;exact hS
     ·rw[aC z] at hl;exact hl
    have lS:l≠S:=λz=>by subst z;rw[aA] at hl;cases hl
    have hh:ay H (upd (upd H S (A1 X.prog X.w S qs)) l (.lst ws)):=(ay.new hS).trans (ay.new hl)
    have xx:=Ext.tups s hh
    refine k _ _ _ xx ⟨l,rfl,hlH,?_,ws,aA,?_⟩
    ·unfold lZ
     rw[s.free hlH,aA]
     exact N8 λy=>y
    ·refine aY.rps (Paired.mapP hpw λv p ⟨a,ea,qa⟩=>⟨a,ea,mX (s.trans hh) ?_⟩)
     exact qa.grow (i3.new hl)
   ·cases e
end
section
variable {K:Frag}{X:Cx}{G H:Hp}{Γ:Fx}{E:XK}{e a b c:Expr}{f fa fb fc:VF D}{L La Lb:List Nat}{md ma mb mc:Md}{pos apos cpos np:Pos}
def gO:D->Option D
 | .int n=>if 0<=n/\n<=1000 then some (.list (cU 0 n.toNat)) else none
 |_=>none
def AE (n:Nat):cg K G ((List.range n).map λ(i:Nat)=>V.int (i:Int)) (cU 0 n):=by
 have key:∀l:List Nat,cg K G (l.map λ(i:Nat)=>V.int (i:Int)) (l.map λ(k:Nat)=>int (0 + k)):=by
  intro l
  induction l with
  |nil=>exact .nil
  |cons x l ih=>exact .cons (by show Rp K G (.int (x:Int)) (.int (0 + (x:Int)));rw[Qr];exact .int _) ih
 exact key _
theorem qC {p1 p2 pos2:Pos}(hc:X.calm=true)(hg:Gl X "list")(hm:X.mg "list"=none)(hg2:Gl X "range")(hm2:X.mg "range"=none)(ha:SE X Γ E a fa La ma)
  (he:starEach [a] X.env=(false,eval a X.env) :: starEach [] X.env:=by rfl)
  (he2:starEach [.Call (.Name "range" p2) [a] [] pos2] X.env=(false,eval (.Call (.Name "range" p2) [a] [] pos2) X.env) :: starEach [] X.env:=by rfl) :
  SE X Γ E (.Call (.Name "list" p1) [.Call (.Name "range" p2) [a] [] pos2] [] pos) (f1 fa gO) La .w:=by
 refine PE.post' (fZ (rE hc) hg hm (by decide +kernel) (aN (fZ C6 hg2 hm2 (by decide +kernel) (aN ha bu he) (by decide) (by decide) he) bu he2) (by decide) (by decide) he2) λσ H Q ⟨env,G,B,β,I,o⟩=>?_
 refine il (r:=λx H1 Q=>∃n:Int,[x]= [.int n]/\∀p,H1 p=none->(λ(y:V) (H2:Hp)=>∃(p:Addr) (n:Int),[y]= [V.ref p]/\H2 p=some (.du 0 n)/\0<=n/\n<=1000/\∀l,H2 l=none->Q (.ref l) (upd H2 l (.lst ((List.range n.toNat).map λ(i:Nat)=>V.int (i:Int))))) (V.ref p) (upd H1 p (.du 0 n))) ?_ I o
 intro B G H x dx d Q s hB bx e k
 cases dx with
 |int n=>
  obtain rfl:=bx.int
  simp only[gO] at e
  split at e
  ·rename_i hh
   cases e
   refine⟨n,rfl,λp hp=>⟨p,n,rfl,aA,hh.1,hh.2,λl hl=>?_⟩⟩
   have hlp:l≠p:=λz=>by subst z;rw[aA] at hl;cases hl
   have hlH:H l=none:=by rw[aC hlp] at hl;exact hl
   have x1:=Ext.own s (o:=.du 0 n) hp
   have x2:=Ext.own x1.gh (o:=.lst ((List.range n.toNat).map λ(i:Nat)=>V.int (i:Int))) hl
   exact k _ _ _ (x1.trans x2) ⟨l,rfl,hlH,s.free hlH,_,aA,AE _⟩
  ·cases e
 |_=>cases e
def Gs:D->Option D
 | .int i=>some (.int (if i < 0 then -i else i))
 |_=>none
theorem Ko:BO K (λx H Q=>∃i,[x]= [.int i]/\Q (.int (if i < 0 then -i else i)) H) Gs .v:=by
 intro B G H x dx d Q s hB bx e k
 cases dx with
 |int i=>cases e;obtain rfl:=bx.int;exact⟨i,rfl,k _ G H (Ext.refl s) (.int _)⟩
 |_=>cases e
noncomputable def nU (d:D):Option D:=match d with
 | .list ds=>(match fY ds with
  |some ps=>if ps.all J3=true/\ps.Nodup/\ps.length < 64 then some (.list ((OM.cw 8 (OM.Mem ps)).map aU)) else none
  |none=>none)
 |_=>none
theorem Ex:BO K (λx=>zI K [x]) nU .w:=by
 intro B G H x dx d Q s hB bx e k
 cases dx with
 |list ds=>
  simp only[nU] at e
  cases q2:fY ds with
  |none=>rw[q2] at e;cases e
  |some ps=>
   rw[q2] at e
   dsimp only at e
   split at e
   ·rename_i hh
    obtain⟨h1,h2,h3⟩:=hh
    cases e
    obtain⟨p,xs,rfl,hq,r⟩:=bx.list s
    rw[jJ q2] at r
    have pv:=(r.mono s).pairs
    have sm:∀p,p∈ps->Sm p:=λp hp=>Eh (Ot.mp h1 p hp)
    refine⟨p,xs,ps,rfl,.inl hq,pv,sm,h2,h3,λl ws rs hl hpw hr hmem=>?_⟩
    have ers:rs=OM.cw 8 (OM.Mem ps):=OM.gN hr (OM.cX _ _) λx=>by
     rw[hmem x,OM.bo]
     constructor
     ·intro hx;have hs:=sm x hx;exact⟨⟨⟨hs.1.1,hs.1.2⟩,hs.2.1,hs.2.2⟩,hx⟩
     ·intro hx;exact hx.2
    subst ers
    have hh:ay H (upd H l (.lst ws)):=ay.new hl
    refine k _ _ _ (Ext.tups s hh) ⟨l,rfl,hl,?_,ws,aA,?_⟩
    ·unfold lZ
     rw[s.free hl,aA]
     exact N8 λy=>y
    ·refine aY.rps (Paired.mapP hpw λv p ⟨a,ea,qa⟩=>⟨a,ea,mX (s.trans hh) ?_⟩)
     exact qa.grow (i3.new hl)
   ·cases e
 |_=>cases e
def Bd (ds:List D)(k:D):Option (D×List D):=match k with
 | .int i=>if -(2 ^ 63)<=i/\i < 2 ^ 63 then (match seqIndex? i ds.length with
  |some n=>(match ds[n]? with
   |some d=>some (d,ds.eraseIdx n)
   |none=>none)
  |none=>none) else none
 |_=>none
def kA (i j:Nat)(L:List Nat)(f:VF D):SF:=λenv β=>if o9 env[i]? =true/\o9 env[j]? =true/\i≠j then toS (f (vl env) β) λk β'=>match (bp L env)[j]? with
 |some (.ow (.list es))=>(match Bd es k with
  |some (d,es')=>GN i ((bp L env).set j (.ow (.list es'))) β' λds=>if ds.length < sizeLine then some (ds ++ [d]) else none
  |none=>.bad)
 |_=>.bad else .bad
theorem cg.eraseIdx:∀{xs:List V} {ds:List D} (i:Nat),cg K G xs ds->cg K G (xs.eraseIdx i) (ds.eraseIdx i)
 |_,_,_,.nil=>.nil
 |_,_,0,.cons _ t=>t
 |_,_,i + 1,.cons r t=>.cons r (cg.eraseIdx i t)
theorem BB (i j:Nat){x y:Str}{np2 apos2 cpos2:Pos}(hb:∀j,Γ.br j=false)(he:SE X Γ E e f L md)(hN:X.N[i]? =some x:=by rfl)(hv:AL X.env.scope x:=by first |exact Or.inl rfl |exact Or.inr (Or.inl rfl) |exact Or.inr (Or.inr rfl))(hd:(x == ("__debug__":Str))=false:=by decide)
  (hcd:(x == ("__classdict__":Str))=false:=by decide)
  (hN2:X.N[j]? =some y:=by rfl) (hv2:AL X.env.scope y:=by first |exact Or.inl rfl |exact Or.inr (Or.inl rfl) |exact Or.inr (Or.inr rfl)) (hd2:(y == ("__debug__":Str))=false:=by decide)
  (hcd2:(y == ("__classdict__":Str))=false:=by decide)
  (hbase:attributeBase (.Name x np) "append" X.env (eval (.Name x np) X.env)=eval (.Name x np) X.env:=by rfl)
  (hfew:((backTo cpos (starEach [.Call (.Attribute (.Name y np2) "pop" apos2) [e] [] cpos2] X.env)).all (λx=> !x.1) && (backToKw cpos (keywordEach [] X.env)).all (λx=>x.1.isSome)
   && decide ([Expr.Call (.Attribute (.Name y np2) "pop" apos2) [e] [] cpos2].length + ([]:List Keyword).length + (if ([]:List Keyword).isEmpty then 0 else 1) < 30))=true:=by rfl)
  (hline:(apos.endLine == cpos.line)=true:=by rfl) (hs:starEach [.Call (.Attribute (.Name y np2) "pop" apos2) [e] [] cpos2] X.env=(false,eval (.Call (.Attribute (.Name y np2) "pop" apos2) [e] [] cpos2) X.env) :: starEach [] X.env:=by rfl)
  (hbase2:attributeBase (.Name y np2) "pop" X.env (eval (.Name y np2) X.env)=eval (.Name y np2) X.env:=by rfl)
  (hfew2:((backTo cpos2 (starEach [e] X.env)).all (λx=> !x.1) && (backToKw cpos2 (keywordEach [] X.env)).all (λx=>x.1.isSome)
   && decide ([e].length + ([]:List Keyword).length + (if ([]:List Keyword).isEmpty then 0 else 1) < 30))=true:=by rfl)
  (hline2:(apos2.endLine == cpos2.line)=true:=by rfl) (hs2:starEach [e] X.env=(false,eval e X.env) :: starEach [] X.env:=by rfl)
  (hsw:swapsWith (.Call (.Attribute (.Name x np) "append" apos) [.Call (.Attribute (.Name y np2) "pop" apos2) [e] [] cpos2] [] cpos) none pos.line X.env=pure false:=by rfl) :
  SS X Γ E (.Expr (.Call (.Attribute (.Name x np) "append" apos) [.Call (.Attribute (.Name y np2) "pop" apos2) [e] [] cpos2] [] cpos) pos) (kA i j L f):=by
 refine PS.post (pA (zx Qv PySem.F.slot_list_append PySem.F.type_list_append nM (ju hN hv hd hcd)
  (aN (zx Qv PySem.F.slot_list_pop PySem.F.type_list_pop DQ (ju hN2 hv2 hd2 hcd2) (aN he bu hs2) hbase2 hfew2 hline2 hs2 rfl) bu hs) hbase hfew hline hs rfl) hsw) λN σ H ⟨env,G,B,β,I,o⟩=>?_
 unfold kA at o
 by_cases hO:o9 env[i]? =true/\o9 env[j]? =true/\i≠j
 case neg=>rw[N8 hO] at o;exact o.elim
 rw[N1 hO] at o
 obtain⟨hO1,hO2,hij⟩:=hO
 obtain⟨ds0,q0⟩:=nc hO1
 obtain⟨es0,w0⟩:=nc hO2
 obtain⟨p,h1,_,_,_,xs,h5,_⟩:=I.slot i _ q0
 obtain⟨q,k1,_,_,_,ys,k5,_⟩:=I.slot j _ w0
 refine⟨_,h1,.inl ⟨rfl,xs,.inl (.inl h5)⟩,?_⟩
 refine⟨_,k1,.inl ⟨rfl,ys,.inl (.inl k5)⟩,?_⟩
 refine⟨env,G,B,β,I,dh o λkd β' k v G' H' I' s' m' vo=>?_⟩
 cases ej:(bp L env)[j]? with
 |none=>rw[ej] at k;exact k.elim
 |some sj=>
  rw[ej] at k
  cases sj with
  |ow dj=>
   cases dj with
   |list es=>
    dsimp only at k
    cases ep:Bd es kd with
    |none=>rw[ep] at k;exact k.elim
    |some pr=>
     obtain⟨d,es'⟩:=pr
     rw[ep] at k
     dsimp only at k
     unfold Bd at ep
     cases kd <;> first | (cases ep;done) |skip
     rename_i ii
     dsimp only at ep
     split at ep
     ·rename_i hr
      cases eI:seqIndex? ii es.length with
      |none=>rw[eI] at ep;cases ep
      |some n=>
       rw[eI] at ep
       dsimp only at ep
       cases eD:es[n]? with
       |none=>rw[eD] at ep;cases ep
       |some d0=>
        rw[eD] at ep
        cases ep
        obtain rfl:=(vo.brw I.boxThere).int
        obtain⟨q',g1,_,_,_,zs,g5,g6⟩:=I'.slot j _ ej
        rw[k1] at g1;cases g1
        obtain⟨xv,ex,rx⟩:=g6.at eD
        refine⟨q,zs,ii,n,xv,rfl,rfl,g5,hr.1,hr.2,by rw[g6.len];exact eI,ex,?_⟩
        have I2:=I'.write hb ej k1 (o:=.lst (zs.eraseIdx n)) (d':=.list (es.eraseIdx n)) λH2 e2 s2=>⟨_,e2,g6.eraseIdx n⟩
        obtain⟨ds,fs,eq,eg,k⟩:=pG k
        by_cases hz:ds.length < sizeLine
        case neg=>rw[N8 hz] at eg;cases eg
        rw[N1 hz] at eg
        cases eg
        obtain⟨p',f1,_,_,_,us,f5,f6⟩:=I2.slot i _ eq
        rw[h1] at f1;cases f1
        refine⟨p,us,xv,rfl,rfl,f5,by rw[f6.len];exact hz,?_⟩
        exact k B G' _ σ (I2.write hb eq h1 λH2 e2 s2=>⟨_,e2,f6.snoc rx⟩) s'
     ·cases ep
   |_=>exact k.elim
  |_=>exact k.elim
end
def fk:List D->Int->FB
 | [.int m],β=>if 0 < m/\m < 1073741824 then .ok (.int (β % m)) false (β / m) else .bad
 |_,_=>.bad
def zK (h:fk ds β≠.bad):∃m,ds= [.int m]/\0 < m/\m < 1073741824:=by
 unfold fk at h
 split at h
 ·rename_i m
  by_cases hh:0 < m/\m < 1073741824
  ·exact⟨m,rfl,hh.1,hh.2⟩
  ·rw[N8 hh] at h;exact absurd rfl h
 ·exact absurd rfl h
def uB (h0:0 < m)(h1:m < 1073741824):fk [.int m] β=.ok (.int (β % m)) false (β / m):=N1 ⟨h0,h1⟩
def constsOf:List Expr->Option (List Int)
 | []=>some []
 | .Constant (.int i) _ _ :: es=>(constsOf es).map λr=>i :: r
 |_=>none
def NI (ns:List Int):VF (List D):=λ_ β=>.ok (ns.map int) β
theorem sP {X:Cx}{Γ:Fx}{E:XK}:∀{es:List Expr} {ns:List Int},constsOf es=some ns->SA X Γ E es (NI ns) []
 | [],ns,h=>by
  have e:ns= []:=by unfold constsOf at h;exact (Option.some.inj h).symm
  subst e
  exact ak
 |e :: es,ns,h=>by
  unfold constsOf at h
  split at h
  ·cases ‹_ :: _= []›
  ·next i a b es' heq=>
   cases heq
   cases q:constsOf es with
   |none=>rw[q] at h;cases h
   |some r=>
    rw[q] at h
    have e2:i :: r=ns:=Option.some.inj h
    subst e2
    exact ab aE (sP q) rfl
  ·cases h
section
variable {P:Program}{w:World}{K:Frag}{mg:Str->Option Value}{base:Heap}
def Gv {X:Cx}{px py pos:Pos}{k:Nat}(hN:X.N.Nodup)(hi:X.N[i]? =some x)(hj:X.N[j]? =some y)(hx:X.env.scope.names.lookup x=some .local)(hy:X.env.scope.names.lookup y=some .local)(hc:X.calm=true) :
  PG X (.Tuple [.Name x px,.Name y py] k pos) (EX X.K 2 (qm (l8 i) (qm (l8 j) Fc))):=
 rh hc (dY (di hN hi (Or.inl hx) (Or.inr hx)) (dY (di hN hj (Or.inl hy) (Or.inr hy)) nr))
def Ct {b:Addr}{β m:Int}{H:Hp}{Q:VK}{G:Hp}(hb:H b=some (.lst [.int β]))(s:ay G H)(hp:H p=none)
  (kk:∀v G' H',i8 (some b) H H'->H' b=some (.lst [.int (β / m)])->ay G G'->ay G' H'->(∀c,Mx H c->G c=none->G' c=none)->FV K H G' H' false (.int (β % m)) v->Q v H') (gb:G b=none) :
  Q (.int (β % m)) (upd (upd H p (.tup [.int (β / m),.int (β % m)])) b (.lst [.int (β / m)])):=by
 have hbp:b≠p:=aK hb hp
 refine kk _ G _ ⟨λc o e n=>Kt.of (by rw[aC (λz=>n (by rw[z])),aC (aK e hp)];exact e),λc o u e=>by rw[aC (λz=>by rw[z,hb] at e;cases e),aC (aK e hp)];exact e⟩ aA (ay.refl _) (λc o e=>?_) (λc _ h=>h) (.int _)
 obtain⟨u,eu,_⟩:=(s c o e).some
 exact k7 (k7 (s c o e) (aK eu hp) λx y w=>by rw[hp] at w;cases w) (λz=>by rw[z,gb] at e;cases e) λx y w=>by rw[aC hbp,hb] at w;cases w
end
end L2
namespace L2
open PySem PySem.SeqAt PySem.Spec PyProof.Rows
def uf {M:Model}{A:Around}{E:Value->Shared->Prop}{s:Shared}{β:Type}{b:Nat}(f:Nat->β->Sem (ForInStep β))(I:List Nat->β->Shared->Prop)(Q:β->Shared->Prop)
  (turn:∀x rest b s,I (x :: rest) b s->wpAny M A (f x b) (λr s'=>match r with | .yield b'=>I rest b' s' | .done b'=>Q b' s') E s)
  (fin:∀b s,I [] b s->Q b s) (c:β) (h:I (List.range' 0 b) c s):wpAny M A (forIn [0:b] c f) Q E s:=by
 rw[Std.Legacy.Range.forIn_eq_forIn_range']
 simp only[Std.Legacy.Range.size,Nat.sub_zero,Nat.add_sub_cancel,Nat.div_one]
 exact wpAny_forIn_list f I Q turn fin _ c h
def rK (l:Addr)(items:Array Value)(n:Nat)(dd:Option Addr)(sl:Array (Option Value))(x:Value)(e:Value->Bool)(j:Nat)(hj:j < items.size)
  (hit:e items[j]=true) (hno:∀m (hm:m < items.size),m < j->e items[m]=false) :
  Meets (Builtin.«tuple.index» ⟨[.ref l,x],[]⟩)
   (λA R s=>s.heap.get? l=some {cls:=.type "tuple",dict:=dd,data:=.seq items n,slots:=sl}/\(∀y,y∈items->EqAt A.in1 s y x (e y))/\R (.ok (.ret (.int j s.toks))) {s with toks:=s.toks + 1}):=
 .of_wp λprog w A R s h=>by
  obtain⟨hp,g,d,tk,os⟩:=s;obtain⟨hl,he,h⟩:=h
  wp_walk using wpAny_loadPart' hl,uf _ (λrest b s'=>b.1=none/\s'=⟨hp,g,d,tk,os⟩/\∃i,i<=j/\rest=List.range' i (items.size - i)) _
  case turn=>
   rintro y rest b s' ⟨hb,rfl,i,hi,hr⟩
   obtain⟨m,hm⟩:∃m,items.size - i=m + 1:=⟨items.size - i - 1,by omega⟩
   rw[hm,List.range'_succ] at hr
   obtain⟨rfl,rfl⟩:=List.cons.inj hr
   have hlt:y < items.size:=by omega
   have e1:items[y]? =some items[y]:=by simp[hlt]
   simp only[e1]
   refine NV (he _ (Rh hlt) prog w _ _ ?_)
   by_cases z:y=j
   ·subst z
    rw[hit]
    wp_walk
    exact⟨_,rfl,h⟩
   ·rw[hno y hlt (by omega)]
    wp_walk
    exact⟨rfl,rfl,y + 1,by omega,by congr 1;omega⟩
  case fin=>
   rintro b s' ⟨hb,rfl,i,hi,hr⟩
   obtain⟨m,hm⟩:∃m,items.size - i=m + 1:=⟨items.size - i - 1,by omega⟩
   rw[hm,List.range'_succ] at hr
   cases hr
  case h=>
   exact⟨rfl,rfl,0,OJ _,by rw[Nat.min_self];rfl⟩
section
variable {K:Frag}{X:Cx}{G H:Hp}{Γ:Fx}{E:XK}{e a b c:Expr}{f fa fb fc:VF D}{L La Lb:List Nat}{md ma mb mc:Md}{pos apos cpos np:Pos}
def xU (k:Int):Value->Bool
 | .int i _=>i == k
 |_=>false
theorem mG :∀{ns:List Int} {us:List Value} (i:Nat) (h:i < us.length) (h2:i < ns.length),Vals (ns.map V.int) us->xU k us[i]=(ns[i] == k)
 | [],_,_,_,h2,_=>absurd h2 (Nat.not_lt_zero _)
 |n :: ns,_,0,_,_,.cons r _=>by obtain⟨t,rfl⟩:=r;rfl
 |n :: ns,_,i + 1,h,h2,.cons _ rs=>mG i (Nat.lt_of_succ_lt_succ h) (Nat.lt_of_succ_lt_succ h2) rs
theorem vp (A:Around)(s:Shared):∀{ns:List Int} {us:List Value},Vals (ns.map V.int) us->∀y∈us,EqAt A s y (.int k t) (xU k y)
 | [],_,.nil,y,hy=>by cases hy
 |n :: ns,_,.cons r rs,y,hy=>by
  rcases NX.mp hy with z |z
  ·subst z;obtain⟨t',rfl⟩:=r;exact EqAt.int_int n t' k t
  ·exact vp A s rs y z
def Fl (K:Frag):V->List V->Hp->VK->Prop:=λx vs H Q=>∃(a:Addr) (ns:List Int) (k:Int),x=.ref a/\vs= [.int k]/\fO K H a (ns.map V.int)/\k∈ns/\Q (.int (ns.idxOf k:Nat)) H
def Aw:Kv X "tuple.index" (Fl X.K):=by
 intro pins s σ H x vs v us Q I rx rv h
 obtain⟨a,ns,k,rfl,rfl,hq,hk,q⟩:=h
 cases rx
 obtain⟨u,rfl,ru⟩:=vals1 rv
 obtain⟨t,rfl⟩:=ru
 obtain⟨its,rs,pl,hz⟩:=I.tuple hq
 obtain⟨⟨cls,dd,data,sl⟩,ho,hc,n,hd⟩:=id pl
 simp only at hc hd
 subst hc hd
 have hj:ns.idxOf k < ns.length:=Pp.mpr hk
 have hlen:its.length=ns.length:=by rw[<-rs.length,NZ]
 refine call_meets PySem.F.slot_tuple_index ⟨_,ho,rfl⟩ PySem.F.entry_tuple_index (PySem.F.args_tuple_index_2 _ _)
  (rK a its.toArray n dd sl (.int k t) (xU k) (ns.idxOf k) (by simpa[hlen] using hj) ?_ ?_) ⟨ho,λy hy=>vp _ _ rs y (by simpa using hy),?_⟩
 ·have:=mG (k:=k) (ns.idxOf k) (by omega) hj rs
  simpa[Q8 hj] using this
 ·intro m hm hlt
  have hm':m < ns.length:=by simpa[hlen] using hm
  have hne:ns[m]≠k:=λz=>by
   have:=List.not_of_lt_findIdx (p:=(· == k)) hlt
   simp[z] at this
  have:=mG (k:=k) m (by omega) hm' rs
  rw[beq_eq_false_iff_ne.mpr hne] at this;simpa using this
 ·exact⟨.int (ns.idxOf k:Nat),H,I.tok _,⟨_,rfl⟩,q⟩
def Inv.tupleP (I:Inv X pins σ H s)(h:fO X.K H p xs):s.TypeIs (.ref p) "tuple"/\∀a,Value.ref p=.ref a->∃ob,s.heap.get? a=some ob/\ob.dict=none:=by
 rcases h with h | ⟨o,its,n,hk,hc,hs,hz,r,hd⟩
 ·obtain⟨_,_,_,o,e,c,n,d,hd⟩:=h.ok I.hok
  exact⟨⟨o,e,c⟩,λa z=>by cases z;exact⟨o,e,hd⟩⟩
 ·exact⟨⟨o,I.kIn p o hk,hc⟩,λa z=>by cases z;exact⟨o,I.kIn p o hk,hd⟩⟩
def Mz (K:Frag)(r:V->List V->Hp->VK->Prop)(to:TE)(t:TA):TE:=λσ H Q=>to σ H λx H1=>(∃p xs,x=.ref p/\fO K H1 p xs)/\t σ H1 λxs H2=>r x xs H2 Q
def Ip {o e:Expr}{es:List Expr}{to:TE}{t:TA}{name:Str}{apos cpos:Pos}{id:String}{r:V->List V->Hp->VK->Prop}(slot:Slot "tuple" name id)(hty:typeOf (.builtin id)=pure (.type "method_descriptor"))(hm:Kv X id r)(ho:PE X o to)(ha:PA X (e :: es) t)
  (hbase:attributeBase o name X.env (eval o X.env)=eval o X.env:=by rfl)
  (hfew:((backTo cpos (starEach (e :: es) X.env)).all (λx=> !x.1) && (backToKw cpos (keywordEach [] X.env)).all (λx=>x.1.isSome)
   && decide ((e :: es).length + ([]:List Keyword).length + (if ([]:List Keyword).isEmpty then 0 else 1) < 30))=true:=by rfl)
  (hline:(apos.endLine == cpos.line)=true:=by rfl) (hs:starEach (e :: es) X.env=(false,eval e X.env) :: starEach es X.env:=by rfl) (hplain:(backTo cpos (starEach es X.env)).any (·.1)=false:=by rfl) :
  PE X (.Call (.Attribute o name apos) (e :: es) [] cpos) (Mz X.K r to t):=by
 intro pins s σ H Q I h
 refine wpAny_Call_method_late hbase hfew hline rfl (cR (ho pins s σ H _ I h) λv s1 ⟨x,H1,I1,r1,⟨p,ys,ex,hr⟩,q1⟩=>?_)
 subst ex
 cases r1
 obtain⟨h1,h2⟩:=I1.tupleP hr
 refine⟨"tuple",id,PySem.F.plainAttrs_tuple,slot,hty,h1,h2,?_⟩
 have hA:=ha cpos pins s1 σ H1 _ I1 q1
 rw[hs] at hA ⊢
 refine Calls.callWith_builtin (by show (false || (backTo cpos (starEach es X.env)).any (·.1))=false;rw[hplain] <;> rfl) (Calls.evalArgs_plain ?_)
 exact cR hA λus s2 ⟨vs,H2,I2,r2,q2⟩=>hm pins s2 σ H2 (.ref p) vs (.ref p) us Q I2 rfl r2 q2
def fw:List D->Option (List Int)
 | []=>some []
 | .int i :: ds=>(fw ds).map (i :: ·)
 |_=>none
theorem la:∀{ds:List D} {ns:List Int},fw ds=some ns->ds=ns.map int
 | [],ns,h=>by cases h;rfl
 | .int i :: ds,ns,h=>by
  unfold fw at h
  cases q:fw ds with
  |none=>rw[q] at h;cases h
  |some ms=>rw[q] at h;cases h;rw[la q];rfl
 | .none :: _,_,h=>by cases h
 | .bool _ :: _,_,h=>by cases h
 | .str _ :: _,_,h=>by cases h
 | .list _ :: _,_,h=>by cases h
 | .tuple _ :: _,_,h=>by cases h
 | .dict _ :: _,_,h=>by cases h
theorem c6:∀ns:List Int,fw (ns.map int)=some ns
 | []=>rfl
 |n :: ns=>by show (fw (ns.map int)).map (n :: ·)=_;rw[c6 ns];rfl
theorem rg:∀{ns:List Int} {xs:List V},cg K G xs (ns.map int)->xs=ns.map V.int
 | [],_,.nil=>rfl
 |n :: ns,_,.cons r t=>by cases r;rw[rg t];rfl
def FE (d y:D):Option D:=match d,y with
 | .tuple ds,.int k=>(match fw ds with
  |some ns=>if k∈ns then some (.int (ns.idxOf k:Nat)) else none
  |none=>none)
 |_,_=>none
def zT:D->Bool
 | .tuple _=>true
 |_=>false
def xO (fa fb:VF D):VF D:=λvs β=>(fa vs β).bnd λx β1=>if zT x=true then (fb vs β1).bnd λy β2=>R.of (FE x y) β2 else .bad
theorem wb (hK:X.K=Γ.K)(ha:SE X Γ E a fa La ma)(hb:SE X Γ E b fb Lb mb)
  (hbase:attributeBase a "index" X.env (eval a X.env)=eval a X.env:=by rfl)
  (hfew:((backTo cpos (starEach [b] X.env)).all (λx=> !x.1) && (backToKw cpos (keywordEach [] X.env)).all (λx=>x.1.isSome)
   && decide ([b].length + ([]:List Keyword).length + (if ([]:List Keyword).isEmpty then 0 else 1) < 30))=true:=by rfl)
  (hline:(apos.endLine == cpos.line)=true:=by rfl) (hs:starEach [b] X.env=(false,eval b X.env) :: starEach [] X.env:=by rfl) :
  SE X Γ E (.Call (.Attribute a "index" apos) [b] [] cpos) (xO fa fb) (La ++ Lb) .v:=by
 refine PE.post' (Ip PySem.F.slot_tuple_index PySem.F.type_tuple_index Aw ha (aN hb bu hs) hbase hfew hline hs rfl) λσ H Q ⟨env,G,B,β,I,o⟩=>?_
 refine⟨env,G,B,β,I,o.bnd.imp λd1 β1 h x G1 H1 I1 s1 m1 vx=>?_⟩
 have vx:=vx.brw I.boxThere
 cases d1 with
 |tuple ds=>
  rw[N1 (show zT (.tuple ds)=true from rfl)] at h
  obtain⟨p,xs,rfl,hq,r⟩:=vx.tuple I1.sub
  refine⟨⟨p,xs,rfl,by rw[hK];exact hq⟩,?_⟩
  refine⟨bp La env,G1,B,β1,I1,?_⟩
  rw[gy]
  refine h.bnd.imp λd2 β2 h y G2 H2 I2 s2 m2 vy=>?_
  obtain⟨d,e,k⟩:=h.of
  have vy:=vy.brw I1.boxThere
  cases d2 with
  |int kk=>
   obtain rfl:=vy.int
   simp only[FE] at e
   cases q:fw ds with
   |none=>rw[q] at e;cases e
   |some ns=>
    rw[q] at e
    dsimp only at e
    split at e
    ·rename_i hk
     cases e
     have eds:=la q
     subst eds
     have exs:=rg r
     subst exs
     have hq2:fO X.K H2 p (ns.map V.int):=by
      rw[hK]
      rcases hq with hq |hq
      ·rcases vx with vx | ⟨_,_,_,vx⟩
       ·cases vx with
        |tup g1 r9=>have z9:=rg r9;subst z9;exact (g1.grow (s2.trans I2.sub).grow)
       ·exact vx.elim
      ·exact .inr hq
     exact⟨p,ns,kk,rfl,rfl,hq2,hk,k _ G2 H2 (by rw[cE];exact I2) (s1.trans s2) (m1.trans m2) (.int _)⟩
    ·cases e
  |_=>simp only[FE] at e;cases e
 |_=>exact h.elim
abbrev Fx.at (Γ:Fx)(H0:Hp):Fx:=⟨Γ.K,H0,Γ.G0,Γ.par,Γ.ca,Γ.br,Γ.bx⟩
end
end L2
namespace L2
open PySem
section
variable {α γ:Type}
@[simp] theorem mJ (a:α)(β:Int)(k:α->Int->R γ):(R.ok a β).bnd k=k a β:=rfl
@[simp] theorem Mf (c:Str)(k:α->Int->R γ):(R.exc c:R α).bnd k=.exc c:=rfl
@[simp] theorem LW (k:α->Int->R γ):(R.bad:R α).bnd k=.bad:=rfl
@[simp] theorem Nc (a:α)(β:Int)(k:α->Int->R γ):(R.ok a β).okb k=k a β:=rfl
@[simp] theorem u5 (a:α)(β:Int):R.of (some a) β=.ok a β:=rfl
@[simp] theorem of_none (β:Int):(R.of none β:R α)=.bad:=rfl
@[simp] theorem MC (a:α)(β:Int)(k:α->Int->SO):toS (.ok a β) k=k a β:=rfl
@[simp] theorem L3 (c:Str)(k:α->Int->SO):toS (.exc c:R α) k=.exc c:=rfl
@[simp] theorem Mg (k:α->Int->SO):toS (.bad:R α) k=.bad:=rfl
end
section
variable (f fa fb fc:VF D)(t u:VF Bool)(m m':SF)(vs:List Nv)(β:Int)(env:En)(i j:Nat)(L:List Nat)
@[simp] theorem Hb:gv i vs β=R.of (dat vs[i]?) β:=rfl
@[simp] theorem xW (d:D):dat (some (.da d))=some d:=rfl
@[simp] theorem MF (d:D):cst d vs β=.ok d β:=rfl
@[simp] theorem ND (g:D->Option D):f1 fa g vs β=(fa vs β).bnd λx β1=>R.of (g x) β1:=rfl
@[simp] theorem NJ (g:D->D->Option D):f2 fa fb g vs β=(fa vs β).bnd λx β1=>(fb vs β1).bnd λy β2=>R.of (g x y) β2:=rfl
@[simp] theorem zJ:af vs β=.ok [] β:=rfl
@[simp] theorem dv (fr:VF (List D)):aa fa fr vs β=(fa vs β).bnd λx β1=>(fr vs β1).bnd λxs β2=>.ok (x :: xs) β2:=rfl
@[simp] theorem xF:kU fa vs β=(fa vs β).bnd λx β1=>R.of (JG x) β1:=rfl
@[simp] theorem xK:rk t vs β=(t vs β).bnd λc β1=>.ok (!c) β1:=rfl
@[simp] theorem HP:Iv t u vs β=(t vs β).bnd λc β1=>if c=true then u vs β1 else .ok false β1:=rfl
@[simp] theorem tW:lb t u vs β=(t vs β).bnd λc β1=>if c=true then .ok true β1 else u vs β1:=rfl
@[simp] theorem NG (n:Bool):tN fa n vs β=(fa vs β).bnd λx β1=>.ok (if n then !AI x else AI x) β1:=rfl
@[simp] theorem Ni:NT t fa fb vs β=(t vs β).bnd λc β1=>if c=true then fa vs β1 else fb vs β1:=rfl
@[simp] theorem dA (c:Bool)(h:fa vs β=.ok (.bool c) β1):cB fa vs β=.ok c β1:=by unfold cB;rw[h];rfl
@[simp] theorem yC:vl []= []:=rfl
@[simp] theorem ui (s:Sl):vl (s :: env)=s.val :: vl env:=rfl
@[simp] theorem xT (d:D):(Sl.fz d).val=.da d:=rfl
@[simp] theorem MN (d:D):(Sl.ow d).val=.da d:=rfl
@[simp] theorem M8:Sl.no.val=.no:=rfl
@[simp] theorem MO:Sl.bx.val=.bx:=rfl
@[simp] theorem L8:bp [] env=env:=rfl
@[simp] theorem Lq:bp (i :: L) env=bp L (jL env i):=rfl
@[simp] theorem L0:aH m m' env β=(match m env β with
 | .nx env' β'=>m' env' β'
 |r=>r):=rfl
@[simp] theorem Mj:i9 L t m m' env β=toS (t (vl env) β) λc β'=>if c=true then m (bp L env) β' else m' (bp L env) β':=rfl
@[simp] theorem kB:bF f env β=toS (f (vl env) β) λd β'=>.rt d false β':=rfl
@[simp] theorem ny:lI f env β=toS (f (vl env) β) λd β'=>.rt d true β':=rfl
@[simp] theorem Nl:jT env β=.nx env β:=rfl
@[simp] theorem ij:bS i L f env β=toS (f (vl env) β) λd β'=>.nx ((bp L env).set i (.fz d)) β':=rfl
@[simp] theorem kY:jF i L f env β=toS (f (vl env) β) λd β'=>.nx ((bp L env).set i (.ow d)) β':=rfl
@[simp] theorem nE:jk L f env β=toS (f (vl env) β) λ_ β'=>.nx (bp L env) β':=rfl
end
def aF {m m':SF}{env env':En}{β β':Int}(h:m env β=.nx env' β'):aH m m' env β=m' env' β':=by unfold aH;rw[h]
def lV {m m':SF}{env:En}{β β':Int}(h:m env β=.rt d b β'):aH m m' env β=.rt d b β':=by unfold aH;rw[h]
def l9 {L:List Nat}{t:VF Bool}{m m':SF}{env:En}{β β':Int}(h:t (vl env) β=.ok true β'):i9 L t m m' env β=m (bp L env) β':=by unfold i9;rw[h];rfl
def lJ {L:List Nat}{t:VF Bool}{m m':SF}{env:En}{β β':Int}(h:t (vl env) β=.ok false β'):i9 L t m m' env β=m' (bp L env) β':=by unfold i9;rw[h];rfl
def au {F:List D->FR}{vs:List Nv}{β β1:Int}(h:fr vs β=.ok ds β1)(e:F ds=.ok d b):aq F fr vs β=.ok d β1:=by unfold aq;rw[h];dsimp only[R.bnd];rw[e]
def DB {F:List D->FR}{vs:List Nv}{β β1:Int}(h:fr vs β=.ok ds β1)(e:F ds=.ok d true):vV F fr vs β=.ok d β1:=by unfold vV;rw[h];dsimp only[R.bnd];rw[e]
def cK {fa:VF D}{g:D->Option D}{vs:List Nv}{β β1:Int}(h:fa vs β=.ok x β1)(e:g x=some d):f1 fa g vs β=.ok d β1:=by unfold f1;rw[h];dsimp only[R.bnd];rw[e];rfl
def aI {fa fb:VF D}{g:D->D->Option D}{vs:List Nv}{β β1 β2:Int}(h:fa vs β=.ok x β1)(h':fb vs β1=.ok y β2)(e:g x y=some d):f2 fa fb g vs β=.ok d β2:=by unfold f2;rw[h];dsimp only[R.bnd];rw[h'];dsimp only[R.bnd];rw[e];rfl
def qY {i:Nat}{F:List D->Int->FB}{vs:List Nv}{β β1 β2:Int}(hi:yr vs i=true)(h:fr vs β=.ok ds β1)(e:F ds β1=.ok d b β2):qQ i F fr vs β=.ok d β2:=by unfold qQ;rw[N1 hi,h];dsimp only[R.bnd];rw[e]
def Jw {F:List D->Int->FB}{vs:List Nv}{β β1 z β2:Int}(h:f0 vs β=.ok (.list [.int z]) β1)(e:F [.int n] z=.ok d b β2):L9 f0 F n vs β=.ok d β1:=by unfold L9;rw[h];dsimp only[R.bnd,C4];rw[e]
def sz (n:Nat)(h:n<=1000):n<=sizeLine:=by rw[Oo];omega
def LJ (n:Nat)(h:n<=1000):n < sizeLine:=by rw[Oo];omega
def mZ {vs:List Nv}{β β1:Int}(h:fr vs β=.ok ds β1)(hz:ds.length<=1000):fq fr vs β=.ok (.tuple ds) β1:=by unfold fq;rw[h];exact N1 (sz _ hz)
def iu {vs:List Nv}{β β1:Int}(h:fr vs β=.ok ds β1)(hz:ds.length<=1000):bR fr vs β=.ok (.list ds) β1:=by unfold bR;rw[h];exact N1 (sz _ hz)
def uV {i:Nat}{env:En}{β:Int}{g:List D->Option (List D)}(h:env[i]? =some (.ow (.list ds)))(e:g ds=some es):GN i env β g=.nx (env.set i (.ow (.list es))) β:=by unfold GN;rw[h];dsimp only;rw[e]
def pJ {i:Nat}{L:List Nat}{f:VF D}{env:En}{β β':Int}(hi:env[i]? =some (.ow (.list ds)))(hf:f (vl env) β=.ok d β')(hL:(bp L env)[i]? =some (.ow (.list ds)))(hz:ds.length<=1000):mw i L f env β=.nx ((bp L env).set i (.ow (.list (ds ++ [d])))) β':=by
 unfold mw
 rw[N1 (by rw[hi];rfl),hf]
 exact uV hL (N1 (LJ _ hz))
def xI {i j:Nat}{L:List Nat}{f:VF D}{env:En}{β β':Int}(hi:env[i]? =some (.ow (.list ds)))(hj:env[j]? =some (.ow (.list es)))(hij:i≠j)(hf:f (vl env) β=.ok k β')(hL:bp L env=env)(hp:Bd es k=some (d,es'))(hz:ds.length<=1000):kA i j L f env β=.nx ((env.set j (.ow (.list es'))).set i (.ow (.list (ds ++ [d])))) β':=by
 unfold kA
 rw[N1 ⟨by rw[hi];rfl,by rw[hj];rfl,hij⟩,hf,hL]
 dsimp only[toS]
 rw[hj]
 dsimp only
 rw[hp]
 exact uV (by rw[Ou (Ne.symm hij)];exact hi) (N1 (LJ _ hz))
def v7 {i:Nat}{env:En}{β β1 β2:Int}(he:fe (vl env) β=.ok d β1)(h1:(bp Le env)[i]? =some (.ow (.list ds)))(hi:fi (vl env) β1=.ok (.int k) β2)(h2:(bp (Le ++ Li) env)[i]? =some (.ow (.list ds)))(hk:t6 ds.length k=some n):pR i Le Li fe fi env β=.nx ((bp (Le ++ Li) env).set i (.ow (.list (ds.set n d)))) β2:=by
 unfold pR
 rw[he]
 dsimp only[toS]
 rw[N1 (by rw[h1];rfl),hi]
 exact uV h2 (by dsimp only;rw[hk];rfl)
theorem p8 {t:Tg}{vs:List Nv}(g:D->Bool)(h:D->D):∀{ds:List D} {β:Int},(∀d,d∈ds->∃vs1,oJ t d vs=some vs1/\ft vs1 β=.ok (g d) β/\(g d=true->fe vs1 β=.ok (h d) β))->iJ t ft fe vs ds β=.ok ((ds.filter g).map h) β
 | [],β,_=>rfl
 |d :: ds,β,hh=>by
  obtain⟨vs1,e1,e2,e3⟩:=hh d (N0 ..)
  have ih:=p8 (t:=t) (ft:=ft) (fe:=fe) (vs:=vs) g h (ds:=ds) (β:=β) λd' hd=>hh d' (N5 _ hd)
  unfold iJ
  rw[e1]
  dsimp only
  rw[e2]
  dsimp only[R.okb]
  cases q:g d with
  |true=>
   rw[N1 rfl,e3 q]
   dsimp only
   rw[ih,Qb q];rfl
  |false=>
   rw[N8 OG,ih,Qc (by rw[q];exact OG)]
def xw {own:Nat}{ixs:List Nat}{t:Tg}{ft:VF Bool}{fe:VF D}{vs:List Nv}{β β1:Int}(g:D->Bool)(h:D->D)(hi:fi vs β=.ok ds β1)(hz:ds.length<=1000)
  (hh:∀d,d∈ds->∃vs1,oJ t d (hU own ixs vs)=some vs1/\ft vs1 β1=.ok (g d) β1/\(g d=true->fe vs1 β1=.ok (h d) β1)):aP own ixs t fi ft fe vs β=.ok (.list ((ds.filter g).map h)) β1:=by
 unfold aP
 rw[hi]
 dsimp only[R.bnd]
 rw[N1 (sz _ hz),p8 g h hh];rfl
def sg {own:Nat}{ixs:List Nat}{t:Tg}{fe:VF D}{vs:List Nv}{β β1:Int}(h:D->D)(hi:fi vs β=.ok ds β1)(hz:ds.length<=1000)
  (hh:∀d,d∈ds->∃vs1,oJ t d (hU own ixs vs)=some vs1/\fe vs1 β1=.ok (h d) β1):aP own ixs t fi kL fe vs β=.ok (.list (ds.map h)) β1:=by
 rw[xw (ft:=kL) (λ_=>true) h hi hz λd hd=>let ⟨vs1,e1,e2⟩:=hh d hd;⟨vs1,e1,rfl,λ_=>e2⟩]
 rw[List.filter_eq_self.mpr (λ_ _=>rfl)]
def bI {α:Type}{own:Nat}{ixs:List Nat}{t:Tg}{fi:VF (List D)}{fe:VF D}{vs:List Nv}{β β1:Int}{l:List α}{e:α->D}(h:α->D)(hi:fi vs β=.ok (l.map e) β1)(hz:l.length<=1000)
  (hh:∀x,x∈l->∃vs1,oJ t (e x) (hU own ixs vs)=some vs1/\fe vs1 β1=.ok (h x) β1):aP own ixs t fi kL fe vs β=.ok (.list (l.map h)) β1:=by
 unfold aP
 rw[hi]
 dsimp only[R.bnd]
 rw[N1 (sz _ (by rw[NZ];exact hz))]
 have key:∀m:List α,(∀x,x∈m->x∈l)->iJ t kL fe (hU own ixs vs) (m.map e) β1=.ok (m.map h) β1:=by
  intro m
  induction m with
  |nil=>intro _;rfl
  |cons x m ih=>
   intro hm
   obtain⟨vs1,e1,e2⟩:=hh x (hm x (N0 ..))
   rw[OL]
   unfold iJ
   rw[e1]
   dsimp only
   show (R.ok true β1).okb _=_
   dsimp only[R.okb]
   rw[N1 rfl,e2]
   dsimp only
   rw[ih λy hy=>hm y (N5 _ hy)];rfl
 rw[key l λ_ h=>h];rfl
def dF {α:Type}{own:Nat}{ixs:List Nat}{t:Tg}{fi:VF (List D)}{ft:VF Bool}{fe:VF D}{vs:List Nv}{β β1:Int}{l:List α}{e:α->D}(g:α->Bool)(h:α->D)(hi:fi vs β=.ok (l.map e) β1)(hz:l.length<=1000)
  (hh:∀x,x∈l->∃vs1,oJ t (e x) (hU own ixs vs)=some vs1/\ft vs1 β1=.ok (g x) β1/\(g x=true->fe vs1 β1=.ok (h x) β1)):aP own ixs t fi ft fe vs β=.ok (.list ((l.filter g).map h)) β1:=by
 unfold aP
 rw[hi]
 dsimp only[R.bnd]
 rw[N1 (sz _ (by rw[NZ];exact hz))]
 have key:∀m:List α,(∀x,x∈m->x∈l)->iJ t ft fe (hU own ixs vs) (m.map e) β1=.ok ((m.filter g).map h) β1:=by
  intro m
  induction m with
  |nil=>intro _;rfl
  |cons x m ih=>
   intro hm
   obtain⟨vs1,e1,e2,e3⟩:=hh x (hm x (N0 ..))
   have ih:=ih λy hy=>hm y (N5 _ hy)
   rw[OL]
   unfold iJ
   rw[e1]
   dsimp only
   rw[e2]
   dsimp only[R.okb]
   cases q:g x with
   |true=>
    rw[N1 rfl,e3 q]
    dsimp only
    rw[ih,Qb q];rfl
   |false=>
    rw[N8 OG,ih,Qc (by rw[q];exact OG)]
 rw[key l λ_ h=>h];rfl
theorem fB {t:Tg}{m:SF}(Pv:Nat->En->Int->Prop):∀{ds:List D} {k:Nat} {env:En} {β:Int},Pv k env β->
  (∀i d env β,ds[i]? =some d->Pv (k + i) env β->∃env1,fQ t d env=some env1/\∃env2 β2,m env1 β=.nx env2 β2/\Pv (k + i + 1) env2 β2)->∃env' β',ja t m ds env β=.nx env' β'/\Pv (k + ds.length) env' β'
 | [],k,env,β,h0,_=>⟨env,β,rfl,h0⟩
 |d :: ds,k,env,β,h0,hs=>by
  obtain⟨env1,e1,env2,β2,e2,h1⟩:=hs 0 d env β rfl h0
  obtain⟨env',β',e3,h2⟩:=fB Pv (t:=t) (m:=m) (ds:=ds) (k:=k + 1) h1 λi d' en be hi hp=>by
   have:=hs (i + 1) d' en be (by simpa using hi) (by rw[show k + (i + 1)=k + 1 + i by omega];exact hp)
   rw[show k + (i + 1) + 1=k + 1 + i + 1 by omega] at this
   exact this
  refine⟨env',β',?_,by rw[Ol,show k + (ds.length + 1)=k + 1 + ds.length by omega];exact h2⟩
  unfold ja
  rw[e1]
  dsimp only
  rw[e2]
  exact e3
theorem iV {L:List Nat}{t:VF Bool}{m:SF}(Pv:Nat->En->Int->Prop)(Dn:En->Int->Prop):∀{n k:Nat} {env:En} {β:Int},k < n->Pv k env β->
  (∀k env β,Pv k env β->∃c β1,t (vl env) β=.ok c β1/\((c=false/\Dn (bp L env) β1)\/(c=true/\∃env2 β2 k',m (bp L env) β1=.nx env2 β2/\k' < k/\Pv k' env2 β2)))->∃env' β',i4 L t m n env β=.nx env' β'/\Dn env' β'
 | 0,k,env,β,hk,_,_=>by omega
 |n + 1,k,env,β,hk,h0,hs=>by
  obtain⟨c,β1,e1,hc⟩:=hs k env β h0
  unfold i4
  rw[e1]
  dsimp only[toS]
  rcases hc with⟨rfl,hd⟩ | ⟨rfl,env2,β2,k',e2,hl,h1⟩
  ·exact⟨_,_,rfl,hd⟩
  ·rw[N1 rfl,e2]
   exact iV Pv Dn (n:=n) (k:=k') (by omega) h1 hs
end L2
namespace RM
open PySem L2
def qj:SF:=(bF (fP (f1 (gv 0) (iM "int")) (f1 (f1 (gv 0) (iM "bool")) yk)))
def qg (cc:List D->FR):SF:=(bF (fP (aq cc (aa (gv 0) af)) (j7 (cst (.int 0)) (gv 0) (gv 1) CN xZ)))
def sX (cc:List D->FR):SF:=(bF (fP (aq cc (aa (gv 0) af)) (j7 (cst (.int 1)) (gv 0) (cst (.int 8)) CN CN)))
def sJ (aW:List D->FR):SF:=(aH (i9 ([] ++ ([] ++ [])) (lb (rk (kU (f1 (gv 0) (iM "tuple")))) (cB (f2 (f1 (gv 0) bL) (cst (.int 2)) (cV true))))
 (bF (cst (.bool false)))
 jT)
 (bF (fP (aq aW (aa (f2 (gv 0) (cst (.int 0)) cn) (aa (gv 1) af))) (aq aW (aa (f2 (gv 0) (cst (.int 1)) cn) (aa (gv 1) af))))))
def h9:SF:=(lI (aP 1 [0] (.nm 0) (i6 (f2 (gv 0) (gv 0) fo)) kL (fq (aa (f2 (gv 0) (gv 1) BW) (aa (f2 (gv 0) (gv 1) mq) af)))))
def qX:SF:=(bF (f1 (aP 2 [] (.two 0 1) (bq (gv 0)) kL (f2 (gv 0) (gv 1) (cV false))) (bK λbs=>bs.any id)))
def iR (iC iF jO gu:List D->FR):SF:=(aH (i9 ([] ++ ([] ++ [])) (lb (rk (kU (f1 (gv 0) (iM "tuple")))) (cB (f2 (f1 (gv 0) bL) (cst (.int 2)) (cV true))))
 (bF (cst (.bool false)))
 jT)
 (aH (bS 1 ([] ++ []) (f2 (gv 0) (cst (.int 0)) cn))
 (aH (bS 2 ([] ++ []) (f2 (gv 0) (cst (.int 1)) cn))
 (aH (i9 (([1] ++ []) ++ []) (lb (rk (kU (aq iC (aa (gv 1) af)))) (rk (kU (f1 (gv 2) (iM "tuple")))))
 (bF (cst (.bool false)))
 jT)
 (aH (i9 ([] ++ [1]) (rk (kU (f1 (aP 1 [1] (.nm 0) (bq (gv 2)) kL (aq iF (aa (gv 0) (aa (gv 1) af)))) (bK λbs=>bs.all id))))
 (bF (cst (.bool false)))
 jT)
 (bF (fP (f2 (gv 2) (aq jO (aa (gv 1) (aa (gv 2) af))) (cV false)) (f1 (aq gu (aa (gv 2) af)) yk))))))))
def oP:SF:=(bF (fP (f2 (gv 1) (gv 2) (cV true)) (fP (f2 (fq (aa (gv 1) (aa (gv 2) af))) (f2 (gv 0) (cst (.int 1)) cn) (rV true)) (f2 (fq (aa (gv 2) (aa (gv 1) af))) (f2 (gv 0) (cst (.int 1)) cn) (rV true)))))
def eM (bX:List D->FR):SF:=(aH (jF 2 [] (bR af))
 (aH (cM (.nm 3) [1] (bq (gv 1))
 (cM (.nm 4) ((([] ++ []) ++ []) ++ ([] ++ [])) (oF (f2 (f2 (gv 3) (f1 (cst (.int 1)) xf) cn) (cst (.int 1)) cD) (f2 (gv 0) (cst (.int 0)) cn))
 (i9 ([] ++ [0,4]) (kU (f1 (aP 1 [0,4] (.nm 0) (bq (gv 3)) kL (aq bX (aa (gv 1) (aa (gv 0) (aa (gv 2) af))))) (bK λbs=>bs.all id)))
 (mw 2 ([] ++ ([4] ++ [])) (f2 (gv 3) (bR (aa (gv 4) af)) dH))
 jT)))
 (jP 2)))
def ig (ax cj:List D->FR):SF:=(aH (jk ([0] ++ []) (aq ax (aa (gv 0) af)))
 (aH (bS 1 (([] ++ []) ++ []) (aP 1 [] (.nm 0) (i6 (f2 (gv 0) (cst (.int 0)) cn)) kL (bR (aa (gv 0) af))))
 (aH (bS 2 [1] (gv 1))
 (aH (i4 [] (kU (gv 2))
 (aH (bS 1 [2] (gv 2))
 (bS 2 ([0] ++ ([1] ++ [])) (aq cj (aa (gv 0) (aa (gv 1) af))))) 1000)
 (bF (f2 (gv 1) (cst (.int 0)) cn))))))
def gS:SF:=(aH (i9 ([] ++ []) (cB (f2 (gv 1) (f1 (gv 0) bL) xZ))
 (bF (f2 (gv 0) (gv 1) cn))
 jT)
 (bF (cst (.int 0))))
def jW:SF:=(aH (bS 2 [] (bR (NI [48271,69621,16807,39373,30269,40014,40692,50021,61687,71993,83869,95561,30307]))) (aH (bS 3 ((((([] ++ []) ++ []) ++ ([] ++ ([] ++ []))) ++ ([] ++ [])) ++ ([] ++ ([] ++ []))) (f2 (f2 (f2 (f2 (f2 (gv 0) (cst (.int 2147483647)) mq) (cst (.int 12345)) cD) (f2 (gv 2) (f2 (gv 1) (cst (.int 13)) mq) cn) fo) (f2 (cst (.int 977)) (gv 1) fo) cD) (f2 (cst (.int 7919)) (f2 (gv 1) (cst (.int 13)) BW) fo) cD))
 (aH (bS 3 ([] ++ []) (f2 (gv 3) (cst (.int 1000000007)) mq))
 (bF (f2 (f2 (f2 (f2 (gv 3) (gv 3) fo) (f2 (cst (.int 48271)) (gv 1) fo) cD) (cst (.int 1000000007)) mq) (cst (.int 7)) BW)))))
def kH (eS gj:List D->FR):SF:=(aH (bS 2 ([0] ++ ([1] ++ [])) (aq eS (aa (gv 0) (aa (gv 1) af))))
 (aH (i9 (([] ++ []) ++ []) (cB (f2 (f2 (gv 2) (cst (.int 2)) mq) (cst (.int 0)) (cV false)))
 (lI (bR (aa (f2 (f1 (gv 2) Gs) (cst (.int 2)) BW) af)))
 jT)
 (aH (bS 3 [] (cst (.int 0)))
 (aH (cM (.nm 4) [] (i6 (cst (.int 40)))
 (bS 3 (([] ++ []) ++ ([2] ++ ([4] ++ []))) (f2 (f2 (gv 3) (cst (.int 142857143)) fo) (aq gj (aa (gv 2) (aa (gv 4) af))) cD)))
 (lI (bR (aa (gv 3) af)))))))
def eH (bE:List D->Int->FB):SF:=(aH (jF 2 [] (f1 (gv 1) GQ))
 (aH (jF 3 [] (bR af))
 (aH (i4 ([] ++ []) (cB (f2 (gv 2) (bR af) (cV true)))
 (kA 3 2 ([] ++ []) (qQ 0 bE (aa (f1 (gv 2) bL) af))) 1000)
 (jP 3))))
noncomputable def gG:SF:=(aH (bS 1 [] (f1 (gv 0) cY))
 (aH (bS 2 [] (f1 (cst (.int 1)) xf))
 (aH (i4 ([] ++ []) (cB (f2 (gv 2) (f1 (gv 1) bL) (cV true)))
 (aH (bS 2 [] (f1 (gv 1) bL))
 (aH (bS 3 [] (bR af))
 (aH (cM (.two 4 5) [1] (bq (gv 1))
 (bS 3 ([] ++ ([] ++ [4])) (f2 (gv 3) (aP 2 [5,4] (.two 0 1) (bq (gv 1)) (cB (f2 (gv 0) (gv 2) (cV false))) (fq (aa (gv 3) (aa (gv 1) af)))) dH)))
 (bS 1 ([] ++ []) (f1 (f2 (gv 1) (gv 3) dH) cY))))) 1000)
 (bF (f1 (gv 1) n5)))))
def iz (c9:List D->FR)(bE cq:List D->Int->FB):SF:=(aH (bS 2 ([] ++ ([1] ++ [])) (f2 (cst (.int 1)) (qQ 0 bE (aa (gv 1) af)) cD))
 (aH (bS 3 ([] ++ []) (qQ 0 cq (aa (f1 (gv 2) gO) af)))
 (aH (bS 4 (([] ++ ([] ++ ([] ++ ([] ++ [])))) ++ ([] ++ [])) (f2 (bR (aa (cst (.int 2)) (aa (cst (.int 3)) (aa (cst (.int 4)) (aa (cst (.int 7)) af))))) (qQ 0 bE (aa (cst (.int 4)) af)) cn))
 (aH (jF 5 [] (bR af))
 (aH (cM (.nm 6) [] (i6 (gv 2))
 (cM (.nm 7) (([] ++ []) ++ []) (oF (f2 (gv 6) (cst (.int 1)) cD) (gv 2))
 (i9 (([4] ++ []) ++ []) (cB (f2 (qQ 0 bE (aa (gv 4) af)) (cst (.int 0)) (cV false)))
 (mw 5 (([] ++ []) ++ (([] ++ []) ++ [])) (fq (aa (f2 (gv 3) (gv 6) cn) (aa (f2 (gv 3) (gv 7) cn) af))))
 jT)))
 (bF (fq (aa (gv 2) (aa (aq c9 (aa (gv 5) af)) af)))))))))
def pH (aB:List D->FR):SF:=(aH (jk ([0] ++ ([1] ++ [])) (aq aB (aa (gv 0) (aa (gv 1) af))))
 (lI (aP 2 [1] (.two 0 1) (bq (f2 (gv 0) (cst (.int 1)) cn)) (cB (f2 (gv 1) (gv 2) (cV false))) (gv 0))))
def nq (aB:List D->FR):SF:=(aH (jk ([0] ++ ([1] ++ [])) (aq aB (aa (gv 0) (aa (gv 1) af))))
 (lI (aP 2 [1] (.two 0 1) (bq (f2 (gv 0) (cst (.int 1)) cn)) (cB (f2 (gv 0) (gv 2) (cV false))) (gv 1))))
def pB (aB lY jR:List D->FR):SF:=(aH (jk ([0] ++ ([1] ++ [])) (aq aB (aa (gv 0) (aa (gv 1) af))))
 (aH (bS 2 ((([0] ++ ([1] ++ [])) ++ ([1] ++ [])) ++ ([0] ++ ([1] ++ []))) (f2 (f2 (aq lY (aa (gv 0) (aa (gv 1) af))) (bR (aa (gv 1) af)) dH) (aq jR (aa (gv 0) (aa (gv 1) af))) dH))
 (lI (aP 1 [2] (.nm 0) (i6 (f2 (gv 0) (cst (.int 0)) cn)) (cB (f2 (gv 0) (gv 1) (rV true))) (gv 0)))))
noncomputable def qy (ax:List D->FR):SF:=(aH (jk ([0] ++ []) (aq ax (aa (gv 0) af)))
 (bF (fq (aa (f2 (gv 0) (cst (.int 0)) cn) (aa (f1 (f1 (aP 2 [] (.two 0 1) (bq (f2 (gv 0) (cst (.int 1)) cn)) kL (fq (aa (gv 1) (aa (gv 0) af)))) nU) n5) af)))))
def Lp:D->Bool
 | .int _=>true
 |_=>false
def lq:List D->FR
 | [d]=>if dq d=true then .bad else .ok (.bool (Lp d)) false
 |_=>.bad
def ub {d:D}(h:dq d=false):lq [d]=.ok (.bool (Lp d)) false:=N8 (by rw[h];exact OG)
def EC (ds:List D)(h:lq ds≠.bad):aZ 1 1 qj ds=lq ds:=by
 unfold lq at h
 split at h
 ·rename_i d
  cases q:dq d with
  |true=>rw[q] at h;exact absurd rfl h
  |false=>
   rw[ub q]
   have e1:iM "int" d=some (.bool (Di d "int")):=by unfold iM;rw[q];rfl
   have e2:iM "bool" d=some (.bool (Di d "bool")):=by unfold iM;rw[q];rfl
   show fin (bF (fP (f1 (gv 0) (iM "int")) (f1 (f1 (gv 0) (iM "bool")) yk)) [.fz d] 0)=_
   unfold bF fP f1 gv
   simp only[ui,yC,xT,List.getElem?_cons_zero,xW,u5,mJ,e1,e2]
   cases d <;> rfl
 ·exact absurd rfl h
def eQ (d:D)(n:Int):Bool:=match d with
 | .int i=>decide (0<=i/\i < n)
 |_=>false
def df:List D->FR
 | [d,.int n]=>if dq d=true then .bad else .ok (.bool (eQ d n)) false
 |_=>.bad
def pF {d:D}{n:Int}(h:dq d=false):df [d,.int n]=.ok (.bool (eQ d n)) false:=N8 (by rw[h];exact OG)
def vn {i lo n:Int}{vs:List Nv}{β:Int}{fa fb fc:VF D}{g':D->D->Option D}{q:Bool}(ha:fa vs β=.ok (.int lo) β)(hb:fb vs β=.ok (.int i) β)(hc:fc vs β=.ok (.int n) β)(hq:g' (.int i) (.int n)=some (.bool q)):j7 fa fb fc CN g' vs β=.ok (.bool (decide (lo<=i) && q)) β:=by
 unfold j7
 rw[ha];dsimp only[R.bnd];rw[hb];dsimp only[R.bnd]
 show (match (some (PyData.bool (decide (lo<=i))):Option D) with
  |some (.bool true)=>_
  |some (.bool false)=>_
  |_=>_)=_
 by_cases h:lo<=i
 ·rw[N3 h]
  dsimp only
  rw[hc]
  dsimp only[R.bnd]
  rw[hq];rfl
 ·rw[Oe h];rfl
def Ey (ds:List D)(h:df ds≠.bad):aZ 2 2 (qg lq) ds=df ds:=by
 unfold df at h
 split at h
 ·rename_i d n
  cases q:dq d with
  |true=>rw[q] at h;exact absurd rfl h
  |false=>
   rw[pF q]
   show fin (bF (fP (aq lq (aa (gv 0) af)) (j7 (cst (.int 0)) (gv 0) (gv 1) CN xZ)) [.fz d,.fz (.int n)] 0)=_
   unfold bF fP aq
   simp only[ui,yC,xT,dv,zJ,Hb,List.getElem?_cons_zero,xW,u5,mJ,ub q]
   cases d with
   |int i=>
    show fin (toS (j7 (cst (.int 0)) (gv 0) (gv 1) CN xZ [.da (.int i),.da (.int n)] 0) _)=_
    rw[vn (lo:=0) (i:=i) (n:=n) rfl rfl rfl rfl]
    show FR.ok (.bool (decide (0<=i) && decide (i < n))) false=.ok (.bool (decide (0<=i/\i < n))) false
    rw[Bool.decide_and]
   |_=>rfl
 ·exact absurd rfl h
def GU (d:D):Bool:=match d with
 | .int i=>decide (1<=i/\i<=8)
 |_=>false
def mf:List D->FR
 | [d]=>if dq d=true then .bad else .ok (.bool (GU d)) false
 |_=>.bad
def CG {d:D}(h:dq d=false):mf [d]=.ok (.bool (GU d)) false:=N8 (by rw[h];exact OG)
def IQ (ds:List D)(h:mf ds≠.bad):aZ 1 1 (sX lq) ds=mf ds:=by
 unfold mf at h
 split at h
 ·rename_i d
  cases q:dq d with
  |true=>rw[q] at h;exact absurd rfl h
  |false=>
   rw[CG q]
   show fin (bF (fP (aq lq (aa (gv 0) af)) (j7 (cst (.int 1)) (gv 0) (cst (.int 8)) CN CN)) [.fz d] 0)=_
   unfold bF fP aq
   simp only[ui,yC,xT,dv,zJ,Hb,List.getElem?_cons_zero,xW,u5,mJ,ub q]
   cases d with
   |int i=>
    show fin (toS (j7 (cst (.int 1)) (gv 0) (cst (.int 8)) CN CN [.da (.int i)] 0) _)=_
    rw[vn (lo:=1) (i:=i) (n:=8) rfl rfl rfl rfl]
    show FR.ok (.bool (decide (1<=i) && decide (i<=8))) false=.ok (.bool (decide (1<=i/\i<=8))) false
    rw[Bool.decide_and]
   |_=>rfl
 ·exact absurd rfl h
def pairF:List D->FR
 | [d,.int n]=>(match qu d with
  |some p=>.ok (.bool (decide ((0<=p.1/\p.1 < n)/\(0<=p.2/\p.2 < n)))) false
  |none=>.bad)
 |_=>.bad
def Ek (p:Pr)(n:Int):pairF [aU p,.int n]=.ok (.bool (decide ((0<=p.1/\p.1 < n)/\(0<=p.2/\p.2 < n)))) false:=rfl
def IA (ds:List D)(h:pairF ds≠.bad):aZ 2 2 (sJ df) ds=pairF ds:=by
 unfold pairF at h
 split at h
 ·rename_i d n
  cases q:qu d with
  |none=>rw[q] at h;exact absurd rfl h
  |some p=>
   obtain rfl:=vj q
   rw[Ek]
   obtain⟨a,b⟩:=p
   show fin (toS (fP (aq df (aa (f2 (gv 0) (cst (.int 0)) cn) (aa (gv 1) af))) (aq df (aa (f2 (gv 0) (cst (.int 1)) cn) (aa (gv 1) af))) [.da (.tuple [.int a,.int b]),.da (.int n)] 0) λd β'=>.rt d false β')=_
   have e1:aq df (aa (f2 (gv 0) (cst (.int 0)) cn) (aa (gv 1) af)) [.da (.tuple [.int a,.int b]),.da (.int n)] 0=.ok (.bool (decide (0<=a/\a < n))) 0:=rfl
   have e2:aq df (aa (f2 (gv 0) (cst (.int 1)) cn) (aa (gv 1) af)) [.da (.tuple [.int a,.int b]),.da (.int n)] 0=.ok (.bool (decide (0<=b/\b < n))) 0:=rfl
   unfold fP
   rw[e1]
   dsimp only[R.bnd]
   by_cases c:0<=a/\a < n
   ·rw[N3 c,e2]
    show FR.ok (.bool (decide (0<=b/\b < n))) false=.ok (.bool (decide ((0<=a/\a < n)/\(0<=b/\b < n)))) false
    simp[c]
   ·rw[Oe c]
    show FR.ok (.bool false) false=.ok (.bool (decide ((0<=a/\a < n)/\(0<=b/\b < n)))) false
    simp[c]
 ·exact absurd rfl h
def aw (n:Nat)(l:List Pr):D:=.tuple [.int n,.tuple (l.map aU)]
open Classical in
noncomputable def sr (f:Nat->List Pr->FR):D->FR:=λd=>if h:∃nl:Nat×List Pr,d=aw nl.1 nl.2/\OM.Ord nl.1 nl.2 then f (Classical.choose h).1 (Classical.choose h).2 else .bad
def Fj {p q:Pr}(h:aU p=aU q):p=q:=by
 obtain⟨a,b⟩:=p
 obtain⟨c,d⟩:=q
 unfold aU at h
 simp at h
 rw[h.1,h.2]
theorem oG:∀{l m:List Pr},l.map aU=m.map aU->l=m
 | [],[],_=>rfl
 | [],_ :: _,h=>by cases h
 |_ :: _,[],h=>by cases h
 |p :: l,q :: m,h=>by
  simp only[OL,List.cons.injEq] at h
  rw[Fj h.1,oG h.2]
def CF {n m:Nat}{l k:List Pr}(h:aw n l=aw m k):n=m/\l=k:=by
 unfold aw at h
 simp only[PyData.tuple.injEq,List.cons.injEq,int.injEq,and_true] at h
 exact⟨by omega,oG h.2⟩
def wB {f:Nat->List Pr->FR}{n:Nat}{l:List Pr}(O:OM.Ord n l):sr f (aw n l)=f n l:=by
 unfold sr
 have h:∃nl:Nat×List Pr,aw n l=aw nl.1 nl.2/\OM.Ord nl.1 nl.2:=⟨(n,l),rfl,O⟩
 rw[dif_pos h]
 obtain⟨e,_⟩:=Classical.choose_spec h
 obtain⟨e1,e2⟩:=CF e
 rw[<-e1,<-e2]
def ve {f:Nat->List Pr->FR}{d:D}(h:sr f d≠.bad):∃n l,d=aw n l/\OM.Ord n l:=by
 unfold sr at h
 by_cases q:∃nl:Nat×List Pr,d=aw nl.1 nl.2/\OM.Ord nl.1 nl.2
 ·obtain⟨nl,e,O⟩:=q;exact⟨nl.1,nl.2,e,O⟩
 ·rw[dif_neg q] at h;exact absurd rfl h
noncomputable def dN:List D->FR
 | [.int n,d]=>(match hG d with
  |some ds=>(match fY ds with
   |some ps=>(open Classical in if 1<=n/\n<=8/\OM.Wn n.toNat ps then .ok (.tuple ((OM.cw n.toNat (OM.Tr (OM.Mem ps))).map aU)) false else .bad)
   |none=>.bad)
  |none=>.bad)
 |_=>.bad
def CB {n:Nat}{ps:List Pr}(h1:1<=n)(h8:n<=8)(w:OM.Wn n ps):dN [.int n,.tuple (ps.map aU)]=.ok (.tuple ((OM.cw n (OM.Tr (OM.Mem ps))).map aU)) false:=by
 unfold dN
 simp only[hG,fR]
 rw[N1 ⟨by omega,by omega,by rw[OB];exact w⟩,OB]
def kR:List D->FR
 | [.tuple ds]=>(match fY ds with
  |some ps=>if ps.length<=1000 then .ok (.bool (ps.any λp=>decide (p.1=p.2))) false else .bad
  |none=>.bad)
 |_=>.bad
theorem eY {α:Type}(f:α->Bool):∀l:List α,k9 (l.map λx=>PyData.bool (f x))=some (l.map f)
 | []=>rfl
 |x :: l=>by
  show (k9 (l.map λx=>PyData.bool (f x))).map (f x :: ·)=_
  rw[eY f l];rfl
def Iu (ds:List D)(h:kR ds≠.bad):aZ 1 1 qX ds=kR ds:=by
 unfold kR at h
 split at h
 ·rename_i ds
  cases q:fY ds with
  |none=>rw[q] at h;exact absurd rfl h
  |some ps=>
   rw[q] at h
   dsimp only at h
   by_cases hz:ps.length<=1000
   case neg=>rw[N8 hz] at h;exact absurd rfl h
   obtain rfl:=jJ q
   have e:kR [.tuple (ps.map aU)]=.ok (.bool (ps.any λp=>decide (p.1=p.2))) false:=by
    unfold kR;simp only[fR];rw[N1 hz]
   rw[e]
   have ec:aP 2 [] (.two 0 1) (bq (gv 0)) kL (f2 (gv 0) (gv 1) (cV false)) [.da (.tuple (ps.map aU))] 0=.ok (.list (ps.map λp=>PyData.bool (decide (p.1=p.2)))) 0:=by
    exact bI (l:=ps) (e:=aU) (λp=>PyData.bool (decide (p.1=p.2))) rfl hz λp hp=>⟨_,rfl,rfl⟩
   show fin (toS ((aP 2 [] (.two 0 1) (bq (gv 0)) kL (f2 (gv 0) (gv 1) (cV false)) [.da (.tuple (ps.map aU))] 0).bnd λx β1=>R.of (bK (λbs=>bs.any id) x) β1) λd β'=>.rt d false β')=_
   rw[ec]
   simp only[mJ,bK]
   rw[eY]
   simp[fin,List.any_map]
 ·exact absurd rfl h
def tu (p:Pr):SeqAt.shaped (aU p)=true:=rfl
theorem zX:∀l:List Pr,PyData.canLayAll0 (l.map aU)=true
 | []=>rfl
 |p :: l=>by
  show ((aU p).canLay0 && PyData.canLayAll0 (l.map aU))=true
  rw[zX l];rfl
theorem Ah:∀l:List Pr,PyData.depthAll (l.map aU)<=1
 | []=>by show (0:Nat)<=1;omega
 |p :: l=>by
  show max (aU p).depth (PyData.depthAll (l.map aU))<=1
  have h1:(aU p).depth=1:=by simp[aU,PyData.depth,PyData.depthAll]
  have h2:=Ah l
  omega
def qH (l:List Pr):SeqAt.shaped (.tuple (l.map aU))=true:=by
 unfold SeqAt.shaped
 have h1:(PyData.tuple (l.map aU)).canLay0=true:=by simp only[PyData.canLay0];exact zX l
 have h2:(PyData.tuple (l.map aU)).depth<=64:=by simp only[PyData.depth];have:=Ah l;omega
 rw[h1,N3 h2];rfl
def Ci (p q:Pr):PyData.eqv (aU p) (aU q)=decide (p=q):=by
 obtain⟨a,b⟩:=p
 obtain⟨c,d⟩:=q
 simp only[aU,PyData.eqv,PyData.eqvAll,Bool.and_true]
 rw[Pc]
 simp
theorem zC:∀l m:List Pr,PyData.eqvAll (l.map aU) (m.map aU)=decide (l=m)
 | [],[]=>rfl
 | [],_ :: _=>rfl
 |_ :: _,[]=>rfl
 |p :: l,q :: m=>by
  show (PyData.eqv (aU p) (aU q) && PyData.eqvAll (l.map aU) (m.map aU))=_
  rw[Ci,zC l m,Pc]
  simp
def jZ {n:Nat}{l:List Pr}(O:OM.Ord n l):l.length < 64:=by
 have h8:=O.hi
 have e:=O.closed
 by_cases h:l.length < 64
 ·exact h
 ·exfalso
  have h1:l.length<=n * n:=by rw[<-e];exact OM.Df _ _
  have h2:n * n<=64:=PK h8 h8
  have hn:n=8:=by
   by_cases h7:n<=7
   ·have:n * n<=7 * 7:=PK h7 h7
    omega
   ·omega
  have hlen:l.length=n * n:=by subst hn;omega
  have hg:l=OM.dI n:=by
   refine OM.sub_eq O.ris (OM.nk n) (λx hx=>OM.cJ.mpr (O.wn x hx)) ?_
   rw[hlen];unfold OM.dI;simp
  have:((0:Int),(0:Int))∈l:=by rw[hg];exact OM.cJ.mpr ⟨⟨by omega,by omega⟩,by omega,by omega⟩
  exact O.irr 0 this
def DR {n:Nat}(h1:1<=n)(h8:n<=8):mf [.int n]=.ok (.bool true) false:=by
 rw[CG rfl]
 show FR.ok (.bool (decide (1<=(n:Int)/\(n:Int)<=8))) false=_
 rw[N3 (by omega)]
def wK (neg:Bool)(l m:List Pr):cV neg (.tuple (l.map aU)) (.tuple (m.map aU))=some (.bool (if neg then !decide (l=m) else decide (l=m))):=by
 unfold cV
 rw[qH,qH]
 simp only[Bool.and_self,O7,PyData.eqv,zC]
def GA {n:Nat}{l:List Pr}(O:OM.Ord n l):kR [.tuple (l.map aU)]=.ok (.bool false) false:=by
 have hl:=jZ O
 unfold kR
 simp only[fR]
 rw[N1 (by omega)]
 have:(l.any λp=>decide (p.1=p.2))=false:=by
  rw[QF]
  intro p hp
  simp only[Oq]
  intro e
  obtain⟨a,b⟩:=p
  simp only at e
  subst e
  exact O.irr a hp
 rw[this]
def Bu {n:Nat}{l:List Pr}(O:OM.Ord n l):aZ 3 1 (iR mf pairF dN kR) [aw n l]=.ok (.bool true) false:=by
 have hl:=jZ O
 show fin (iR mf pairF dN kR [.fz (aw n l),.no,.no] 0)=_
 unfold iR
 rw[aF (env':=[.fz (aw n l),.no,.no]) (β':=0) (by rfl)]
 rw[aF (env':=[.fz (aw n l),.fz (.int n),.no]) (β':=0) (by rfl)]
 rw[aF (env':=[.fz (aw n l),.fz (.int n),.fz (.tuple (l.map aU))]) (β':=0) (by rfl)]
 have e4:aq mf (aa (gv 1) af) [.da (aw n l),.da (.int n),.da (.tuple (l.map aU))] 0=.ok (.bool true) 0:=au rfl (DR O.lo O.hi)
 rw[aF (env':=[.fz (aw n l),.fz (.int n),.fz (.tuple (l.map aU))]) (β':=0) ?h4]
 case h4=>
  refine lJ ?_
  show lb (rk (kU (aq mf (aa (gv 1) af)))) _ [.da (aw n l),.da (.int n),.da (.tuple (l.map aU))] 0=_
  rw[tW,xK,xF,e4]
  rfl
 have e5:aP 1 [1] (.nm 0) (bq (gv 2)) kL (aq pairF (aa (gv 0) (aa (gv 1) af))) [.da (aw n l),.da (.int n),.da (.tuple (l.map aU))] 0=.ok (.list (l.map λ_=>PyData.bool true)) 0:=by
  refine bI (l:=l) (e:=aU) (λ_=>PyData.bool true) rfl (by omega) λp hp=>⟨_,rfl,?_⟩
  refine au (b:=false) (ds:=[aU p,.int n]) rfl ?_
  rw[Ek,N3 (by have:=O.wn p hp;exact this)]
 rw[aF (env':=[.fz (aw n l),.fz (.int n),.fz (.tuple (l.map aU))]) (β':=0) ?h5]
 case h5=>
  refine lJ ?_
  show rk (kU (f1 (aP 1 [1] (.nm 0) (bq (gv 2)) kL (aq pairF (aa (gv 0) (aa (gv 1) af)))) (bK λbs=>bs.all id))) [.da (aw n l),.da (.int n),.da (.tuple (l.map aU))] 0=_
  rw[xK,xF,cK (d:=.bool true) e5 (by simp only[bK];rw[eY];simp)]
  rfl
 have e6:aq dN (aa (gv 1) (aa (gv 2) af)) [.da (aw n l),.da (.int n),.da (.tuple (l.map aU))] 0=.ok (.tuple (l.map aU)) 0:=au rfl (by rw[CB O.lo O.hi O.wn,O.closed])
 have e7:aq kR (aa (gv 2) af) [.da (aw n l),.da (.int n),.da (.tuple (l.map aU))] 0=.ok (.bool false) 0:=au rfl (GA O)
 show fin (toS (fP (f2 (gv 2) (aq dN (aa (gv 1) (aa (gv 2) af))) (cV false)) (f1 (aq kR (aa (gv 2) af)) yk) [.da (aw n l),.da (.int n),.da (.tuple (l.map aU))] 0) _)=_
 unfold fP
 rw[aI (d:=.bool true) (x:=.tuple (l.map aU)) rfl e6 (by rw[wK];simp)]
 dsimp only[R.bnd]
 rw[cK (d:=.bool true) e7 rfl]
 rfl
noncomputable def iZ:List D->FR
 | [d]=>sr (λ_ _=>.ok (.bool true) false) d
 |_=>.bad
def tm {n:Nat}{l:List Pr}(O:OM.Ord n l):iZ [aw n l]=.ok (.bool true) false:=by simp only[iZ];exact wB O
def yh (ds:List D)(h:iZ ds≠.bad):aZ 3 1 (iR mf pairF dN kR) ds=iZ ds:=by
 unfold iZ at h
 split at h
 ·obtain⟨n,l,rfl,O⟩:=ve h
  rw[Bu O,tm O]
 ·exact absurd rfl h
noncomputable def fm:List D->FR
 | [d]=>sr (λ_ _=>.ok .none false) d
 |_=>.bad
def lD {n:Nat}{l:List Pr}(O:OM.Ord n l):fm [aw n l]=.ok .none false:=by simp only[fm];exact wB O
abbrev dW (ns:List Int):D:=.dict [(.none,.list (ns.map int))]
def nN (h: -(2 ^ 64) < i/\i < 2 ^ 64):fo (.int i) (.int j)=some (.int (i * j)):=N1 (by dsimp only;rw[N3 h.1,N3 h.2];rfl)
def HC (h: -(2 ^ 64) < j/\j < 2 ^ 64):fo (.int i) (.int j)=some (.int (i * j)):=N1 (by dsimp only;rw[N3 h.1,N3 h.2,Bool.and_self,Bool.or_true])
def oC (h:0 < j):mq (.int i) (.int j)=some (.int (i % j)):=N1 (N3 h)
def y0 (h:0 < j)(h2:j < 1073741824):BW (.int i) (.int j)=some (.int (i / j)):=N1 (by dsimp only;rw[N3 h,N3 h2];rfl)
theorem jf {α β:Type}(f:α->β)(l:List α)(i:Int):kG (l.map f) i=(kG l i).map f:=by
 unfold kG
 rw[NZ]
 cases t6 l.length i with
 |none=>rfl
 |some j=>simp
def uG {α:Type}{l:List α}{k:Nat}(h:k < l.length):kG l (k:Int)=some l[k]:=kC (NW h)
def Jx (h:fa vs β=.ok (.int i) β1)(h':fb vs β1=.ok (.int j) β2):cB (f2 fa fb xZ) vs β=.ok (decide (i < j)) β2:=dA _ _ _ _ (aI h h' rfl)
def cF (h:fa vs β=.ok (.int i) β1)(h':fb vs β1=.ok (.int j) β2):cB (f2 fa fb (cV neg)) vs β=.ok (if neg then !decide (i=j) else decide (i=j)) β2:=by
 refine dA _ _ _ _ (aI h h' ?_)
 cases neg <;> rfl
def HA (ns:List Int)(k:Nat):∃z,aZ 2 2 gS [dW ns,.int k]=.ok (.int z) false:=by
 show ∃z,fin (gS [.fz (dW ns),.fz (.int k)] 0)=.ok (.int z) false
 unfold gS
 have e:cB (f2 (gv 1) (f1 (gv 0) bL) xZ) [.da (dW ns),.da (.int k)] 0=.ok (decide ((k:Int) < (ns.map int).length)) 0:=Jx rfl rfl
 by_cases h:k < ns.length
 ·refine⟨ns[k],?_⟩
  rw[N3 (by simp;exact h)] at e
  rw[lV (d:=.int ns[k]) (b:=false) (β':=0)]
  ·rfl
  ·rw[l9 e]
   show toS (f2 (gv 0) (gv 1) cn [.da (dW ns),.da (.int k)] 0) _=_
   rw[aI (x:=dW ns) (y:=.int k) (d:=.int ns[k]) (β1:=0) (β2:=0) rfl rfl]
   ·rfl
   ·show kG (ns.map int) (k:Int)=_
    rw[jf,uG h];rfl
 ·refine⟨0,?_⟩
  rw[Oe (by simp;omega)] at e
  rw[aF (env':=[.fz (dW ns),.fz (.int k)]) (β':=0)]
  ·rfl
  ·rw[lJ e];rfl
noncomputable def Ak:List D->FR:=aZ 2 2 gS
noncomputable def CW:List D->FR:=aZ 4 2 jW
abbrev xB:List Int:=[48271,69621,16807,39373,30269,40014,40692,50021,61687,71993,83869,95561,30307]
def KA (c k:Int):∃z,CW [.int c,.int k]=.ok (.int z) false:=by
 show ∃z,fin (jW [.fz (.int c),.fz (.int k),.no,.no] 0)=.ok (.int z) false
 unfold jW
 rw[aF (env':=[.fz (.int c),.fz (.int k),.fz (.list (xB.map int)),.no]) (β':=0) (by rfl)]
 obtain⟨j,hj⟩:∃j:Nat,k % 13=j:=⟨(k % 13).toNat,by omega⟩
 have hj13:j < xB.length:=by show j < 13;omega
 have e1:f2 (f2 (f2 (f2 (f2 (gv 0) (cst (.int 2147483647)) mq) (cst (.int 12345)) cD) (f2 (gv 2) (f2 (gv 1) (cst (.int 13)) mq) cn) fo) (f2 (cst (.int 977)) (gv 1) fo) cD) (f2 (cst (.int 7919)) (f2 (gv 1) (cst (.int 13)) BW) fo) cD [.da (.int c),.da (.int k),.da (.list (xB.map int)),.no] 0
   =.ok (.int ((c % 2147483647 + 12345) * xB[j] + 977 * k + 7919 * (k / 13))) 0:=by
  refine aI (aI (aI (aI (aI (x:=.int c) (y:=.int 2147483647) rfl rfl (oC (by omega))) rfl rfl) (aI (x:=.list (xB.map int)) rfl (aI (x:=.int k) (y:=.int 13) rfl rfl (oC (by omega))) (d:=.int xB[j]) ?_) (nN ⟨by omega,by omega⟩)) (aI (x:=.int 977) (y:=.int k) rfl rfl (nN ⟨by omega,by omega⟩)) rfl) (aI (x:=.int 7919) rfl (aI (x:=.int k) (y:=.int 13) rfl rfl (y0 (by omega) (by omega))) (nN ⟨by omega,by omega⟩)) rfl
  show kG (xB.map int) (k % 13)=_
  rw[hj,jf,uG hj13];rfl
 generalize ((c % 2147483647 + 12345) * xB[j] + 977 * k + 7919 * (k / 13))=st at e1
 rw[aF (env':=[.fz (.int c),.fz (.int k),.fz (.list (xB.map int)),.fz (.int st)]) (β':=0) ?h]
 case h=>
  show toS (f2 _ _ cD [.da (.int c),.da (.int k),.da (.list (xB.map int)),.no] 0) _=_
  rw[e1];rfl
 have e2:f2 (gv 3) (cst (.int 1000000007)) mq [.da (.int c),.da (.int k),.da (.list (xB.map int)),.da (.int st)] 0=.ok (.int (st % 1000000007)) 0:=aI rfl rfl (oC (by omega))
 rw[aF (env':=[.fz (.int c),.fz (.int k),.fz (.list (xB.map int)),.fz (.int (st % 1000000007))]) (β':=0) ?h2]
 case h2=>
  show toS (f2 (gv 3) (cst (.int 1000000007)) mq [.da (.int c),.da (.int k),.da (.list (xB.map int)),.da (.int st)] 0) _=_
  rw[e2];rfl
 have hb: -(2 ^ 64) < st % 1000000007/\st % 1000000007 < 2 ^ 64:=⟨by omega,by omega⟩
 generalize st % 1000000007=u at hb
 have e3:f2 (f2 (f2 (f2 (gv 3) (gv 3) fo) (f2 (cst (.int 48271)) (gv 1) fo) cD) (cst (.int 1000000007)) mq) (cst (.int 7)) BW [.da (.int c),.da (.int k),.da (.list (xB.map int)),.da (.int u)] 0=.ok (.int ((u * u + 48271 * k) % 1000000007 / 7)) 0:=
  aI (aI (aI (aI (x:=.int u) (y:=.int u) rfl rfl (nN hb)) (aI (x:=.int 48271) (y:=.int k) rfl rfl (nN ⟨by omega,by omega⟩)) rfl) rfl (oC (by omega))) rfl (y0 (by omega) (by omega))
 refine⟨(u * u + 48271 * k) % 1000000007 / 7,?_⟩
 show fin (toS (f2 _ (cst (.int 7)) BW [.da (.int c),.da (.int k),.da (.list (xB.map int)),.da (.int u)] 0) _)=_
 rw[e3];rfl
noncomputable def HE:List D->FR:=aZ 5 2 (kH Ak CW)
def Ke (ns:List Int)(k:Nat):∃z,HE [dW ns,.int k]=.ok (.list [.int z]) true:=by
 obtain⟨c,hc⟩:=HA ns k
 show ∃z,fin (kH Ak CW [.fz (dW ns),.fz (.int k),.no,.no,.no] 0)=.ok (.list [.int z]) true
 unfold kH
 have e0:aq Ak (aa (gv 0) (aa (gv 1) af)) [.da (dW ns),.da (.int k),.no,.no,.no] 0=.ok (.int c) 0:=au rfl hc
 rw[aF (env':=[.fz (dW ns),.fz (.int k),.fz (.int c),.no,.no]) (β':=0) ?h]
 case h=>
  show toS (aq Ak _ [.da (dW ns),.da (.int k),.no,.no,.no] 0) _=_
  rw[e0];rfl
 have e1:cB (f2 (f2 (gv 2) (cst (.int 2)) mq) (cst (.int 0)) (cV false)) [.da (dW ns),.da (.int k),.da (.int c),.no,.no] 0=.ok (decide (c % 2=0)) 0:=cF (neg:=false) (aI rfl rfl (oC (by omega))) rfl
 by_cases h:c % 2=0
 ·rw[N3 h] at e1
  refine⟨(if c < 0 then -c else c) / 2,?_⟩
  rw[lV (d:=.list [.int ((if c < 0 then -c else c) / 2)]) (b:=true) (β':=0)]
  ·rfl
  ·rw[l9 e1]
   show toS (bR (aa (f2 (f1 (gv 2) Gs) (cst (.int 2)) BW) af) [.da (dW ns),.da (.int k),.da (.int c),.no,.no] 0) _=_
   rw[iu (ds:=[.int ((if c < 0 then -c else c) / 2)]) (β1:=0)]
   ·rfl
   ·have e2:f2 (f1 (gv 2) Gs) (cst (.int 2)) BW [.da (dW ns),.da (.int k),.da (.int c),.no,.no] 0=.ok (.int ((if c < 0 then -c else c) / 2)) 0:=aI (cK (x:=.int c) rfl rfl) rfl (y0 (by omega) (by omega))
    rw[dv,e2];rfl
   ·simp
 ·rw[Oe h] at e1
  rw[aF (env':=[.fz (dW ns),.fz (.int k),.fz (.int c),.no,.no]) (β':=0) (by rw[lJ e1];rfl)]
  rw[aF (env':=[.fz (dW ns),.fz (.int k),.fz (.int c),.fz (.int 0),.no]) (β':=0) (by rfl)]
  obtain⟨env',β',el,z,x,rfl,rfl⟩:=fB (t:=.nm 4) (m:=bS 3 (([] ++ []) ++ ([2] ++ ([4] ++ []))) (f2 (f2 (gv 3) (cst (.int 142857143)) fo) (aq CW (aa (gv 2) (aa (gv 4) af))) cD)) (ds:=cU 0 40) (k:=0)
   (λ_ env β=>∃(z:Int) (x:Sl),env= [.fz (dW ns),.fz (.int k),.fz (.int c),.fz (.int z),x]/\β=0) (env:=[.fz (dW ns),.fz (.int k),.fz (.int c),.fz (.int 0),.no]) (β:=0) ⟨0,.no,rfl,rfl⟩ (by
    rintro i d env β hi ⟨z,x,rfl,rfl⟩
    obtain⟨j,rfl⟩:∃j:Int,d=.int j:=by
     unfold cU at hi
     rw[Oa] at hi
     cases q:(List.range 40)[i]? with
     |none=>rw[q] at hi;cases hi
     |some j=>rw[q] at hi;cases hi;exact⟨_,rfl⟩
    obtain⟨y,hy⟩:=KA c j
    refine⟨_,rfl,_,_,?_,z * 142857143 + y,.fz (.int j),rfl,rfl⟩
    show toS (f2 (f2 (gv 3) (cst (.int 142857143)) fo) (aq CW (aa (gv 2) (aa (gv 4) af))) cD [.da (dW ns),.da (.int k),.da (.int c),.da (.int z),.da (.int j)] 0) _=_
    rw[aI (d:=.int (z * 142857143 + y)) (aI (x:=.int z) (y:=.int 142857143) (β1:=0) (β2:=0) rfl rfl (HC ⟨by omega,by omega⟩)) (au (ds:=[.int c,.int j]) (β1:=0) rfl hy) rfl]
    rfl)
  refine⟨z,?_⟩
  rw[aF (env':=[.fz (dW ns),.fz (.int k),.fz (.int c),.fz (.int z),x]) (β':=0) ?h2]
  case h2=>exact el
  show fin (toS (bR (aa (gv 3) af) [.da (dW ns),.da (.int k),.da (.int c),.da (.int z),x.val] 0) _)=_
  rw[iu (ds:=[.int z]) (β1:=0) rfl (by simp)]
  rfl
noncomputable def qp:List D->Int->FB:=xm 4 1 (eH fk)
theorem lay_ints:∀ns:List Int,PyData.canLayAll0 (ns.map int)=true
 | []=>rfl
 |n :: ns=>by
  show ((int n).canLay0 && PyData.canLayAll0 (ns.map int))=true
  rw[lay_ints ns];rfl
theorem vh:∀ns:List Int,PyData.depthAll (ns.map int)=0
 | []=>rfl
 |n :: ns=>by
  show max (int n).depth (PyData.depthAll (ns.map int))=0
  rw[vh ns];rfl
def shaped_ints (ns:List Int):SeqAt.shaped (.list (ns.map int))=true:=by
 unfold SeqAt.shaped
 have h1:(PyData.list (ns.map int)).canLay0=true:=by simp only[PyData.canLay0];exact lay_ints ns
 have h2:(PyData.list (ns.map int)).depth<=64:=by simp only[PyData.depth];rw[vh];omega
 rw[h1,N3 h2];rfl
theorem wd:∀l m:List Int,PyData.eqvAll (l.map int) (m.map int)=decide (l=m)
 | [],[]=>rfl
 | [],_ :: _=>rfl
 |_ :: _,[]=>rfl
 |p :: l,q :: m=>by
  show ((p == q) && PyData.eqvAll (l.map int) (m.map int))=_
  rw[wd l m,Pc]
  simp
def ly (neg:Bool)(l m:List Int):cV neg (.list (l.map int)) (.list (m.map int))=some (.bool (if neg then !decide (l=m) else decide (l=m))):=by
 unfold cV
 rw[shaped_ints,shaped_ints]
 simp only[Bool.and_self,O7,PyData.eqv,wd]
theorem i5 {α:Type}:∀{l:List α} {k:Nat} {x:α},l[k]? =some x->(x :: l.eraseIdx k).Perm l
 | [],_,_,h=>by simp at h
 |y :: l,0,x,h=>by simp at h;subst h;exact List.Perm.refl _
 |y :: l,k + 1,x,h=>by
  have h:l[k]? =some x:=by simpa using h
  have ih:=i5 h
  show (x :: y :: l.eraseIdx k).Perm (y :: l)
  exact (List.Perm.swap y x _).trans (ih.cons y)
theorem sk {α β:Type}(f:α->β):∀(l:List α) (k:Nat),(l.map f).eraseIdx k=(l.eraseIdx k).map f
 | [],_=>rfl
 |_ :: _,0=>rfl
 |x :: l,k + 1=>by simp[sk f l k]
def Gj (ns:List Int)(hz:ns.length<=100)(β:Int):∃(ms:List Int) (β':Int),qp [.list (ns.map int)] β=.ok (.list (ms.map int)) true β'/\ms.Perm ns:=by
 show ∃(ms:List Int) (β':Int),Ga (eH fk [.bx,.fz (.list (ns.map int)),.no,.no] β)=.ok (.list (ms.map int)) true β'/\ms.Perm ns
 unfold eH
 rw[aF (env':=[.bx,.fz (.list (ns.map int)),.ow (.list (ns.map int)),.no]) (β':=β) (by rfl)]
 have ez:bR af [Nv.bx,.da (.list (ns.map int)),.da (.list (ns.map int)),.no] β=.ok (.list []) β:=iu rfl (by simp)
 rw[aF (env':=[.bx,.fz (.list (ns.map int)),.ow (.list (ns.map int)),.ow (.list [])]) (β':=β) ?h]
 case h=>
  show toS (bR af [Nv.bx,.da (.list (ns.map int)),.da (.list (ns.map int)),.no] β) _=_
  rw[ez];rfl
 obtain⟨env',β',ew,ms,rfl,hp⟩:=iV (L:=[] ++ []) (t:=cB (f2 (gv 2) (bR af) (cV true))) (m:=kA 3 2 ([] ++ []) (qQ 0 fk (aa (f1 (gv 2) bL) af)))
  (λk env β=>∃ls ms:List Int,env= [.bx,.fz (.list (ns.map int)),.ow (.list (ls.map int)),.ow (.list (ms.map int))]/\(ms ++ ls).Perm ns/\k=ls.length)
  (λenv β=>∃ms:List Int,env= [.bx,.fz (.list (ns.map int)),.ow (.list []),.ow (.list (ms.map int))]/\ms.Perm ns) (n:=1000) (k:=ns.length) (env:=[.bx,.fz (.list (ns.map int)),.ow (.list (ns.map int)),.ow (.list [])]) (β:=β) (by omega) ⟨ns,[],rfl,by simp,rfl⟩ (by
   rintro k env β ⟨ls,ms,rfl,hp,rfl⟩
   have e1:bR af [Nv.bx,.da (.list (ns.map int)),.da (.list (ls.map int)),.da (.list (ms.map int))] β=.ok (.list (([]:List Int).map int)) β:=iu rfl (by simp)
   have et:cB (f2 (gv 2) (bR af) (cV true)) [Nv.bx,.da (.list (ns.map int)),.da (.list (ls.map int)),.da (.list (ms.map int))] β=.ok (!decide (ls= [])) β:=
    dA _ _ _ _ (aI (x:=.list (ls.map int)) rfl e1 (by rw[ly];rfl))
   refine⟨_,_,et,?_⟩
   have hlen:=hp.length_eq
   rw[Ow] at hlen
   cases ls with
   |nil=>exact .inl ⟨rfl,ms,rfl,by simpa using hp⟩
   |cons y ys=>
    refine .inr ⟨rfl,?_⟩
    have hm:(0:Int) < ((y :: ys).length:Nat)/\(((y :: ys).length:Nat):Int) < 1073741824:=by
     have:(y :: ys).length<=100:=by omega
     constructor
     ·simp
     ·omega
    obtain⟨j,hj⟩:∃j:Nat,β % (((y :: ys).length:Nat):Int)=j:=⟨(β % (((y :: ys).length:Nat):Int)).toNat,by have:=Int.emod_nonneg β (b:=(((y :: ys).length:Nat):Int)) (by omega);omega⟩
    have hj2:j < (y :: ys).length:=by have:=Int.emod_lt_of_pos β hm.1;omega
    have ef:qQ 0 fk (aa (f1 (gv 2) bL) af) [Nv.bx,.da (.list (ns.map int)),.da (.list ((y :: ys).map int)),.da (.list (ms.map int))] β=.ok (.int (j:Int)) (β / (((y :: ys).length:Nat):Int)):=by
     refine qY (ds:=[.int (((y :: ys).length:Nat):Int)]) (b:=false) (by rfl) ?_ (by rw[uB hm.1 hm.2,hj])
     show R.ok [int ((((y :: ys).map int).length:Nat):Int)] β=_
     rw[NZ]
    have hpop:Bd ((y :: ys).map int) (.int (j:Int))=some (.int (y :: ys)[j],((y :: ys).eraseIdx j).map int):=by
     unfold Bd
     dsimp only
     rw[N1 ⟨by omega,by omega⟩]
     have es:seqIndex? (j:Int) ((y :: ys).map int).length=some j:=by
      rw[NZ]
      exact PySem.StrLaws.seqIndex_nonneg (by omega) (by omega)
     rw[es]
     dsimp only
     rw[Oa,NW hj2,sk];rfl
    refine⟨[.bx,.fz (.list (ns.map int)),.ow (.list (((y :: ys).eraseIdx j).map int)),.ow (.list ((ms ++ [(y :: ys)[j]]).map int))],β / (((y :: ys).length:Nat):Int),((y :: ys).eraseIdx j).length,?_,?_,(y :: ys).eraseIdx j,ms ++ [(y :: ys)[j]],rfl,?_,rfl⟩
    ·show kA 3 2 ([] ++ []) (qQ 0 fk (aa (f1 (gv 2) bL) af)) [.bx,.fz (.list (ns.map int)),.ow (.list ((y :: ys).map int)),.ow (.list (ms.map int))] β=_
     rw[xI (ds:=ms.map int) (es:=(y :: ys).map int) (by rfl) (by rfl) (by decide) ef (by rfl) hpop (by rw[NZ];omega),OA]
     rfl
    ·rw[List.length_eraseIdx]
     rw[N1 hj2]
     show (y :: ys).length - 1 < (y :: ys).length
     simp
    ·rw[Pz]
     exact (QK ms (i5 (NW hj2))).trans hp)
 refine⟨ms,β',?_,hp⟩
 rw[aF ew]
 rfl
def Ki (h8:n<=8)(w:OM.Wn n l):OM.cw 8 (OM.Mem l)=OM.cw n (OM.Mem l):=by
 refine OM.gN (OM.cX _ _) (OM.cX _ _) λx=>?_
 rw[OM.bo,OM.bo]
 constructor
 ·rintro⟨_,h⟩;exact⟨w x h,h⟩
 ·rintro⟨h1,h⟩;exact⟨⟨⟨h1.1.1,by omega⟩,h1.2.1,by omega⟩,h⟩
def Aa (h1:1<=n)(h8:n<=8)(w:OM.Wn n l)(nd:l.Nodup)(irr:∀a,(a,a)∉l):l.length < 64:=by
 have:=OM.pX (l:=(0,0) :: l) (m:=OM.dI n) (Ov.mpr ⟨irr 0,nd⟩) (λx hx=>by
  rcases NX.mp hx with e |e
  ·subst e;exact OM.cJ.mpr ⟨⟨by simp,by simp;omega⟩,by simp,by simp;omega⟩
  ·exact OM.cJ.mpr (w x e))
 have hg:(OM.dI n).length=n * n:=by unfold OM.dI;simp
 have hn:n * n<=64:=PK h8 h8
 rw[hg,Ol] at this
 omega
def C8 (h8:n<=8)(w:OM.Wn n l):l.all J3=true:=by
 rw[Ot]
 intro p hp
 have:=w p hp
 unfold J3
 rw[N3 this.1.1,N3 (by omega:p.1 < 8),N3 this.2.1,N3 (by omega:p.2 < 8)];rfl
def oO (h8:n<=8)(w:OM.Wn n l)(hl:(OM.cw n (OM.Mem l)).length < 64)(hd:hG d=some (l.map aU)):cY d=some (.list ((OM.cw n (OM.Mem l)).map aU)):=by
 unfold cY
 rw[hd]
 simp only[fR]
 rw[Ki h8 w,N1 ⟨C8 h8 w,hl⟩]
def xp (l:List Pr)(p:Pr):List Pr:=(l.filter λq=>decide (q.1=p.2)).map λq=>(p.1,q.2)
def zU (l:List Pr)(p:Pr):(xp l p).length<=l.length:=by unfold xp;rw[NZ];exact O5 ..
theorem xi (l m:List Pr):(m.flatMap (xp l)).length<=m.length * l.length:=by
 induction m with
 |nil=>simp
 |cons p m ih=>
  rw[List.flatMap_cons,Ow,Ol,Nat.succ_mul]
  have:=zU l p
  omega
def kn (h:a.length + b.length<=10000):dH (.list a) (.list b)=some (.list (a ++ b)):=N1 (by rw[Oo];omega)
noncomputable def jK:List D->FR:=aZ 6 1 gG
def AR (h1:1<=n)(h8:n<=8)(w:OM.Wn n ps)(irr:∀a,¬OM.Tr (OM.Mem ps) a a):jK [.list (ps.map aU)]=.ok (.tuple ((OM.cw n (OM.Tr (OM.Mem ps))).map aU)) false:=by
 have blen:∀{l:List Pr},OM.GV n ps l->l.length < 64:=λ{l} B=>Aa h1 h8 B.wn (OM.iE B.ris) λa ha=>irr a (B.sup _ ha)
 show fin (gG [.fz (.list (ps.map aU)),.no,.no,.no,.no,.no] 0)=_
 unfold gG
 have B0:=OM.AS (ps:=ps) w
 have e0:f1 (gv 0) cY [.da (.list (ps.map aU)),.no,.no,.no,.no,.no] 0=.ok (.list ((OM.cw n (OM.Mem ps)).map aU)) 0:=cK rfl (oO h8 w (blen B0) rfl)
 rw[aF (env':=[.fz (.list (ps.map aU)),.fz (.list ((OM.cw n (OM.Mem ps)).map aU)),.no,.no,.no,.no]) (β':=0) ?h0]
 case h0=>
  show toS (f1 (gv 0) cY [.da (.list (ps.map aU)),.no,.no,.no,.no,.no] 0) _=_
  rw[e0];rfl
 rw[aF (env':=[.fz (.list (ps.map aU)),.fz (.list ((OM.cw n (OM.Mem ps)).map aU)),.fz (.int (-1)),.no,.no,.no]) (β':=0) (by rfl)]
 obtain⟨env',β',ew,rfl,x,sz,a,b,rfl⟩:=iV (L:=[] ++ []) (t:=cB (f2 (gv 2) (f1 (gv 1) bL) (cV true)))
  (m:=aH (bS 2 [] (f1 (gv 1) bL)) (aH (bS 3 [] (bR af)) (aH (cM (.two 4 5) [1] (bq (gv 1)) (bS 3 ([] ++ ([] ++ [4])) (f2 (gv 3) (aP 2 [5,4] (.two 0 1) (bq (gv 1)) (cB (f2 (gv 0) (gv 2) (cV false))) (fq (aa (gv 3) (aa (gv 1) af)))) dH))) (bS 1 ([] ++ []) (f1 (f2 (gv 1) (gv 3) dH) cY)))))
  (λk env β=>β=0/\∃(l:List Pr) (sz:Int) (x a b:Sl),env= [.fz (.list (ps.map aU)),.fz (.list (l.map aU)),.fz (.int sz),x,a,b]/\OM.GV n ps l/\(sz= -1\/∃lp,OM.GV n ps lp/\l=OM.lu n lp/\sz=lp.length)/\k=2 * (64 - l.length) + (if sz=l.length then 0 else 1))
  (λenv β=>β=0/\∃(x sz a b:Sl),env= [.fz (.list (ps.map aU)),.fz (.list ((OM.cw n (OM.Tr (OM.Mem ps))).map aU)),sz,x,a,b])
  (n:=1000) (k:=2 * (64 - (OM.cw n (OM.Mem ps)).length) + (if (-1:Int)=(OM.cw n (OM.Mem ps)).length then 0 else 1)) (env:=[.fz (.list (ps.map aU)),.fz (.list ((OM.cw n (OM.Mem ps)).map aU)),.fz (.int (-1)),.no,.no,.no]) (β:=0)
  (by split <;> omega) ⟨rfl,_,_,_,_,_,rfl,B0,.inl rfl,rfl⟩ (by
   rintro k env β ⟨rfl,l,sz,x,a,b,rfl,B,hsz,rfl⟩
   have hl:=blen B
   have et:cB (f2 (gv 2) (f1 (gv 1) bL) (cV true)) [.da (.list (ps.map aU)),.da (.list (l.map aU)),.da (.int sz),x.val,a.val,b.val] 0=.ok (!decide (sz=((l.map aU).length:Nat))) 0:=cF (neg:=true) rfl rfl
   rw[NZ] at et
   refine⟨_,_,et,?_⟩
   by_cases c:sz=(l.length:Nat)
   ·refine .inl ⟨by rw[N3 c];rfl,rfl,x,.fz (.int sz),a,b,?_⟩
    rcases hsz with h | ⟨lp,Bp,rfl,h⟩
    ·omega
    ·show [Sl.fz (.list (ps.map aU)),.fz (.list ((OM.lu n lp).map aU)),.fz (.int sz),x,a,b]=_
     rw[OM.Cs Bp (by omega)]
   ·refine .inr ⟨by rw[Oe c];rfl,?_⟩
    obtain⟨B2,hs⟩:=OM.v9 B
    have hl2:=blen B2
    have hge:l.length<=(OM.lu n l).length:=OM.pX (OM.iE B.ris) hs
    have eturn:∃x' a' b':Sl,aH (bS 2 [] (f1 (gv 1) bL)) (aH (bS 3 [] (bR af)) (aH (cM (.two 4 5) [1] (bq (gv 1)) (bS 3 ([] ++ ([] ++ [4])) (f2 (gv 3) (aP 2 [5,4] (.two 0 1) (bq (gv 1)) (cB (f2 (gv 0) (gv 2) (cV false))) (fq (aa (gv 3) (aa (gv 1) af)))) dH))) (bS 1 ([] ++ []) (f1 (f2 (gv 1) (gv 3) dH) cY)))) [.fz (.list (ps.map aU)),.fz (.list (l.map aU)),.fz (.int sz),x,a,b] 0
      =.nx [.fz (.list (ps.map aU)),.fz (.list ((OM.lu n l).map aU)),.fz (.int (l.length:Nat)),x',a',b'] 0:=by
     rw[aF (env':=[.fz (.list (ps.map aU)),.fz (.list (l.map aU)),.fz (.int (l.length:Nat)),x,a,b]) (β':=0) ?g1]
     case g1=>
      show SO.nx [.fz (.list (ps.map aU)),.fz (.list (l.map aU)),.fz (.int ((l.map aU).length:Nat)),x,a,b] 0=_
      rw[NZ]
     have e3:bR af [.da (.list (ps.map aU)),.da (.list (l.map aU)),.da (.int (l.length:Nat)),x.val,a.val,b.val] 0=.ok (.list []) 0:=iu rfl (by simp)
     rw[aF (env':=[.fz (.list (ps.map aU)),.fz (.list (l.map aU)),.fz (.int (l.length:Nat)),.fz (.list []),a,b]) (β':=0) ?g2]
     case g2=>
      show toS (bR af [.da (.list (ps.map aU)),.da (.list (l.map aU)),.da (.int (l.length:Nat)),x.val,a.val,b.val] 0) _=_
      rw[e3];rfl
     obtain⟨env2,β2,ef,rfl,a2,b2,rfl⟩:=fB (t:=.two 4 5) (m:=bS 3 ([] ++ ([] ++ [4])) (f2 (gv 3) (aP 2 [5,4] (.two 0 1) (bq (gv 1)) (cB (f2 (gv 0) (gv 2) (cV false))) (fq (aa (gv 3) (aa (gv 1) af)))) dH)) (ds:=l.map aU) (k:=0)
      (λi env β=>β=0/\∃a b:Sl,env= [.fz (.list (ps.map aU)),.fz (.list (l.map aU)),.fz (.int (l.length:Nat)),.fz (.list (((l.take i).flatMap (xp l)).map aU)),a,b]) (env:=[.fz (.list (ps.map aU)),.fz (.list (l.map aU)),.fz (.int (l.length:Nat)),.fz (.list []),a,b]) (β:=0) ⟨rfl,a,b,rfl⟩ (by
       rintro i d env β hi ⟨rfl,a,b,rfl⟩
       rw[Oa] at hi
       cases q:l[i]? with
       |none=>rw[q] at hi;cases hi
       |some p=>
        rw[q] at hi
        cases hi
        have hil:i < l.length:=(N9.mp q).1
        refine⟨[.fz (.list (ps.map aU)),.fz (.list (l.map aU)),.fz (.int (l.length:Nat)),.fz (.list (((l.take (0 + i)).flatMap (xp l)).map aU)),.fz (.int p.1),.fz (.int p.2)],rfl,[.fz (.list (ps.map aU)),.fz (.list (l.map aU)),.fz (.int (l.length:Nat)),.fz (.list (((l.take (0 + i + 1)).flatMap (xp l)).map aU)),.fz (.int p.1),.fz (.int p.2)],0,?_,rfl,_,_,rfl⟩
        have ec:aP 2 [5,4] (.two 0 1) (bq (gv 1)) (cB (f2 (gv 0) (gv 2) (cV false))) (fq (aa (gv 3) (aa (gv 1) af))) [.da (.list (ps.map aU)),.da (.list (l.map aU)),.da (.int (l.length:Nat)),.da (.list (((l.take (0 + i)).flatMap (xp l)).map aU)),.da (.int p.1),.da (.int p.2)] 0=.ok (.list ((xp l p).map aU)) 0:=by
         rw[dF (l:=l) (e:=aU) (λq=>decide (q.1=p.2)) (λq=>aU (p.1,q.2)) rfl (by omega) (β1:=0)]
         ·unfold xp;rw[O1];rfl
         ·intro q hq
          refine⟨_,rfl,cF (neg:=false) (i:=q.1) (j:=p.2) rfl rfl,λ_=>?_⟩
          exact mZ (ds:=[.int p.1,.int q.2]) rfl (by simp)
        have hk:(l.take (0 + i)).length<=63:=by rw[OX];omega
        have hfl:=xi l (l.take (0 + i))
        have hfl2:(l.take (0 + i)).length * l.length<=63 * 63:=PK hk (by omega)
        have hm1:=zU l p
        have e5:f2 (gv 3) (aP 2 [5,4] (.two 0 1) (bq (gv 1)) (cB (f2 (gv 0) (gv 2) (cV false))) (fq (aa (gv 3) (aa (gv 1) af)))) dH [.da (.list (ps.map aU)),.da (.list (l.map aU)),.da (.int (l.length:Nat)),.da (.list (((l.take (0 + i)).flatMap (xp l)).map aU)),.da (.int p.1),.da (.int p.2)] 0=.ok (.list (((l.take (0 + i + 1)).flatMap (xp l)).map aU)) 0:=by
         refine aI rfl ec ?_
         rw[kn (by rw[NZ,NZ];omega),<-OA]
         have:l.take (0 + i + 1)=l.take (0 + i) ++ [p]:=by rw[Pn,Pj,q];rfl
         rw[this,List.flatMap_append,List.flatMap_cons,List.flatMap_nil,Qz]
        show toS (f2 (gv 3) (aP 2 [5,4] (.two 0 1) (bq (gv 1)) (cB (f2 (gv 0) (gv 2) (cV false))) (fq (aa (gv 3) (aa (gv 1) af)))) dH [.da (.list (ps.map aU)),.da (.list (l.map aU)),.da (.int (l.length:Nat)),.da (.list (((l.take (0 + i)).flatMap (xp l)).map aU)),.da (.int p.1),.da (.int p.2)] 0) _=_
        rw[e5];rfl)
     rw[Pn,NZ,Py (N4 _)] at ef
     rw[aF (env':=[.fz (.list (ps.map aU)),.fz (.list (l.map aU)),.fz (.int (l.length:Nat)),.fz (.list ((l.flatMap (xp l)).map aU)),a2,b2]) (β':=0) ?g3]
     case g3=>exact ef
     have hfl:=xi l l
     have hfl2:l.length * l.length<=63 * 63:=PK (by omega) (by omega)
     have e6:f1 (f2 (gv 1) (gv 3) dH) cY [.da (.list (ps.map aU)),.da (.list (l.map aU)),.da (.int (l.length:Nat)),.da (.list ((l.flatMap (xp l)).map aU)),a2.val,b2.val] 0=.ok (.list ((OM.lu n l).map aU)) 0:=by
      refine cK (x:=.list ((l ++ OM.more l).map aU)) (aI rfl rfl ?_) (oO h8 (OM.Ed B) hl2 rfl)
      rw[kn (by rw[NZ,NZ];omega),<-OA];rfl
     refine⟨.fz (.list ((l.flatMap (xp l)).map aU)),a2,b2,?_⟩
     show toS (f1 (f2 (gv 1) (gv 3) dH) cY [.da (.list (ps.map aU)),.da (.list (l.map aU)),.da (.int (l.length:Nat)),.da (.list ((l.flatMap (xp l)).map aU)),a2.val,b2.val] 0) _=_
     rw[e6];rfl
    obtain⟨x',a',b',et2⟩:=eturn
    refine⟨_,_,_,et2,?_,rfl,_,_,_,_,_,rfl,B2,.inr ⟨l,B,rfl,rfl⟩,rfl⟩
    rw[N8 c]
    split <;> omega)
 rw[aF ew]
 rfl
def wz (ms:List Int)(ps:List Pr):Prop:=∀p,p∈ps->∃i j:Nat,i < j/\ms[i]? =some p.1/\ms[j]? =some p.2
theorem qk {α:Type}:∀{l:List α} {i j:Nat} {x:α},l.Nodup->l[i]? =some x->l[j]? =some x->i=j
 | [],_,_,_,_,h,_=>by simp at h
 |y :: l,0,0,_,_,_,_=>rfl
 |y :: l,0,j + 1,x,nd,h1,h2=>by
  simp at h1
  subst h1
  exact absurd (Ob (by simpa using h2)) (Ov.mp nd).1
 |y :: l,i + 1,0,x,nd,h1,h2=>by
  simp at h2
  subst h2
  exact absurd (Ob (by simpa using h1)) (Ov.mp nd).1
 |y :: l,i + 1,j + 1,x,nd,h1,h2=>by
  rw[qk (l:=l) (i:=i) (j:=j) (Ov.mp nd).2 (by simpa using h1) (by simpa using h2)]
def DO (nd:ms.Nodup)(h:wz ms ps)(t:OM.Tr (OM.Mem ps) a b):∃i j:Nat,i < j/\ms[i]? =some a/\ms[j]? =some b:=by
 refine t.least (S:=λa b=>∃i j:Nat,i < j/\ms[i]? =some a/\ms[j]? =some b) (λa b r=>h _ r) ?_
 rintro a b c ⟨i,j,hij,h1,h2⟩ ⟨k,l,hkl,h3,h4⟩
 have:=qk nd h2 h3
 exact⟨i,l,by omega,h1,h4⟩
def As (nd:ms.Nodup)(h:wz ms ps)(a:Int):¬OM.Tr (OM.Mem ps) a a:=λt=>by
 obtain⟨i,j,hij,h1,h2⟩:=DO nd h t
 have:=qk nd h1 h2
 omega
def du (n:Nat):List Int:=(List.range n).map λ(k:Nat)=>(k:Int)
def bY (n:Nat):(du n).length=n:=by unfold du;simp
def aV :x∈du n↔0<=x/\x < n:=by
 unfold du
 rw[N7]
 constructor
 ·rintro⟨k,hk,rfl⟩
  have:=Og.mp hk
  omega
 ·intro h
  exact⟨x.toNat,Og.mpr (by omega),by omega⟩
def fX (n:Nat):(du n).Nodup:=by
 unfold du
 rw[PV,OP]
 exact (PV.mp PX).imp λ{a b} h e=>h (by omega)
def tx (n:Nat):cU 0 n=(du n).map int:=by
 unfold cU du
 rw[O1]
 refine Pf λk _=>?_
 show int (0 + (k:Int))=_
 rw[Qr];rfl
theorem qA (h:(cU lo n)[i]? =some d):i < n/\d=.int (lo + i):=by
 unfold cU at h
 rw[Oa] at h
 cases q:(List.range n)[i]? with
 |none=>rw[q] at h;cases h
 |some j=>
  rw[q] at h
  cases h
  obtain⟨hi,ej⟩:=N9.mp q
  rw[O6] at hi
  rw[QZ] at ej
  subst ej
  exact⟨hi,rfl⟩
def oN {n:Nat}(h:n<=1000):gO (.int n)=some (.list ((du n).map int)):=by
 unfold gO
 dsimp only
 rw[N1 ⟨by omega,by omega⟩,OB,tx]
def lj (h:fa vs β=.ok (.int n) β1)(hn:n<=1000):i6 fa vs β=.ok (cU 0 n) β1:=by
 unfold i6
 rw[h]
 simp only[mJ]
 rw[N1 (n6 (by omega) (by omega)),OB]
def vX (h:fa vs β=.ok (.int i) β1)(h':fb vs β1=.ok (.int j) β2)(hi:0<=i/\i<=1000)(hj:0<=j/\j<=1000):oF fa fb vs β=.ok (cU i (j - i).toNat) β2:=by
 unfold oF
 rw[h]
 simp only[mJ]
 rw[h']
 simp only[mJ]
 rw[N1 (by rw[n6 (by omega) (by omega),n6 (by omega) (by omega)];rfl)]
def dX (h:fi (vl env) β=.ok ds β1):cM t L fi m env β=ja t m ds (bp L env) β1:=by unfold cM;rw[h];rfl
noncomputable def uD:List D->Int->FB:=xm 8 1 (iz jK fk qp)
def Bw (h1:1<=n)(h8:n<=8)(hp:ms.Perm (du n))(ha:wz ms ps):OM.Wn n ps/\(∀a,¬OM.Tr (OM.Mem ps) a a)/\OM.Ord n (OM.cw n (OM.Tr (OM.Mem ps))):=by
 have nd:ms.Nodup:=hp.nodup_iff.mpr (fX n)
 have w:OM.Wn n ps:=λp hm=>by
  obtain⟨i,j,_,e1,e2⟩:=ha p hm
  have m1:=aV.mp (hp.mem_iff.mp (Ob e1))
  have m2:=aV.mp (hp.mem_iff.mp (Ob e2))
  exact⟨m1,m2⟩
 have ir:=λa=>As nd ha a
 exact⟨w,ir,OM.JN h1 h8 w ir⟩
def ra (h:1<=m)(h2:m<=1000)(β:Int):∃j:Nat,j < m/\fk [.int m] β=.ok (.int (j:Int)) false (β / m):=by
 refine⟨(β % m).toNat,?_,?_⟩
 ·have h0:=Int.emod_nonneg β (b:=(m:Int)) (by omega)
  have h3:=Int.emod_lt_of_pos β (b:=(m:Int)) (by omega)
  omega
 ·rw[uB (by omega) (by omega)]
  have h0:=Int.emod_nonneg β (b:=(m:Int)) (by omega)
  rw[show ((β % m).toNat:Int)=β % m by omega]
def Ei {most:Nat}(hm1:1<=most)(hm8:most<=8)(β:Int):∃(n:Nat) (l:List Pr) (β':Int),uD [.int most] β=.ok (aw n l) false β'/\OM.Ord n l/\n<=most:=by
 obtain⟨j,hj,ej⟩:=ra hm1 (by omega) β
 show ∃(n:Nat) (l:List Pr) (β':Int),Ga (iz jK fk qp [.bx,.fz (.int most),.no,.no,.no,.no,.no,.no] β)=.ok (aw n l) false β'/\OM.Ord n l/\n<=most
 unfold iz
 generalize hβ1:β / (most:Int)=β1 at ej
 have n8:1 + j<=8:=by omega
 have e1:f2 (cst (.int 1)) (qQ 0 fk (aa (gv 1) af)) cD [Nv.bx,.da (.int most),.no,.no,.no,.no,.no,.no] β=.ok (.int ((1 + j:Nat):Int)) β1:=by
  refine aI (x:=.int 1) rfl (qY (by rfl) rfl ej) ?_
  show some (int (1 + (j:Int)))=_
  rw[show ((1 + j:Nat):Int)=1 + (j:Int) by omega]
 rw[aF (env':=[.bx,.fz (.int most),.fz (.int ((1 + j:Nat):Int)),.no,.no,.no,.no,.no]) (β':=β1) ?g1]
 case g1=>
  show toS (f2 (cst (.int 1)) (qQ 0 fk (aa (gv 1) af)) cD [Nv.bx,.da (.int most),.no,.no,.no,.no,.no,.no] β) _=_
  rw[e1];rfl
 generalize hn:1 + j=n at n8
 have n1:1<=n:=by omega
 obtain⟨ms,β2,em,hp⟩:=Gj (du n) (by rw[bY];omega) β1
 have hml:ms.length=n:=by rw[hp.length_eq,bY]
 have e2:qQ 0 qp (aa (f1 (gv 2) gO) af) [Nv.bx,.da (.int most),.da (.int n),.no,.no,.no,.no,.no] β1=.ok (.list (ms.map int)) β2:=by
  refine qY (ds:=[.list ((du n).map int)]) (b:=true) (β1:=β1) (by rfl) ?_ em
  rw[dv,cK (x:=.int n) (d:=.list ((du n).map int)) (β1:=β1) rfl (oN (by omega))];rfl
 rw[aF (env':=[.bx,.fz (.int most),.fz (.int n),.fz (.list (ms.map int)),.no,.no,.no,.no]) (β':=β2) ?g2]
 case g2=>
  show toS (qQ 0 qp (aa (f1 (gv 2) gO) af) [Nv.bx,.da (.int most),.da (.int n),.no,.no,.no,.no,.no] β1) _=_
  rw[e2];rfl
 obtain⟨q,hq,eq⟩:=ra (m:=4) (by omega) (by omega) β2
 obtain⟨th,hth,hthv⟩:∃th:Nat,([2,3,4,7]:List Nat)[q]? =some th/\1<=th/\th<=7:=by
  rcases (show q=0\/q=1\/q=2\/q=3 by omega) with rfl |rfl |rfl |rfl
  ·exact⟨2,rfl,by omega,by omega⟩
  ·exact⟨3,rfl,by omega,by omega⟩
  ·exact⟨4,rfl,by omega,by omega⟩
  ·exact⟨7,rfl,by omega,by omega⟩
 generalize hβ3:β2 / ((4:Nat):Int)=β3 at eq
 have e3:f2 (bR (aa (cst (.int 2)) (aa (cst (.int 3)) (aa (cst (.int 4)) (aa (cst (.int 7)) af))))) (qQ 0 fk (aa (cst (.int 4)) af)) cn [Nv.bx,.da (.int most),.da (.int n),.da (.list (ms.map int)),.no,.no,.no,.no] β2=.ok (.int th) β3:=by
  refine aI (x:=.list (([2,3,4,7]:List Nat).map λ(k:Nat)=>int (k:Int))) (y:=.int q) (iu rfl (by simp)) (qY (ds:=[.int 4]) (by rfl) rfl eq) ?_
  show kG (([2,3,4,7]:List Nat).map λ(k:Nat)=>int (k:Int)) (q:Int)=_
  rw[jf,kC hth];rfl
 rw[aF (env':=[.bx,.fz (.int most),.fz (.int n),.fz (.list (ms.map int)),.fz (.int th),.no,.no,.no]) (β':=β3) ?g3]
 case g3=>
  show toS (f2 (bR (aa (cst (.int 2)) (aa (cst (.int 3)) (aa (cst (.int 4)) (aa (cst (.int 7)) af))))) (qQ 0 fk (aa (cst (.int 4)) af)) cn [Nv.bx,.da (.int most),.da (.int n),.da (.list (ms.map int)),.no,.no,.no,.no] β2) _=_
  rw[e3];rfl
 have e4:bR af [Nv.bx,.da (.int most),.da (.int n),.da (.list (ms.map int)),.da (.int th),.no,.no,.no] β3=.ok (.list []) β3:=iu rfl (by simp)
 rw[aF (env':=[.bx,.fz (.int most),.fz (.int n),.fz (.list (ms.map int)),.fz (.int th),.ow (.list []),.no,.no]) (β':=β3) ?g4]
 case g4=>
  show toS (bR af [Nv.bx,.da (.int most),.da (.int n),.da (.list (ms.map int)),.da (.int th),.no,.no,.no] β3) _=_
  rw[e4];rfl
 obtain⟨env',β',ef,ps,a,b,rfl,hal,hpl⟩:=fB (t:=.nm 6) (m:=cM (.nm 7) (([] ++ []) ++ []) (oF (f2 (gv 6) (cst (.int 1)) cD) (gv 2))
   (i9 (([4] ++ []) ++ []) (cB (f2 (qQ 0 fk (aa (gv 4) af)) (cst (.int 0)) (cV false)))
   (mw 5 (([] ++ []) ++ (([] ++ []) ++ [])) (fq (aa (f2 (gv 3) (gv 6) cn) (aa (f2 (gv 3) (gv 7) cn) af)))) jT)) (ds:=cU 0 n) (k:=0)
  (λi env β=>∃(ps:List Pr) (a b:Sl),env= [.bx,.fz (.int most),.fz (.int n),.fz (.list (ms.map int)),.fz (.int th),.ow (.list (ps.map aU)),a,b]/\wz ms ps/\ps.length<=8 * i)
  (env:=[.bx,.fz (.int most),.fz (.int n),.fz (.list (ms.map int)),.fz (.int th),.ow (.list []),.no,.no]) (β:=β3) ⟨[],.no,.no,rfl,λp hp=>(by cases hp),by simp⟩ (by
   rintro i d env β hi ⟨ps,a,b,rfl,hal,hpl⟩
   obtain⟨hin,rfl⟩:=qA hi
   refine⟨[.bx,.fz (.int most),.fz (.int n),.fz (.list (ms.map int)),.fz (.int th),.ow (.list (ps.map aU)),.fz (.int (0 + (i:Int))),b],rfl,?_⟩
   have er:oF (f2 (gv 6) (cst (.int 1)) cD) (gv 2) [Nv.bx,.da (.int most),.da (.int n),.da (.list (ms.map int)),.da (.int th),.da (.list (ps.map aU)),.da (.int (0 + (i:Int))),b.val] β=.ok (cU (0 + (i:Int) + 1) ((n:Int) - (0 + (i:Int) + 1)).toNat) β:=vX rfl rfl ⟨by omega,by omega⟩ ⟨by omega,by omega⟩
   rw[dX (env:=[.bx,.fz (.int most),.fz (.int n),.fz (.list (ms.map int)),.fz (.int th),.ow (.list (ps.map aU)),.fz (.int (0 + (i:Int))),b]) er]
   obtain⟨env',β',ef,qs,b,rfl,hal2,hql⟩:=fB (t:=.nm 7) (m:=i9 (([4] ++ []) ++ []) (cB (f2 (qQ 0 fk (aa (gv 4) af)) (cst (.int 0)) (cV false)))
     (mw 5 (([] ++ []) ++ (([] ++ []) ++ [])) (fq (aa (f2 (gv 3) (gv 6) cn) (aa (f2 (gv 3) (gv 7) cn) af)))) jT) (ds:=cU (0 + (i:Int) + 1) ((n:Int) - (0 + (i:Int) + 1)).toNat) (k:=0)
    (λk env β=>∃(qs:List Pr) (b:Sl),env= [.bx,.fz (.int most),.fz (.int n),.fz (.list (ms.map int)),.fz (.int th),.ow (.list (qs.map aU)),.fz (.int (0 + (i:Int))),b]/\wz ms qs/\qs.length<=8 * i + k)
    (env:=[.bx,.fz (.int most),.fz (.int n),.fz (.list (ms.map int)),.fz (.int th),.ow (.list (ps.map aU)),.fz (.int (0 + (i:Int))),b]) (β:=β) ⟨ps,b,rfl,hal,by omega⟩ (by
     rintro k d env β hk ⟨qs,b,rfl,hal,hql⟩
     obtain⟨hkn,rfl⟩:=qA hk
     have hkn:i + 1 + k < n:=by omega
     refine⟨[.bx,.fz (.int most),.fz (.int n),.fz (.list (ms.map int)),.fz (.int th),.ow (.list (qs.map aU)),.fz (.int (0 + (i:Int))),.fz (.int (0 + (i:Int) + 1 + (k:Int)))],rfl,?_⟩
     obtain⟨z,hz,ez⟩:=ra hthv.1 (by omega) β
     have et:cB (f2 (qQ 0 fk (aa (gv 4) af)) (cst (.int 0)) (cV false)) [Nv.bx,.da (.int most),.da (.int n),.da (.list (ms.map int)),.da (.int th),.da (.list (qs.map aU)),.da (.int (0 + (i:Int))),.da (.int (0 + (i:Int) + 1 + (k:Int)))] β=.ok (decide ((z:Int)=0)) (β / th):=cF (neg:=false) (qY (ds:=[.int th]) (by rfl) rfl ez) rfl
     by_cases c:(z:Int)=0
     ·rw[N3 c] at et
      have h1:i < ms.length:=by omega
      have h2:i + 1 + k < ms.length:=by omega
      refine⟨[.bx,.fz (.int most),.fz (.int n),.fz (.list (ms.map int)),.fz (.int th),.ow (.list ((qs ++ [(ms[i],ms[i + 1 + k])]).map aU)),.fz (.int (0 + (i:Int))),.fz (.int (0 + (i:Int) + 1 + (k:Int)))],β / th,?_,qs ++ [(ms[i],ms[i + 1 + k])],_,rfl,?_,?_⟩
      ·rw[l9 et]
       have ep:fq (aa (f2 (gv 3) (gv 6) cn) (aa (f2 (gv 3) (gv 7) cn) af)) [Nv.bx,.da (.int most),.da (.int n),.da (.list (ms.map int)),.da (.int th),.da (.list (qs.map aU)),.da (.int (0 + (i:Int))),.da (.int (0 + (i:Int) + 1 + (k:Int)))] (β / th)=.ok (aU (ms[i],ms[i + 1 + k])) (β / th):=by
        refine mZ (ds:=[.int ms[i],.int ms[i + 1 + k]]) ?_ (by simp)
        have a1:f2 (gv 3) (gv 6) cn [Nv.bx,.da (.int most),.da (.int n),.da (.list (ms.map int)),.da (.int th),.da (.list (qs.map aU)),.da (.int (0 + (i:Int))),.da (.int (0 + (i:Int) + 1 + (k:Int)))] (β / th)=.ok (.int ms[i]) (β / th):=by
         refine aI rfl rfl ?_
         show kG (ms.map int) (0 + (i:Int))=_
         rw[Qr,jf,uG h1];rfl
        have a2:f2 (gv 3) (gv 7) cn [Nv.bx,.da (.int most),.da (.int n),.da (.list (ms.map int)),.da (.int th),.da (.list (qs.map aU)),.da (.int (0 + (i:Int))),.da (.int (0 + (i:Int) + 1 + (k:Int)))] (β / th)=.ok (.int ms[i + 1 + k]) (β / th):=by
         refine aI rfl rfl ?_
         show kG (ms.map int) (0 + (i:Int) + 1 + (k:Int))=_
         rw[show (0 + (i:Int) + 1 + (k:Int))=((i + 1 + k:Nat):Int) by omega,jf,uG h2];rfl
        rw[dv,a1]
        dsimp only[R.bnd]
        rw[dv,a2];rfl
       have:=pJ (i:=5) (L:=([] ++ []) ++ (([] ++ []) ++ [])) (env:=[.bx,.fz (.int most),.fz (.int n),.fz (.list (ms.map int)),.fz (.int th),.ow (.list (qs.map aU)),.fz (.int (0 + (i:Int))),.fz (.int (0 + (i:Int) + 1 + (k:Int)))]) (ds:=qs.map aU) (by rfl) ep (by rfl) (by rw[NZ];omega)
       rw[OA]
       exact this
      ·intro p hp
       rcases Of.mp hp with hp |hp
       ·exact hal p hp
       ·have:p=(ms[i],ms[i + 1 + k]):=by simpa using hp
        subst this
        exact⟨i,i + 1 + k,by omega,NW h1,NW h2⟩
      ·rw[Ow];simp;omega
     ·rw[Oe c] at et
      refine⟨_,_,by rw[lJ et];rfl,qs,_,rfl,hal,by omega⟩)
   have hlen:(cU (0 + (i:Int) + 1) ((n:Int) - (0 + (i:Int) + 1)).toNat).length<=7:=by rw[sS];omega
   exact⟨_,_,ef,qs,_,b,rfl,hal2,by omega⟩)
 rw[aF (env':=[.bx,.fz (.int most),.fz (.int n),.fz (.list (ms.map int)),.fz (.int th),.ow (.list (ps.map aU)),a,b]) (β':=β') ?g5]
 case g5=>
  rw[dX (env:=[.bx,.fz (.int most),.fz (.int n),.fz (.list (ms.map int)),.fz (.int th),.ow (.list []),.no,.no]) (lj (n:=n) rfl (by omega))]
  exact ef
 obtain⟨w,ir,O⟩:=Bw n1 n8 hp hal
 refine⟨n,OM.cw n (OM.Tr (OM.Mem ps)),β',?_,O,by omega⟩
 have e9:fq (aa (gv 2) (aa (aq jK (aa (gv 5) af)) af)) [Nv.bx,.da (.int most),.da (.int n),.da (.list (ms.map int)),.da (.int th),.da (.list (ps.map aU)),a.val,b.val] β'=.ok (aw n (OM.cw n (OM.Tr (OM.Mem ps)))) β':=by
  refine mZ (ds:=[.int n,.tuple ((OM.cw n (OM.Tr (OM.Mem ps))).map aU)]) ?_ (by simp)
  have a1:aq jK (aa (gv 5) af) [Nv.bx,.da (.int most),.da (.int n),.da (.list (ms.map int)),.da (.int th),.da (.list (ps.map aU)),a.val,b.val] β'=.ok (.tuple ((OM.cw n (OM.Tr (OM.Mem ps))).map aU)) β':=au rfl (AR n1 n8 w ir)
  rw[dv]
  show (R.ok (int n) β').bnd _=_
  dsimp only[R.bnd]
  rw[dv,a1];rfl
 show Ga (toS (fq (aa (gv 2) (aa (aq jK (aa (gv 5) af)) af)) [Nv.bx,.da (.int most),.da (.int n),.da (.list (ms.map int)),.da (.int th),.da (.list (ps.map aU)),a.val,b.val] β') _)=_
 rw[e9];rfl
theorem zt (p:Pr):∀l:List Pr,((l.map aU).any λe=>PyData.eqv e (aU p))=decide (p∈l)
 | []=>rfl
 |q :: l=>by
  rw[OL,PU,zt p l,Ci,Pc]
  simp only[QU,Oq,NX]
  exact⟨λh=>h.imp Eq.symm id,λh=>h.imp Eq.symm id⟩
def GJ (l:List Pr):(l.map aU).all SeqAt.shaped=true:=by
 rw[Ot]
 intro d hd
 obtain⟨p,_,rfl⟩:=N7.mp hd
 exact tu p
def Aj (neg:Bool)(p:Pr)(l:List Pr):rV neg (aU p) (.tuple (l.map aU))=some (.bool (if neg then !decide (p∈l) else decide (p∈l))):=by
 unfold rV
 simp only[hG,tu,GJ,Bool.and_self,O7,zt]
def pI (neg:Bool)(i j:Int):cV neg (.int i) (.int j)=some (.bool (if neg then !decide (i=j) else decide (i=j))):=rfl
theorem zo (h:fa vs β=.ok (.bool a) β)(h':fb vs β=.ok (.bool b) β):fP fa fb vs β=.ok (.bool (a && b)) β:=by
 unfold fP
 rw[h]
 dsimp only[R.bnd]
 cases a with
 |true=>exact h'
 |false=>rfl
def kZ (h:fa vs β=.ok (.int a) β)(h':fb vs β=.ok (.int b) β):fq (aa fa (aa fb af)) vs β=.ok (aU (a,b)) β:=by
 refine mZ (ds:=[.int a,.int b]) ?_ (by simp)
 rw[dv,h]
 dsimp only[R.bnd]
 rw[dv,h'];rfl
def mL (l:List Pr)(p:Pr):Bool:= !decide (p.1=p.2) && (!decide ((p.1,p.2)∈l) && !decide ((p.2,p.1)∈l))
def LN (h:fa vs β=.ok (aw n l) β):f2 fa (cst (.int 1)) cn vs β=.ok (.tuple (l.map aU)) β:=aI h rfl rfl
def Eo {n:Nat}{l:List Pr}{fa:VF D}{vs:List Nv}{β:Int}(h:fa vs β=.ok (aw n l) β):f2 fa (cst (.int 0)) cn vs β=.ok (.int n) β:=aI h rfl rfl
def Hh:List D->FR:=aZ 3 3 oP
def Lx (n:Nat)(l:List Pr)(a b:Int):Hh [aw n l,.int a,.int b]=.ok (.bool (mL l (a,b))) false:=by
 show fin (toS (fP (f2 (gv 1) (gv 2) (cV true)) (fP (f2 (fq (aa (gv 1) (aa (gv 2) af))) (f2 (gv 0) (cst (.int 1)) cn) (rV true)) (f2 (fq (aa (gv 2) (aa (gv 1) af))) (f2 (gv 0) (cst (.int 1)) cn) (rV true))) [.da (aw n l),.da (.int a),.da (.int b)] 0) _)=_
 rw[zo (aI (x:=.int a) (y:=.int b) rfl rfl (pI true a b)) (zo (aI (kZ (a:=a) (b:=b) rfl rfl) (LN (n:=n) (l:=l) rfl) (Aj true (a,b) l)) (aI (kZ (a:=b) (b:=a) rfl rfl) (LN (n:=n) (l:=l) rfl) (Aj true (b,a) l)))]
 rfl
def tL:List D->FR:=aZ 1 1 h9
def E1 {n:Nat}(h1:1<=n)(h8:n<=8):tL [.int n]=.ok (.list ((OM.dI n).map aU)) true:=by
 have hm:n * n<=64:=PK h8 h8
 have e:aP 1 [0] (.nm 0) (i6 (f2 (gv 0) (gv 0) fo)) kL (fq (aa (f2 (gv 0) (gv 1) BW) (aa (f2 (gv 0) (gv 1) mq) af))) [.da (.int n)] 0=.ok (.list ((OM.dI n).map aU)) 0:=by
  have hi:i6 (f2 (gv 0) (gv 0) fo) [.da (.int n)] 0=.ok ((List.range (n * n)).map λ(k:Nat)=>int (0 + (k:Int))) 0:=by
   refine lj (n:=n * n) (aI (x:=.int n) (y:=.int n) rfl rfl ?_) (by omega)
   rw[nN ⟨by omega,by omega⟩];rfl
  rw[bI (l:=List.range (n * n)) (e:=λ(k:Nat)=>int (0 + (k:Int))) (λk=>aU (((k / n:Nat):Int),((k % n:Nat):Int))) hi (by rw[O6];omega) λk hk=>⟨_,rfl,?_⟩]
  ·unfold OM.dI;rw[O1];rfl
  ·refine kZ (aI (x:=.int (0 + (k:Int))) (y:=.int n) rfl rfl ?_) (aI (x:=.int (0 + (k:Int))) (y:=.int n) rfl rfl ?_)
   ·rw[y0 (by omega) (by omega),Qr];rfl
   ·rw[oC (by omega),Qr];rfl
 show fin (h9 [.fz (.int n)] 0)=_
 unfold h9
 rw[ny,show vl [Sl.fz (.int n)]= [.da (.int n)] from rfl,e];rfl
def M7 (n:Nat)(l:List Pr):List Pr:=(OM.dI n).filter (mL l)
def jG (n:Nat):(OM.dI n).length=n * n:=by unfold OM.dI;simp
def tR :p∈M7 n l↔((0<=p.1/\p.1 < n)/\(0<=p.2/\p.2 < n))/\mL l p=true:=by
 unfold M7;rw[Oi,OM.cJ]
def fF (h:fa vs β=.ok (.bool c) β):kU fa vs β=.ok c β:=by rw[xF,h];rfl
end RM
namespace L2
open PySem PySem.Spec PyProof.Rows
section
variable {X:Cx}{pins:List (Addr×Obj)}{σ:St}{H:Hp}{s:Shared}
def Inv.turnedL {t':Nat}{ch:List Addr}{h':Heap}(I:Inv X pins σ H s)(k:∀b o,b∉ch->s.heap.get? b=some o->h'.get? b=some o)(hf:∀b∈ch,mH X pins H b):Inv X pins σ H {s with heap:=h',toks:=t'}:=by
 have nit:∀b u,H b=some u->b∉ch:=λb u e z=>by rw[(hf b z).1] at e;cases e
 have nL:X.env.locals∉ch:=λz=>(hf _ z).2.1 rfl
 refine I.step (g':=s.gens) (d':=s.drawn) (ch:=ch) (λb hb=>?_) (λb o _ _ hc e _=>k b o hc e) (λb o _ _ hc e _=>⟨o.slots,k b o hc e⟩) (λ_ _ _ _ n=>n)
  (λb o hc e=>⟨o,k b o hc e⟩) (λ_ _ e=>e) (λ_ _ _ e=>e) (λb ps e=>⟨#[],by rw[e];simp⟩) (λm hm=>?_) (λb u e=>?_) I.bare
 ·obtain⟨f0,f1,f2,f3,f4,f5⟩:=hf b hb
  exact⟨f3,f1,f4,f5⟩
 ·obtain⟨o,es,ep,ho,r⟩:=hm
  exact⟨o,es,ep,k _ o nL ho,r⟩
 ·refine (I.hok b u e).stay (λc v hc q=>k c v ?_ q) (λ_ q=>q) λ_ _ q=>q
  rcases hc with z |z
  ·rw[z];exact nit b u e
  ·exact nit c _ z
end
def MG (a b:Addr):It:=
 ⟨λi H=>∃xs ys x y,Rd H a (.lst xs)/\Rd H b (.lst ys)/\xs[i]? =some x/\ys[i]? =some y,
  λi H v H'=>∃x y t,H t=none/\(∀xs,Rd H a (.lst xs)->xs[i]? =some x)/\(∀ys,Rd H b (.lst ys)->ys[i]? =some y)/\v=.ref t/\H'=upd H t (.tup [x,y]),
  λi H=>∃xs ys,Rd H a (.lst xs)/\Rd H b (.lst ys)/\(xs.length<=i\/ys.length<=i)⟩
abbrev xu (n:Nat):List Nat:=[n + 4,n + 2,n + 3,n,n + 1]
def GG {H:Hp}{a:Addr}(h:Rd H a u):H a≠none:=by
 rcases h with h | ⟨o,h⟩ <;> rw[h] <;> simp
def pN (i j:Nat)(h:(i == j)=false):(n + i:Nat)≠n + j:=by
 have:i≠j:=by simpa using h
 omega
def Dx {H:Hp}{a b:Addr}(hn:∀c∈xu n,H c=none)(ha:Rd H a u)(hb:Rd H b v):ZipApart (n + 4) (n + 2) (n + 3) n (n + 1) a b:=by
 have k:∀{p:Addr} {u:HO},Rd H p u->∀c∈xu n,p≠c:=λ{p u} h c hc e=>GG h (by rw[e];exact hn c hc)
 have e0:n∈xu n:=by simp
 have e1:n + 1∈xu n:=by simp
 have e3:n + 3∈xu n:=by simp
 have e4:n + 4∈xu n:=by simp
 exact⟨pN 2 4 rfl,pN 3 4 rfl,pN 0 4 rfl,pN 1 4 rfl,pN 2 3 rfl,pN 2 0 rfl,pN 2 1 rfl,pN 3 0 rfl,pN 3 1 rfl,pN 0 1 rfl,k ha _ e4,k ha _ e3,k ha _ e0,k ha _ e1,k hb _ e4,k hb _ e3,k hb _ e0,k hb _ e1⟩
def DU {P:Program}{w:World}{K:Frag}{elts:List Expr}{x1}{pos:Pos}(a b:Addr)(n:Nat):Turn P w K (.Tuple elts x1 pos) (MG a b) (xu n) (n + 4)
  (λi h=>IsZip h (n + 4) (n + 2) (n + 3) .none/\IsPair h (n + 2) (.ref n) (.ref (n + 1))/\(∃u v,IsPair h (n + 3) u v)/\h.IsListIter n a i/\h.IsListIter (n + 1) b i) where
 mem:=by simp
 obj:=λi h st c hc=>by
  obtain⟨z1,z2,⟨u,v,z3⟩,⟨o4,z4,_,d4⟩,⟨o5,z5,_,d5⟩⟩:=st
  simp only[xu,NX,OC,Po] at hc
  rcases hc with rfl |rfl |rfl |rfl |rfl
  ·exact⟨_,z1,λv z=>by
    have z':Data.fields _=Data.cell v:=z
    cases z'⟩
  ·exact⟨_,z2,λv z=>by
    have z':Data.seq _ _=Data.cell v:=z
    cases z'⟩
  ·exact⟨_,z3,λv z=>by
    have z':Data.seq _ _=Data.cell v:=z
    cases z'⟩
  ·exact⟨o4,z4,λv z=>by rw[d4] at z;cases z⟩
  ·exact⟨o5,z5,λv z=>by rw[d5] at z;cases z⟩
 keep:=λi h h' st k=>by
  obtain⟨z1,z2,⟨u,v,z3⟩,z4,z5⟩:=st
  exact⟨k _ (by simp) _ z1,k _ (by simp) _ z2,⟨u,v,k _ (by simp) _ z3⟩,z4.at λo e=>k _ (by simp) o e,z5.at λo e=>k _ (by simp) o e⟩
 item:=by
  intro X hP hw hK hc i pins s σ H E I hf st hg
  subst hP hw hK
  obtain⟨xs,ys,x,y,ha,hb,hx,hy⟩:=hg
  obtain⟨its,rv,p,hz⟩:=I.list (.inl ha)
  obtain⟨its2,rv2,p2,hz2⟩:=I.list (.inl hb)
  obtain⟨u,hu,ru⟩:=rv.get hx
  obtain⟨u2,hu2,ru2⟩:=rv2.get hy
  obtain⟨z1,z2,⟨c1,c2,z3⟩,z4,z5⟩:=st
  have D:=Dx (λc hc=>(hf c hc).1) ha hb
  refine wpAny_pyNext_zip_item D z1 z2 z3 z4 z5 p.isList p2.isList (x:=u) (y:=u2) (by simpa using hu) (by simpa using hu2) λh' q1 q2 q3 q4 q5 q6 q7=>?_
  refine⟨_,rfl,wpAny_letOwnedTupleGo_zip (s:={s with heap:=h'}) q1 λh2 r1 r2=>?_⟩
  have r2:∀c,c≠n + 4->h2.get? c=h'.get? c:=r2.2
  have lz:n + 4 < s.heap.objs.size:=Oc z1
  have hT:H s.heap.objs.size=none:=I.hok.fresh (N4 _)
  have hpair:h2.get? s.heap.objs.size=some {cls:=.type "tuple",data:=.seq #[u,u2]}:=(r2 _ (QW lz)).trans q5
  have I1:Inv X pins σ (upd H s.heap.objs.size (.tup [x,y])) {s with heap:=s.heap.push {cls:=.type "tuple",data:=.seq #[u,u2]},toks:=s.toks}:=
   I.laid (λb o e=>NY _ e) (N4 _) ⟨by show 2<=sizeLine;rw[Oo];omega,[u,u2],.cons ru (.cons ru2 .nil),r6.new _ _⟩
  have hf':∀c∈xu n,mH X pins (upd H s.heap.objs.size (.tup [x,y])) c:=λc hc=>⟨by
   rw[aC (λz=>?_)]
   ·exact (hf c hc).1
   ·subst z
    simp only[xu,NX,OC,Po] at hc
    omega,(hf c hc).2⟩
  have I2:Inv X pins σ (upd H s.heap.objs.size (.tup [x,y])) {s with heap:=h2,toks:=s.toks}:=by
   refine I1.turnedL (ch:=xu n) (λc o hc e=>?_) hf'
   have e:(s.heap.push {cls:=.type "tuple",data:=.seq #[u,u2]}).get? c=some o:=e
   simp only[xu,NX,OC,Po,not_or] at hc
   rw[r2 c hc.1]
   by_cases z:c=s.heap.objs.size
   ·subst z
    rw[Od _ rfl] at e
    rw[<-e];exact q5
   ·refine q7 c o hc.1 hc.2.2.1 hc.2.2.2.1 hc.2.2.2.2 ?_
    rw[QI _ _ _ z] at e
    exact e
  refine⟨.ref s.heap.objs.size,_,I2,rfl,⟨x,y,_,hT,λxs' h'=>?_,λys' h'=>?_,rfl,rfl⟩,⟨r1,?_,⟨u,u2,?_⟩,?_,?_⟩,λc hc=>(hf' c hc).1⟩
  ·rw[I.list_inj (.inl h') (.inl ha)];exact hx
  ·rw[I.list_inj (.inl h') (.inl hb)];exact hy
  ·exact (r2 _ (pN 2 4 rfl)).trans (q7 _ _ (pN 2 4 rfl) (pN 2 3 rfl) (pN 2 0 rfl) (pN 2 1 rfl) z2)
  ·exact (r2 _ (pN 3 4 rfl)).trans q2
  ·exact q3.at λo e=>(r2 _ (pN 0 4 rfl)).trans e
  ·exact q4.at λo e=>(r2 _ (pN 1 4 rfl)).trans e
 done:=by
  intro X hP hw hK hc i pins s σ H E I hf st hg
  subst hP hw hK
  obtain⟨xs,ys,ha,hb,hl⟩:=hg
  obtain⟨its,rv,p,hz⟩:=I.list (.inl ha)
  obtain⟨its2,rv2,p2,hz2⟩:=I.list (.inl hb)
  obtain⟨z1,z2,⟨c1,c2,z3⟩,z4,z5⟩:=st
  have D:=Dx (λc hc=>(hf c hc).1) ha hb
  have l1:=rv.length
  have l2:=rv2.length
  refine wpAny_pyNext_zip_end (I.ok.hd hc) D z1 z2 z3 z4 z5 p.isList p2.isList (hl.imp (λh=>by simp;omega) λh=>by simp;omega) λh' q=>⟨rfl,?_⟩
  refine I.turnedL (t':=s.toks) (ch:=xu n) (λc o hc e=>?_) hf
  simp only[xu,NX,OC,Po,not_or] at hc
  exact q c o hc.1 hc.2.2.1 hc.2.2.2.1 hc.2.2.2.2 e
 self:=λ_ _ _ _ _ st h=>wpAny_pyIter_zip st.1 h
def MJ (ta:TA):TI:=λσ H R=>ta σ H λvs H2=>∃a b xs ys,vs= [.ref a,.ref b]/\Rd H2 a (.lst xs)/\Rd H2 b (.lst ys)/\R (MG a b) H2
def boot_zip:bootBuiltins "zip"=some (.type "zip"):=by decide +kernel
section
variable {X:Cx}
theorem J0 {a b:Expr}{ta:TA}{p pos pt:Pos}{elts:List Expr}{x1}(hg:Gl X "zip")(hm:X.mg "zip"=none)(ha:PA X [a,b] ta)(hs:starEach [a,b] X.env= [(false,eval a X.env),(false,eval b X.env)]:=by rfl)(hs2:starEach [b] X.env= [(false,eval b X.env)]:=by rfl) :
  PI X (.Tuple elts x1 pt) (.Call (.Name "zip" p) [a,b] [] pos) (MJ ta):=by
 intro pins s σ H R I h
 refine Call_ (lg I hg hm boot_zip (Pq (cR (ha pos pins s σ H _ I h) λus s1 ⟨vs,H1,I1,r1,q1⟩=>?_) (by rw[hs,hs2]) (by rw[hs2];rfl)))
 obtain⟨a,b,xs,ys,e,h1,h2,q⟩:=q1
 subst e
 cases r1 with
 |cons r rr=>
  cases rr with
  |cons r' rr=>
   cases rr
   cases r
   cases r'
   obtain⟨its,rv,p1,hz⟩:=I1.list (.inl h1)
   obtain⟨its2,rv2,p2,hz2⟩:=I1.list (.inl h2)
   refine call_zip_2 p1.isList p2.isList λh' z1 z2 z3 z4 z5 z6 z7=>?_
   refine wpAny_pyIter_zip z1 ⟨_,xu s1.heap.objs.size,_,_,H1,rfl,I1.kept (t':=s1.toks) z7,DU a b s1.heap.objs.size,⟨z1,z2,⟨_,_,z3⟩,z4,z5⟩,λc hc=>?_,q⟩
   have:s1.heap.objs.size<=c:=by
    simp only[xu,NX,OC,Po] at hc
    rcases hc with rfl |rfl |rfl |rfl |rfl <;> first |exact N4 _ |exact Nat.le_add_right _ _
   exact I1.fpOk this (I1.hok.fresh this)
end
section
variable {X:Cx}{Γ:Fx}{E:XK}{e a b c:Expr}{f fa fb:VF D}{L La Lb:List Nat}{md ma mb:Md}{pos:Pos}
def vR (ds es:List D):List D:=List.zipWith (λd e=>.tuple [d,e]) ds es
def FH (fa fb:VF D):VF (List D):=λvs β=>(fa vs β).bnd λx β1=>(fb vs β1).bnd λy β2=>match x,y with
 | .list ds,.list es=>.ok (vR ds es) β2
 |_,_=>.bad
def D4 {K:Frag}{B:Option Addr}{G H1:Hp}{p q:Addr}{xs ys:List V}{ds es:List D}(hp:Rd G p (.lst xs))(hq:Rd G q (.lst ys))(r:cg K G xs ds)(r':cg K G ys es):Walk K B G H1 (vR ds es) (MG p q):=λGc H i s1 s2 m=>by
 have hp':=hp.mono (s1.trans s2)
 have hq':=hq.mono (s1.trans s2)
 have l1:=r.len
 have l2:=r'.len
 have lz:(vR ds es).length=min ds.length es.length:=by unfold vR;rw[List.length_zipWith]
 refine⟨λhi=>⟨?_,λx H' y=>?_⟩,λhi=>⟨xs,ys,hp',hq',?_⟩⟩
 ·have h1:i < xs.length:=by omega
  have h2:i < ys.length:=by omega
  exact⟨xs,ys,xs[i],ys[i],hp',hq',by simp[h1],by simp[h2]⟩
 ·obtain⟨x,y,t,ht,hx,hy,rfl,rfl⟩:=y
  obtain⟨d,ed,rd⟩:=r.at' (hx xs hp')
  obtain⟨d2,ed2,rd2⟩:=r'.at' (hy ys hq')
  have xn:=Ext.new s2 (o:=.tup [x,y]) ht
  refine⟨upd Gc t (.tup [x,y]),.tuple [d,d2],xn,?_,.tup (.inl (.inl aA)) (.cons (rd.mono (s1.trans xn.gg)) (.cons (rd2.mono (s1.trans xn.gg)) .nil))⟩
  unfold vR
  rw[List.getElem?_zipWith,ed,ed2]
 ·omega
theorem IK {p pt:Pos}{elts:List Expr}{x1}(hg:Gl X "zip")(hm:X.mg "zip"=none)(ha:SE X Γ E a fa La .v)(hb:SE X Γ E b fb Lb .v)(hs:starEach [a,b] X.env= [(false,eval a X.env),(false,eval b X.env)]:=by rfl)(hs2:starEach [b] X.env= [(false,eval b X.env)]:=by rfl)(hs':starEach [a,b] X.env=(false,eval a X.env) :: starEach [b] X.env:=by rfl)(hs3:starEach [b] X.env=(false,eval b X.env) :: starEach [] X.env:=by rfl) :
  SI X Γ E (.Tuple elts x1 pt) (.Call (.Name "zip" p) [a,b] [] pos) (FH fa fb) (La ++ Lb) .v:=by
 refine PI.post (J0 hg hm (aN ha (aN hb bu hs3) hs') hs hs2) λσ H Q ⟨env,G,B,β,I,o⟩=>?_
 refine⟨env,G,B,β,I,o.bnd.imp λd1 β1 h x G1 H1 I1 s1 m1 vx=>⟨bp La env,G1,B,β1,I1,?_⟩⟩
 rw[gy]
 refine h.bnd.imp λd2 β2 h y G2 H2 I2 s2 m2 vy=>?_
 have vx:Rp Γ.K G1 x d1:=vx
 have vy:Rp Γ.K G2 y d2:=vy
 obtain⟨ds,es,rfl,rfl⟩:∃ds es,d1=.list ds/\d2=.list es:=by
  cases d1 <;> cases d2 <;> first |exact h.elim |exact⟨_,_,rfl,rfl⟩
 cases vx with
 | @lst p xs _ hp r=>
  cases vy with
  | @lst q ys _ hq r'=>
   have hp:Rd G1 p (.lst xs):=.inl hp
   have hq:Rd G2 q (.lst ys):=.inl hq
   exact⟨p,q,xs,ys,rfl,hp.mono (s2.trans I2.sub),hq.mono I2.sub,h _ G2 H2 (by rw[cE];exact I2) (s1.trans s2) (m1.trans m2) (D4 (hp.mono s2) hq (r.mono s2) r')⟩
end
section
variable {κ:Type}[DecidableEq κ]
def GD (kvs:List (κ×V))(k:κ):Option V:=(kvs.find? λkv=>decide (kv.1=k)).map (·.2)
def putK (kvs:List (κ×V))(k:κ)(v:V):List (κ×V):=
 if (kvs.any λkv=>decide (kv.1=k))=true then kvs.map (λkv=>if kv.1=k then (kv.1,v) else kv) else kvs ++ [(k,v)]
theorem KV.any (r:KV kvs vs)(k:κ):(kvs.any λkv=>decide (kv.1=k))=vs.any λkv=>decide (kv.1=k):=by
 unfold KV at r
 induction r with
 |nil=>rfl
 |cons h t ih=>rw[PU,PU,ih,h.1]
end
def EB (H:Hp)(a:Addr)(y:V)(r:Option V):Prop:=
 (∃kvs k,Rd H a (.dK kvs)/\y=kV k/\r=GD kvs k)\/∃kvs k b,Rd H a (.dT kvs)/\y=.ref b/\Rd H b (.tup (k.map kV))/\r=GD kvs k
def Gh (H:Hp)(a:Addr)(y v:V)(H':Hp):Prop:=
 (∃kvs k,H a=some (.dK kvs)/\y=kV k/\kvs.length < sizeLine/\H'=upd H a (.dK (putK kvs k v)))\/
 ∃kvs k b,H a=some (.dT kvs)/\y=.ref b/\Rd H b (.tup (k.map kV))/\kvs.length < sizeLine/\H'=upd H a (.dT (putK kvs k v))
def EB.k {H:Hp}{a:Addr}{kvs:List (Key×V)}{k:Key}(e:H a=some (.dK kvs)):EB H a (kV k) (GD kvs k):=.inl ⟨kvs,k,.inl e,rfl,rfl⟩
def EB.t {H:Hp}{a b:Addr}{kvs:List (List Key×V)}{k:List Key}(e:H a=some (.dT kvs))(eb:Rd H b (.tup (k.map kV))):EB H a (.ref b) (GD kvs k):=.inr ⟨kvs,k,b,.inl e,rfl,eb,rfl⟩
def Gh.k {H:Hp}{a:Addr}{kvs:List (Key×V)}{k:Key}{v:V}(e:H a=some (.dK kvs))(hl:kvs.length < sizeLine):Gh H a (kV k) v (upd H a (.dK (putK kvs k v))):=.inl ⟨kvs,k,e,rfl,hl,rfl⟩
def Gh.t {H:Hp}{a b:Addr}{kvs:List (List Key×V)}{k:List Key}{v:V}(e:H a=some (.dT kvs))(eb:Rd H b (.tup (k.map kV)))(hl:kvs.length < sizeLine) :
  Gh H a (.ref b) v (upd H a (.dT (putK kvs k v))):=.inr ⟨kvs,k,b,e,rfl,eb,hl,rfl⟩
section
variable {X:Cx}{pos:Pos}
end
mutual
def J2:D->Bool
 | .list ds=>Dt ds
 | .tuple ds=>Dt ds
 | .dict kvs=> !kvs.isEmpty && kvs.all λkv=>match kv.1,kv.2 with
  | .str _,.int _=>true
  |_,_=>false
 |_=>true
def Dt:List D->Bool
 | []=>true
 |d :: ds=>J2 d && Dt ds
end
section
variable {prog:Program}{w:World}{A:Around}{E:Value->Shared->Prop}{s:Shared}{it t:Addr}{i:Nat}{xs:Array Value}{Q:Value->Shared->Prop}
theorem Mp (hi:s.heap.IsTupleIter it t i)(ht:s.heap.IsTuple t xs)
  (k1:∀x,xs[i]? =some x->∀h',h'.IsTupleIter it t (i + 1)->Heap.SameBut it s.heap h'->Q x {s with heap:=h'})
  (k2:xs[i]? =none->A.handled=none/\∀h' e,Heap.ExtBut it s.heap h'->(∃o,h'.get? e=some o/\o.cls=.type "StopIteration")->E (.ref e) {s with heap:=h'}) :
  wpAny (model prog w) A (Builtin.SmallTypes.nextOf (.ref it)) Q E s:=by
 obtain⟨o,ho,hc,hd⟩:=id hi
 obtain⟨ol,hol, -,nl,hdl⟩:=ht
 refine NV (wpAny_callSpecial?_slot (name:=Str.ofString "__next__") hi.typeIs F.slot_tuple_iterator_next (PY F.slot_tuple_iterator_next hi.typeIs F.entry_tuple_iterator_next ?_ (F.args_tuple_iterator_next_1 _)))
 refine (show wpAny _ _ (field (.ref it) 0 >>= _) _ _ s from NV (wpAny_field ho hd (x:=.ref t) rfl ?_))
 refine (show wpAny _ _ (if (Value.ref t == Value.none)=true then _ else _) _ _ s from ?_)
 rw[N8 (by exact OG)]
 refine (show wpAny _ _ (field (.ref it) 1 >>= _) _ _ s from NV (wpAny_field ho hd (x:=.int i 0) rfl ?_))
 refine (show wpAny _ _ (seqItems? (.ref t) >>= _) _ _ s from NV (wpAny_seqItems hol hdl ?_))
 cases hx:xs[i]? with
 |some x=>
  simp only[OB,hx]
  refine NV (Qg ho hd (by simp) (N2 ⟨x,rfl,N2 (k1 x hx _ ?_ (Heap.SameBut.update ..))⟩))
  refine⟨_,OT _ ho (Obj.isFreed_of_fields (Q6 hd _)),(Obj.cls_mapFields ..).trans hc,?_⟩
  rw[Q6 hd]
  simp[rawInt]
 |none=>
  obtain⟨hh,hE⟩:=k2 hx
  simp only[OB,hx]
  refine NV (wpAny_rule (NV (Qg ho hd (by simp) (show wpAny _ _ (newExc (.type "StopIteration") [] >>= _) _ _ _ from NV ?_))))
  simp only[newExc,newTuple]
  refine NV (Qa (NV (m:=firstArgMember _ _) (wpAny_of_eq (a:=Value.none) (by first |rfl | (simp only[firstArgMember];rfl)) (Qa ?_ (by size_fits)))) (by size_fits))
  simp only[raiseNew]
  refine NV (wpAny_handled ?_)
  have hh':A.in1.handled=none:=hh
  first |rw[hh'] |rw[hh]
  exact NV (N2 (wpAny_throw (hE _ _ (((Heap.SameBut.update ..).extBut.push _).push _) ⟨_,Od _ rfl,rfl⟩)))
def Je (hh:A.handled=none)(hne:t≠it)(xs:Array Value):Draws prog w A it [it,t] xs.size (λi v=>xs[i]? =some v) (λi h=>h.IsTupleIter it t i/\h.IsTuple t xs) where
 live:=λ_ _ st=>let ⟨o,ho,_⟩:=st.1;⟨o,ho⟩
 frame:=λ_ _ _ st hk=>⟨st.1.at λo e=>hk it (by simp) o e,st.2.at λo e=>hk t (by simp) o e⟩
 item:=λi s Q E hi st k=>Mp st.1 st.2 (λx hx h' q1 q2=>k x h' s.toks hx ⟨q1,st.2.extBut q2.extBut hne⟩ q2) λz=>by simp at z;omega
 done:=λs Q E st k=>Mp st.1 st.2 (λx hx=>by simp at hx) λ_=>⟨hh,k⟩
end
abbrev IM (t:Addr):Obj:={cls:=.type "tuple_iterator",data:=.fields #[.ref t,.int 0 0]}
abbrev L6 (it:Addr):Obj:={cls:=.type "enumerate",data:=.fields #[.none,.bool false,.ref it,rawInt 0,.none,.none]}
def El (t:Addr)(xs:Array Value)(n:Nat)(dc:Option Addr)(sl:Array (Option Value)) :
  Meets (Builtin.«enumerate.__new__» ⟨[.type "enumerate",.ref t],[]⟩) (λ_ R s=>s.heap.get? t=some ⟨.type "tuple",dc,.seq xs n,sl⟩/\
   R (.ok (.ret (.ref (s.heap.push (IM t)).objs.size))) {s with heap:=(s.heap.push (IM t)).push (L6 s.heap.objs.size)}):=by
 refine .of_wp λprog w A R s h=>?_
 obtain⟨hp,g,d,tk,os⟩:=s
 obtain⟨hl,h⟩:=h
 have sb:=sub_enumerate
 have hT:Heap.IsTuple (Shared.heap ⟨hp,g,d,tk,os⟩) t xs:=⟨_,hl,rfl,n,rfl⟩
 wp_walk using Q9 hl
 refine wpAny_stack_any λst=>N2 ?_
 split
 ·rename_i c _ _ _ _ _
  cases (c == Value.type "enumerate") <;> (wp_walk using Q9 hl,QA hT;exact⟨_,rfl,h⟩)
 ·wp_walk using Q9 hl,QA hT
  exact⟨_,rfl,h⟩
section
variable {prog:Program}{w:World}{A:Around}{E:Value->Shared->Prop}{s:Shared}
def yz {t:Addr}{xs:Array Value}{Q:Value->Shared->Prop}(hT:s.heap.IsTuple t xs)
  (k:∀h',IsEnum h' (s.heap.objs.size + 1) s.heap.objs.size 0 .none->h'.IsTupleIter s.heap.objs.size t 0->(∀b o,s.heap.get? b=some o->h'.get? b=some o)->Q (.ref (s.heap.objs.size + 1)) {s with heap:=h'}) :
  wpAny (model prog w) A (call (.type "enumerate") [.ref t]) Q E s:=by
 obtain⟨⟨c,dc,dt,sl⟩,hl,hc,n,hd⟩:=hT
 have hc:c=.type "tuple":=hc
 have hd:dt=.seq xs n:=hd
 subst hc hd
 refine callType_new F.called_enumerate (by decide) (F.typeCall_enumerate_1 _) (F.newCall_enumerate_1 _) (λob=>F.args_object_init_2 ob _) F.entry_enumerate_new (El t xs n dc sl) ⟨hl,?_⟩
 have hz:(s.heap.push (IM t)).objs.size=s.heap.objs.size + 1:=O9 ..
 have g2:((s.heap.push (IM t)).push (L6 s.heap.objs.size)).get? (s.heap.push (IM t)).objs.size=some (L6 s.heap.objs.size):=Od _ rfl
 have g1:((s.heap.push (IM t)).push (L6 s.heap.objs.size)).get? s.heap.objs.size=some (IM t):=NY _ (Od _ rfl)
 rw[hz] at g2
 show _/\_
 rw[hz]
 exact⟨⟨_,g2,rfl⟩,k _ g2 ⟨_,g1,rfl,rfl⟩ λb o e=>NY _ (NY _ e)⟩
end
def JM (hh:A.handled=none)(i:Nat)(hx:xs[i]? =none):Draws prog w A it [it,t] i (λ_ _=>False) (λj h=>j=i/\h.IsTupleIter it t i/\h.IsTuple t xs) where
 live:=λ_ _ st=>let ⟨o,ho,_⟩:=st.2.1;⟨o,ho⟩
 frame:=λ_ _ _ st hk=>⟨st.1,st.2.1.at λo e=>hk it (by simp) o e,st.2.2.at λo e=>hk t (by simp) o e⟩
 item:=λj s Q E hi st k=>absurd st.1 (by omega)
 done:=λs Q E st k=>Mp st.2.1 st.2.2 (λx h=>by rw[hx] at h;cases h) λ_=>⟨hh,k⟩
def Nb (K:Frag)(a:Addr):It:=
 ⟨λi H=>∃xs x,fO K H a xs/\xs[i]? =some x,
  λi H v H'=>∃x t,H t=none/\(∀xs,fO K H a xs->xs[i]? =some x)/\v=.ref t/\H'=upd H t (.tup [.int i,x]),
  λi H=>∃xs,fO K H a xs/\xs.length<=i⟩
abbrev rj (n:Nat):List Nat:=[n + 1,n]
def Bl {h:Heap}{a n:Addr}{i:Nat}{its:Array Value}{b:Addr}(p:h.IsTuple a its)(q:h.IsTupleIter n b i):a≠n:=λz=>by
 subst z
 obtain⟨o,e,c,_⟩:=p
 obtain⟨o',e',c',_⟩:=q
 rw[e] at e';cases e'
 rw[c] at c'
 simp at c'
def BI {a n it:Addr}(p:h.IsTuple a its)(q:IsEnum h n it i old):n≠a:=λz=>by
 subst z
 obtain⟨o,e,c,_⟩:=p
 rw[q] at e;cases e
 simp at c
def xX {P:Program}{w:World}{K:Frag}{elts:List Expr}{x1}{pos:Pos}(a:Addr)(n:Nat):Turn P w K (.Tuple elts x1 pos) (Nb K a) (rj n) (n + 1)
  (λi h=>(∃old,IsEnum h (n + 1) n i old)/\h.IsTupleIter n a i) where
 mem:=by simp
 obj:=λi h st c hc=>by
  obtain⟨⟨old,z1⟩,⟨o2,z2,_,d2⟩⟩:=st
  simp only[rj,NX,OC,Po] at hc
  rcases hc with rfl |rfl
  ·exact⟨_,z1,λv z=>by
    have z':Data.fields _=Data.cell v:=z
    cases z'⟩
  ·exact⟨o2,z2,λv z=>by rw[d2] at z;cases z⟩
 keep:=λi h h' st k=>by
  obtain⟨⟨old,z1⟩,z2⟩:=st
  exact⟨⟨old,k _ (by simp) _ z1⟩,z2.at λo e=>k _ (by simp) o e⟩
 item:=by
  intro X hP hw hK hc i pins s σ H E I hf st hg
  subst hP hw hK
  obtain⟨xs,x,ha,hx⟩:=hg
  obtain⟨its,rv,p,hz⟩:=I.tuple ha
  have p:s.heap.IsTuple a its.toArray:=p
  obtain⟨u0,hu0,ru0⟩:=rv.get hx
  obtain⟨⟨old,z1⟩,z2⟩:=st
  have hh:X.A.in1.handled=none:=I.ok.hd hc
  have hlt:i < its.toArray.size:=by
   have:=N9.mp hu0
   simpa using this.1
  refine wpAny_pyNext_enum_itemD (Je hh (Bl p z2) its.toArray) z1 ⟨z2,p⟩ hlt (pN 1 0 rfl) (by
   simp only[NX,OC,Po,not_or]
   exact⟨pN 1 0 rfl,BI p z1⟩) λu h' tk hu q1 q2 q3 q4 q5=>?_
  have eu:u0=u:=by
   have hu:its.toArray[i]? =some u:=hu
   rw[P4,hu0] at hu
   exact Option.some.inj hu
  subst eu
  refine⟨_,rfl,wpAny_letOwnedTupleGo_enum (s:={s with heap:=h',toks:=tk + 1}) q1 λh2 r1 r2=>?_⟩
  have r2:∀c,c≠n + 1->h2.get? c=h'.get? c:=r2.2
  have lz:n + 1 < s.heap.objs.size:=Oc z1
  have hT:H s.heap.objs.size=none:=I.hok.fresh (N4 _)
  have I1:Inv X pins σ (upd H s.heap.objs.size (.tup [.int i,x])) {s with heap:=s.heap.push {cls:=.type "tuple",data:=.seq #[.int i tk,u0]},toks:=s.toks}:=
   I.laid (λb o e=>NY _ e) (N4 _) ⟨by show 2<=sizeLine;rw[Oo];omega,[.int i tk,u0],.cons ⟨tk,rfl⟩ (.cons ru0 .nil),r6.new _ _⟩
  have hf':∀c∈rj n,mH X pins (upd H s.heap.objs.size (.tup [.int i,x])) c:=λc hc=>⟨by
   rw[aC (λz=>?_)]
   ·exact (hf c hc).1
   ·subst z
    simp only[rj,NX,OC,Po] at hc
    omega,(hf c hc).2⟩
  have I2:Inv X pins σ (upd H s.heap.objs.size (.tup [.int i,x])) {s with heap:=h2,toks:=tk + 1}:=by
   refine I1.turnedL (ch:=rj n) (λc o hc e=>?_) hf'
   have e:(s.heap.push {cls:=.type "tuple",data:=.seq #[.int i tk,u0]}).get? c=some o:=e
   simp only[rj,NX,OC,Po,not_or] at hc
   rw[r2 c hc.1]
   by_cases z:c=s.heap.objs.size
   ·subst z
    rw[Od _ rfl] at e
    rw[<-e];exact q3
   ·refine q5 c o hc.1 hc.2 ?_
    rw[QI _ _ _ z] at e
    exact e
  refine⟨.ref s.heap.objs.size,_,I2,rfl,⟨x,_,hT,λxs' h'=>?_,rfl,rfl⟩,⟨⟨u0,r1⟩,q2.1.at λo e=>(r2 _ (pN 0 1 rfl)).trans e⟩,λc hc=>(hf' c hc).1⟩
  rw[I.tuple_inj h' ha];exact hx
 done:=by
  intro X hP hw hK hc i pins s σ H E I hf st hg
  subst hP hw hK
  obtain⟨xs,ha,hl⟩:=hg
  obtain⟨its,rv,p,hz⟩:=I.tuple ha
  obtain⟨⟨old,z1⟩,z2⟩:=st
  have hh:X.A.in1.handled=none:=I.ok.hd hc
  have l1:=rv.length
  refine wpAny_pyNext_enum_endD (JM hh i (xs:=its.toArray) (by simp;omega)) z1 ⟨rfl,z2,p⟩ λh' q=>⟨rfl,?_⟩
  refine I.turnedL (t':=s.toks) (ch:=rj n) (λc o hc e=>?_) hf
  simp only[rj,NX,OC,Po,not_or] at hc
  exact q c o hc.2 e
 self:=λ_ _ _ _ _ st h=>by
  obtain⟨⟨old,z1⟩,_⟩:=st
  exact QJ z1 h
def tf:bootBuiltins "enumerate"=some (.type "enumerate"):=by decide +kernel
section
variable {X:Cx}{Γ:Fx}{E:XK}{e a b c:Expr}{f fa fb:VF D}{L La Lb:List Nat}{md ma mb:Md}{pos:Pos}
def cO (ds:List D):List D:=ds.mapIdx λi d=>.tuple [.int i,d]
def DJ {K:Frag}{B:Option Addr}{G H1:Hp}{p:Addr}{xs:List V}{ds:List D}(hp:fO K G p xs)(r:cg K G xs ds):Walk K B G H1 (cO ds) (Nb K p):=λGc H i s1 s2 m=>by
 have hp':=hp.grow (s1.trans s2).grow
 have l1:=r.len
 have lz:(cO ds).length=ds.length:=by unfold cO;rw[List.length_mapIdx]
 refine⟨λhi=>⟨?_,λx H' y=>?_⟩,λhi=>⟨xs,hp',by omega⟩⟩
 ·have h1:i < xs.length:=by omega
  exact⟨xs,xs[i],hp',by simp[h1]⟩
 ·obtain⟨x,t,ht,hx,rfl,rfl⟩:=y
  obtain⟨d,ed,rd⟩:=r.at' (hx xs hp')
  have xn:=Ext.new s2 (o:=.tup [.int i,x]) ht
  refine⟨upd Gc t (.tup [.int i,x]),.tuple [.int i,d],xn,?_,.tup (.inl (.inl aA)) (.cons (.int i) (.cons (rd.mono (s1.trans xn.gg)) .nil))⟩
  unfold cO
  rw[QO,ed];rfl
end
end L2
namespace L2.ST
open PySem PySem.SetTable
section
variable {prog:Program}{w:World}{A:Around}{E:Value->Shared->Prop}{s:Shared}
set_option maxHeartbeats 3200000 in
theorem sd {St:Addr->Nat->Heap->Prop}{Q:Value->Shared->Prop}(X:Src prog w s.heap l vs T itO St)(hh:A.handled=none)(hi:PyProof.Rows.IntsAre vs ns)(hb:vs.length + 1 < scanBound)
  (h:∀(h':Heap) (tk:Nat),h'.SetOf (intKind prog w) s.heap.objs.size (λk'=>(PyProof.Rows.firstMet (λi=>ns.getD i 0) vs.length).any (· == k')) (PyProof.Rows.firstMet (λi=>ns.getD i 0) vs.length).length->(∀b o,s.heap.get? b=some o->h'.get? b=some o)->Q (.ref s.heap.objs.size) {s with heap:=h',toks:=tk}) :
  wpAny (model prog w) A (call (.type "set") [.ref l]) Q E s:=by
 obtain⟨c0,tl0,hmro0⟩:=OI.mro
 have hmade0:=OI.made
 have hsub0:=OI.sub
 refine wpAny_call (codeAny_of_tree ?_)
 show wpAny _ _ (callAny (.type "set") ⟨[.ref l],[]⟩) _ _ _
 refine N2 ⟨Q4 _ (by decide +kernel),Pb F.entry_type_call ?_⟩
 (rw[Around.under_plain (weight_type_call_type "set" [.ref l] []) rfl])
 have g1:=OI.notType
 have g2:=OI.canCreate
 have g3:=F.typeCall_set_1 (.ref l)
 repeat (any_goals (first |assumption |wp_step))
 refine P6 (lB (.ref l) (E:=E) (Q1:=λobj s1=>obj=.ref s.heap.objs.size/\s1={s with heap:=s.heap.push {cls:=.type "set",dict:=none,data:=.set #[] 0 (.fresh 0 0 (dB w))}}) ⟨rfl,rfl⟩) λr s1 hr=>?_
 cases r with
 |error e=>exact hr
 |ok fl=>
  cases fl with
  |ret obj=>
   obtain⟨rfl,rfl⟩:=hr
   generalize hO:({cls:=.type "set",dict:=none,data:=.set #[] 0 (.fresh 0 0 (dB w))}:Obj)=O
   have hS0:(s.heap.push O).get? s.heap.objs.size=some O:=Od _ (by rw[<-hO];rfl)
   have hT0:Shared.TypeIs {s with heap:=s.heap.push O} (.ref s.heap.objs.size) "set":=⟨_,hS0,by rw[<-hO]⟩
   have g4:=OI.init.lookup
   have g5:=OI.init.bind (.ref s.heap.objs.size)
   repeat (any_goals (first |assumption |wp_step))
   refine P6 (codeAny_call_builtin (R:=wants (λr s2=>r=.none/\∃h' tk,s2={s with heap:=h',toks:=tk}/\h'.SetOf (intKind prog w) s.heap.objs.size (λk'=>(PyProof.Rows.firstMet (λi=>ns.getD i 0) vs.length).any (· == k')) (PyProof.Rows.firstMet (λi=>ns.getD i 0) vs.length).length/\(∀b o,s.heap.get? b=some o->h'.get? b=some o)) E)
    OI.init.plain F.entry_set_init (check_set_init_1 hT0 ?_)) λr2 s2 hr2=>?_
   ·obtain⟨ol,hol,hcl⟩:=X.ty
    have hol':(s.heap.push O).get? l=some ol:=NY _ hol
    have e1:=X.ns
    have e2:=X.nf
    have e3:=X.nd
    have hTl:Shared.TypeIs {s with heap:=s.heap.push O} (.ref l) T:=⟨ol,hol',hcl⟩
    have hdat:O.data=.set #[] 0 (.fresh 0 0 (dB w)):=by rw[<-hO]
    (unfold Builtin.«set.__init__» noKeywords Builtin.Frozenset.updateFrom)
    subst hO
    obtain⟨oc,od,odt,osl⟩:=ol
    simp only at hcl
    subst hcl
    (generalize hPI0:pyIter=PI0)
    wp_walk
    subst hPI0
    have kp:∀b o,s.heap.get? b=some o->(s.heap.push {cls:=.type "set",dict:=none,data:=.set #[] 0 (.fresh 0 0 (dB w))}).get? b=some o:=λb o e=>NY _ e
    refine X.it _ _ _ _ kp ?_
    refine NV (Rg ?_)
    have hlS:l < s.heap.objs.size:=Oc hol
    have hh3:A.in1.in1.in1.handled=none:=by simp[hh]
    have hneI:l≠(s.heap.push {cls:=.type "set",dict:=none,data:=.set #[] 0 (.fresh 0 0 (dB w))}).objs.size:=by
     rw[O9];exact Oz (QH hlS)
    have hSf:s.heap.objs.size∉ [(s.heap.push {cls:=.type "set",dict:=none,data:=.set #[] 0 (.fresh 0 0 (dB w))}).objs.size,l]:=by
     rw[O9]
     intro z
     rcases NX.mp z with e |z
     ·exact absurd e (Oz (Nat.lt_succ_self _))
     ·exact absurd (N6.mp z) (QW hlS)
    refine PyProof.Rows.codeAny_set_update_loopS ((X.wk _ _ hh3 hneI).toS) s.heap.objs.size hSf (λi=>ns.getD i 0) (λi v e=>PyProof.Rows.IntsAre.int_at hi i v e) hb (vs.length - 0) 0 _ (by omega) (OJ _) (X.st _ kp) ?_ ?_
    ·exact PyProof.Rows.SetOf_congr ((PyProof.Rows.setObjOf_fresh (knd:=intKind prog w) (dB w)).setOf (NY _ hS0) (by unfold scanBound;omega)) (λ_=>rfl) rfl
    ·intro s' hm F'
     obtain⟨h',g',d',tk,os'⟩:=s'
     have eg:g'=s.gens:=hm.gens
     have ed:d'=s.drawn:=hm.drawn
     have eo:os'=s.os:=hm.os
     subst eg;subst ed;subst eo
     show wpAny _ _ _ _ _ _
     refine N2 ?_
     show wpAny _ _ (ret Value.none) _ _ _
     refine N2 ⟨rfl,h',tk,rfl,F',λb o e=>hm.heap b o (λz=>?_) (NY _ (kp b o e))⟩
     have hlt:=Oc e
     rw[O9] at z
     rcases NX.mp z with z |z
     ·exact absurd hlt (by rw[z];exact OO _)
     ·rw[N6.mp z] at hlt
      exact absurd hlt (Nat.not_lt.mpr (Qh _))
   ·cases r2 with
    |error e=>exact hr2
    |ok fl2=>
     cases fl2 with
     |ret r=>
      obtain⟨rfl,h',tk,rfl,hF,hk⟩:=hr2
      repeat (any_goals (first |assumption |wp_step))
      exact h _ _ hF hk
     |_=>exact hr2.elim
  |_=>exact hr.elim
end
end L2.ST
namespace L2
open PySem PyProof.Rows
section
variable {X:Cx}{K:Frag}{pins:List V}{σ:St}{H:Hp}{s:Shared}{E:XK}
def K9 (ns:List Int)(k:Int):Bool:=(firstMet (λi=>ns.getD i 0) ns.length).any (· == k)
def rD (ns:List Int):Nat:=(firstMet (λi=>ns.getD i 0) ns.length).length
def GW (K:Frag):List V->Hp->VK->Prop:=λxs H Q=>∃a ns,xs= [.ref a]/\(gf K H a (ns.map V.int)\/fO K H a (ns.map V.int))/\ns.length<=1000/\∀S,H S=none->Q (.ref S) (upd H S (.set (K9 ns) (rD ns)))
def BE (hc:X.calm=true):cI X (.type "set") (GW X.K):=by
 intro pins s σ H xs us Q I r h
 obtain⟨a,ns,rfl,hq,hz,q⟩:=h
 obtain⟨u,rfl,rx⟩:=vals1 r
 cases rx
 have hh:=I.ok.hd hc
 have core:∀{its:List Value} {T:String} {itO:Obj} {St:Addr->Nat->Heap->Prop},Vals (ns.map V.int) its->L2.ST.Src X.prog X.w s.heap a its T itO St->wpAny (model X.prog X.w) X.A (call (.type "set") [.ref a]) (EP X pins σ Q) X.xe s:=λ{its T itO St} rv src=>by
  have hl:its.length=ns.length:=by rw[<-rv.length,NZ]
  refine L2.ST.sd src hh (intsAre_of rv) (by unfold scanBound;omega) λh' tk F k=>?_
  rw[hl] at F
  exact⟨.ref _,_,I.laid (t':=tk) (o:=.set (K9 ns) (rD ns)) k (N4 _) F,rfl,q _ (I.hok.fresh (N4 _))⟩
 rcases hq with hq |hq
 ·obtain⟨its,rv,pl,hz⟩:=I.list hq
  exact core rv (L2.ST.Src.list pl.isList)
 ·obtain⟨its,rv,pl,hz⟩:=I.tuple hq
  exact core rv (L2.ST.Src.tuple pl)
def BN:cI X (.builtin "len") (λxs H Q=>∃S f n,xs= [.ref S]/\H S=some (.set f n)/\Q (.int n) H):=by
 intro pins s σ H xs us Q I r h
 obtain⟨S,f,n,rfl,hS,q⟩:=h
 obtain⟨u,rfl,rx⟩:=vals1 r
 cases rx
 obtain⟨o,es,ep,t,ho,hex,hd,_,_,hb,hf,e⟩:s.heap.SetOf (intKind X.prog X.w) S f n:=I.hok _ _ hS
 refine call_len_set ho hex hd hf (by unfold scanBound at hb;omega) ⟨.int n,H,I.tok _,⟨_,by rw[e]⟩,q⟩
def pj (d:D):Option D:=match hG d with
 |some ds=>(match fw ds with
  |some ns=>if ns.length<=1000 then some (.int (rD ns)) else none
  |none=>none)
 |none=>none
theorem cg.intsB :∀{ns:List Int} {xs:List V},cg K G xs (ns.map int)->xs=ns.map V.int
 | [],_,.nil=>rfl
 |n :: ns,_,.cons r t=>by cases r;rw[cg.intsB t];rfl
variable {Γ:Fx}{e a b c:Expr}{f fa fb fc:VF D}{L La Lb:List Nat}{md ma mb mc:Md}{pos:Pos}
theorem A4 {p1 p2 pos2:Pos}(hc:X.calm=true)(hK:X.K=Γ.K)(hg:Gl X "len")(hm:X.mg "len"=none)(hg2:Gl X "set")(hm2:X.mg "set"=none)(ha:SE X Γ E a fa La ma)
  (he:starEach [a] X.env=(false,eval a X.env) :: starEach [] X.env:=by rfl)
  (he2:starEach [.Call (.Name "set" p2) [a] [] pos2] X.env=(false,eval (.Call (.Name "set" p2) [a] [] pos2) X.env) :: starEach [] X.env:=by rfl) :
  SE X Γ E (.Call (.Name "len" p1) [.Call (.Name "set" p2) [a] [] pos2] [] pos) (f1 fa pj) La .v:=by
 refine PE.post' (i0 BN hg hm (by decide +kernel) (aN (fZ (BE hc) hg2 hm2 (by decide +kernel) (aN ha bu he) (by decide) (by decide) he) bu he2) (by decide) (by decide) he2) λσ H Q ⟨env,G,B,β,I,o⟩=>?_
 refine il (r:=λx H1 Q=>GW X.K [x] H1 λy H2=>∃S f n,[y]= [V.ref S]/\H2 S=some (.set f n)/\Q (.int n) H2) ?_ I o
 intro B G H x dx d Q s hB bx e k
 rw[hK]
 unfold pj at e
 cases q:hG dx with
 |none=>rw[q] at e;cases e
 |some ds=>
  rw[q] at e
  dsimp only at e
  cases q2:fw ds with
  |none=>rw[q2] at e;cases e
  |some ns=>
   rw[q2] at e
   dsimp only at e
   split at e
   ·rename_i hz
    cases e
    obtain⟨p,xs,rfl,hq,r⟩:=bx.seq q s
    rw[la q2] at r
    have r:=r.intsB
    subst r
    exact⟨p,ns,rfl,hq,hz,λS hS=>⟨S,_,_,rfl,aA,k _ _ _ (Ext.own s hS) (.int _)⟩⟩
   ·cases e
def sortI (ns:List Int):List Int:=ns.mergeSort λa b=>decide (a<=b)
def sortI_perm (ns:List Int):(sortI ns).Perm ns:=List.mergeSort_perm ..
def wQ (ns:List Int):(sortI ns).Pairwise (· <= ·):=by
 have:=List.pairwise_mergeSort (le:=λa b:Int=>decide (a<=b)) (λa b c h1 h2=>by simp only[Oq] at *;omega) (λa b=>by simp only[QU,Oq];omega) ns
 exact this.imp λh=>by simpa using h
def gr (h:ms.Perm ns)(h2:ms.Pairwise (· <= ·)):ms=sortI ns:=
 List.Perm.eq_of_pairwise (le:=(· <= ·)) (λa b _ _ h1 h2=>by omega) h2 (wQ ns) (h.trans (sortI_perm ns).symm)
def Jj (K:Frag):List V->Hp->VK->Prop:=λxs H Q=>∃a ns,xs= [.ref a]/\gf K H a (ns.map V.int)/\ns.length < 64/\∀l,H l=none->Q (.ref l) (upd H l (.lst ((sortI ns).map V.int)))
theorem pC:∀{us:List Value} {ns:List Int},IntsAre us ns->Vals (ns.map V.int) us
 |_,_,.nil=>.nil
 |_,_,.cons n t hr=>.cons ⟨t,rfl⟩ (pC hr)
def yR:cI X (.builtin "sorted") (Jj X.K):=by
 intro pins s σ H xs us Q I r h
 obtain⟨a,ns,rfl,hq,hl,q⟩:=h
 obtain⟨u,rfl,rx⟩:=vals1 r
 cases rx
 obtain⟨its,rv,pl,hz⟩:=I.list hq
 have hil:its.length=ns.length:=by rw[<-rv.length,NZ]
 refine sorted_ints pl.isList (intsAre_of rv) (by omega) λout ns' a1 a2 a3=>?_
 obtain rfl:=gr a2 a3
 obtain⟨c,he⟩:=sortedAll_at s.heap its out
 have hf:H (s.heap.objs.size + 1)=none:=I.hok.fresh (Qh _)
 have hz':((sortI ns).map V.int).length<=sizeLine:=by
  have:=a2.length_eq
  rw[NZ,Oo];omega
 have I2:Inv X pins σ (upd H (s.heap.objs.size + 1) (.lst ((sortI ns).map V.int))) {s with heap:=sortedAll s.heap its out,toks:=s.toks}:=I.laid (t':=s.toks) (λ_ _=>sortedAll_old) (Qh _) (show cx X.prog X.w _ _ _ (.lst ((sortI ns).map V.int)) from⟨hz',out.toList,c,pC a1,he⟩)
 exact⟨.ref _,_,I2,rfl,q _ hf⟩
end
end L2
namespace L2
open PySem
section
variable {K:Frag}{h:Heap}{mg:Str->Option Value}
theorem zY {α:Type}{P:List α->Prop}(q:∀a,P [a]):∀us:List α,us.length=1->P us
 | [a],_=>q a
theorem ln2 {α:Type}{P:List α->Prop}(q:∀a b,P [a,b]):∀us:List α,us.length=2->P us
 | [a,b],_=>q a b
theorem Mh {α:Type}{P:List α->Prop}(q:∀a b c,P [a,b,c]):∀us:List α,us.length=3->P us
 | [a,b,c],_=>q a b c
theorem NS {α:Type}{P:List α->Prop}(q:∀a b c d,P [a,b,c,d]):∀us:List α,us.length=4->P us
 | [a,b,c,d],_=>q a b c d
def aX (x:Str)(st:Stmt)(ps:List Str):Prop:=∀(kV doc pm:Value) (an:Option Addr) (cdv ct:Value) (us:List Value),us.length=ps.length->bindArgs (PySem.W.fnOf x x (jj st) (dg st) (ar st) .none kV doc pm an cdv ct) ⟨us,[]⟩=pure (ps.zip us)
structure Fo (K:Frag)(mg:Str->Option Value)(x:Str)(st:Stmt)(ps:List Str):Prop where
 ex:∃f fd,iw K mg x st ps f fd
def bz {st:Stmt}{oc:Value}{od an:Option Addr}{sl:Array (Option Value)}{kV doc pm cdv ct:Value}(X:K.In h)(G:h.Ns mainGlobals mg)(b:aX x st ps)(a:PySem.W.nsIn K mainGlobals x=some (some (.ref f)))
  (l:K.lookup f=some ⟨oc,od,.func (PySem.W.fnOf x x (jj st) (dg st) (ar st) .none kV doc pm an cdv ct),sl⟩) (c:PySem.W.codeIn K cdv x=true) (k:PySem.W.keepIn K (.ref f)=true):Fo K mg x st ps:=
 ⟨⟨f,_,PySem.W.mg_of X G a,yt l c k,(yt l c k).binds b⟩⟩
def Np:List Str:=["len","range","enumerate","zip","min","max","sum","abs","sorted","reversed","int","str","bool","list","tuple","dict","set","isinstance","repr","any","all","divmod"]
def Mm (K:Frag):Bool:=Np.all λx=>match PySem.W.nsIn K mainGlobals x with
 |some none=>true
 |_=>false
def Jg (q:Mm K=true)(hx:x∈Np):PySem.W.nsIn K mainGlobals x=some none:=by
 have:=Ot.mp q x hx
 split at this
 ·assumption
 ·cases this
def Kx (X:K.In h)(G:h.Ns mainGlobals mg)(q:Mm K=true):iY mg:=by
 have key:∀{x:Str},x∈Np->mg x=none:=λhx=>PySem.W.mg_none_of X G (Jg q hx)
 constructor <;> exact key (by decide)
end
section
variable {X:Cx}{P:Program}{w:World}{K:Frag}{mg:Str->Option Value}{base:Heap}{ca:Str->Addr}
def oh:mM X (compareOp .IsNot) (λx y H Q=>∃a b,x=.bl a/\y=.bl b/\Q (.bl (!(a == b))) H):=by
 intro pins s σ H x y v u Q I rx ry h
 obtain⟨a,b,rfl,rfl,q⟩:=h
 cases rx;cases ry
 refine wpAny_isNot_plain rfl (Im I q ?_)
 cases a <;> cases b <;> rfl
def pW:D->D->Option D
 | .bool a,.bool b=>some (.bool (!(a == b)))
 |_,_=>none
theorem qR:nP K (λx y H Q=>∃a b,x=.bl a/\y=.bl b/\Q (.bl (!(a == b))) H) pW .v:=by
 intro B G H x y dx dy d Q s hB bx bv e k
 cases dx with
 |bool a=>
  cases dy with
  |bool b=>cases e;obtain rfl:=bx.bool;obtain rfl:=bv.bool;exact⟨a,b,rfl,rfl,k _ G H (Ext.refl s) (.bl _)⟩
  |_=>cases e
 |_=>cases e
def x8 (step:(List D->FR)->List D->FR):Nat->List D->FR
 | 0=>λ_=>.bad
 |n + 1=>step (x8 step n)
theorem za {st:Stmt}{j:Nat}{step:(List D->FR)->List D->FR}(F:iw K mg x st ps f fd)
  (h:∀(k:Nat) (F':List D->FR),j<=k->bP P w K mg base ca x ps k F'->bP P w K mg base ca x ps (k + 1) (step F')):∀n,bP P w K mg base ca x ps (j + n) (x8 step n)
 | 0=>⟨⟨f,fd,F.mg,F.F.kp,F.b,C9⟩,λds hn=>(hn rfl).elim⟩
 |n + 1=>h (j + n) _ (Nat.le_add_right _ _) (za F h n)
end
end L2
namespace L2
open PySem PySem.Spec PyProof.Rows
def ER (hh:A.handled=none)(i:Nat)(hx:xs[i]? =none):Draws prog w A it [it,t] i (λ_ _=>False) (λj h=>j=i/\h.IsListIter it t i/\h.IsList t xs) where
 live:=λ_ _ st=>let ⟨o,ho,_⟩:=st.2.1;⟨o,ho⟩
 frame:=λ_ _ _ st hk=>⟨st.1,st.2.1.at λo e=>hk it (by simp) o e,st.2.2.at λo e=>hk t (by simp) o e⟩
 item:=λj s Q E hi st k=>absurd st.1 (by omega)
 done:=λs Q E st k=>wpAny_nextOf_list_end hh st.2.1 st.2.2 hx k
def GK (K:Frag)(a:Addr):It:=
 ⟨λi H=>∃xs x,gf K H a xs/\xs[i]? =some x,
  λi H v H'=>∃x t,H t=none/\(∀xs,gf K H a xs->xs[i]? =some x)/\v=.ref t/\H'=upd H t (.tup [.int i,x]),
  λi H=>∃xs,gf K H a xs/\xs.length<=i⟩
def A7 {h:Heap}{a n:Addr}{i:Nat}{its:Array Value}{b:Addr}(p:h.IsList a its)(q:h.IsListIter n b i):a≠n:=λz=>by
 subst z
 obtain⟨o,e,c,_⟩:=p
 obtain⟨o',e',c',_⟩:=q
 rw[e] at e';cases e'
 rw[c] at c'
 simp at c'
def BC {a n it:Addr}(p:h.IsList a its)(q:IsEnum h n it i old):n≠a:=λz=>by
 subst z
 obtain⟨o,e,c,_⟩:=p
 rw[q] at e;cases e
 simp at c
def pZ {P:Program}{w:World}{K:Frag}{elts:List Expr}{x1}{pos:Pos}(a:Addr)(n:Nat):Turn P w K (.Tuple elts x1 pos) (GK K a) (rj n) (n + 1)
  (λi h=>(∃old,IsEnum h (n + 1) n i old)/\h.IsListIter n a i) where
 mem:=by simp
 obj:=λi h st c hc=>by
  obtain⟨⟨old,z1⟩,⟨o2,z2,_,d2⟩⟩:=st
  simp only[rj,NX,OC,Po] at hc
  rcases hc with rfl |rfl
  ·exact⟨_,z1,λv z=>by
    have z':Data.fields _=Data.cell v:=z
    cases z'⟩
  ·exact⟨o2,z2,λv z=>by rw[d2] at z;cases z⟩
 keep:=λi h h' st k=>by
  obtain⟨⟨old,z1⟩,z2⟩:=st
  exact⟨⟨old,k _ (by simp) _ z1⟩,z2.at λo e=>k _ (by simp) o e⟩
 item:=by
  intro X hP hw hK hc i pins s σ H E I hf st hg
  subst hP hw hK
  obtain⟨xs,x,ha,hx⟩:=hg
  obtain⟨its,rv,p,hz⟩:=I.list ha
  have p:s.heap.IsList a its.toArray:=p.isList
  obtain⟨u0,hu0,ru0⟩:=rv.get hx
  obtain⟨⟨old,z1⟩,z2⟩:=st
  have hh:X.A.in1.handled=none:=I.ok.hd hc
  have hlt:i < its.toArray.size:=by
   have:=N9.mp hu0
   simpa using this.1
  refine wpAny_pyNext_enum_itemD (Draws.list hh n a (A7 p z2) its.toArray) z1 ⟨z2,p⟩ hlt (pN 1 0 rfl) (by
   simp only[NX,OC,Po,not_or]
   exact⟨pN 1 0 rfl,BC p z1⟩) λu h' tk hu q1 q2 q3 q4 q5=>?_
  have eu:u0=u:=by
   have hu:its.toArray[i]? =some u:=hu
   rw[P4,hu0] at hu
   exact Option.some.inj hu
  subst eu
  refine⟨_,rfl,wpAny_letOwnedTupleGo_enum (s:={s with heap:=h',toks:=tk + 1}) q1 λh2 r1 r2=>?_⟩
  have r2:∀c,c≠n + 1->h2.get? c=h'.get? c:=r2.2
  have lz:n + 1 < s.heap.objs.size:=Oc z1
  have hT:H s.heap.objs.size=none:=I.hok.fresh (N4 _)
  have I1:Inv X pins σ (upd H s.heap.objs.size (.tup [.int i,x])) {s with heap:=s.heap.push {cls:=.type "tuple",data:=.seq #[.int i tk,u0]},toks:=s.toks}:=
   I.laid (λb o e=>NY _ e) (N4 _) ⟨by show 2<=sizeLine;rw[Oo];omega,[.int i tk,u0],.cons ⟨tk,rfl⟩ (.cons ru0 .nil),r6.new _ _⟩
  have hf':∀c∈rj n,mH X pins (upd H s.heap.objs.size (.tup [.int i,x])) c:=λc hc=>⟨by
   rw[aC (λz=>?_)]
   ·exact (hf c hc).1
   ·subst z
    simp only[rj,NX,OC,Po] at hc
    omega,(hf c hc).2⟩
  have I2:Inv X pins σ (upd H s.heap.objs.size (.tup [.int i,x])) {s with heap:=h2,toks:=tk + 1}:=by
   refine I1.turnedL (ch:=rj n) (λc o hc e=>?_) hf'
   have e:(s.heap.push {cls:=.type "tuple",data:=.seq #[.int i tk,u0]}).get? c=some o:=e
   simp only[rj,NX,OC,Po,not_or] at hc
   rw[r2 c hc.1]
   by_cases z:c=s.heap.objs.size
   ·subst z
    rw[Od _ rfl] at e
    rw[<-e];exact q3
   ·refine q5 c o hc.1 hc.2 ?_
    rw[QI _ _ _ z] at e
    exact e
  refine⟨.ref s.heap.objs.size,_,I2,rfl,⟨x,_,hT,λxs' h'=>?_,rfl,rfl⟩,⟨⟨u0,r1⟩,q2.1.at λo e=>(r2 _ (pN 0 1 rfl)).trans e⟩,λc hc=>(hf' c hc).1⟩
  rw[I.list_inj h' ha];exact hx
 done:=by
  intro X hP hw hK hc i pins s σ H E I hf st hg
  subst hP hw hK
  obtain⟨xs,ha,hl⟩:=hg
  obtain⟨its,rv,p,hz⟩:=I.list ha
  obtain⟨⟨old,z1⟩,z2⟩:=st
  have hh:X.A.in1.handled=none:=I.ok.hd hc
  have l1:=rv.length
  refine wpAny_pyNext_enum_endD (ER hh i (xs:=its.toArray) (by simp;omega)) z1 ⟨rfl,z2,p.isList⟩ λh' q=>⟨rfl,?_⟩
  refine I.turnedL (t':=s.toks) (ch:=rj n) (λc o hc e=>?_) hf
  simp only[rj,NX,OC,Po,not_or] at hc
  exact q c o hc.2 e
 self:=λ_ _ _ _ _ st h=>by
  obtain⟨⟨old,z1⟩,_⟩:=st
  exact QJ z1 h
def M5 (K:Frag)(ta:TA):TI:=λσ H R=>ta σ H λvs H2=>∃a xs,vs= [.ref a]/\gf K H2 a xs/\R (GK K a) H2
section
variable {X:Cx}
theorem JA {a:Expr}{ta:TA}{p pos pt:Pos}{elts:List Expr}{x1}(hg:Gl X "enumerate")(hm:X.mg "enumerate"=none)(ha:PA X [a] ta)(hs:starEach [a] X.env= [(false,eval a X.env)]:=by rfl) :
  PI X (.Tuple elts x1 pt) (.Call (.Name "enumerate" p) [a] [] pos) (M5 X.K ta):=by
 intro pins s σ H R I h
 refine Call_ (lg I hg hm tf (Pq (cR (ha pos pins s σ H _ I h) λus s1 ⟨vs,H1,I1,r1,q1⟩=>?_) hs rfl))
 obtain⟨a,xs,e,h1,q⟩:=q1
 subst e
 cases r1 with
 |cons r rr=>
  cases rr
  cases r
  obtain⟨its,rv,p1,hz⟩:=I1.list h1
  refine call_enumerate_list p1.isList λh' z1 z2 _ z3=>?_
  refine QJ z1 ⟨_,rj s1.heap.objs.size,_,_,H1,rfl,I1.kept (t':=s1.toks) z3,pZ a s1.heap.objs.size,⟨⟨_,z1⟩,z2⟩,λc hc=>?_,q⟩
  have:s1.heap.objs.size<=c:=by
   simp only[rj,NX,OC,Po] at hc
   rcases hc with rfl |rfl <;> first |exact N4 _ |exact Nat.le_add_right _ _
  exact I1.fpOk this (I1.hok.fresh this)
end
section
variable {X:Cx}{Γ:Fx}{E:XK}{e a b c:Expr}{f fa fb:VF D}{L La Lb:List Nat}{md ma mb:Md}{pos:Pos}
def JV (fa:VF D):VF (List D):=λvs β=>(fa vs β).bnd λx β1=>match x with
 | .list ds=>.ok (cO ds) β1
 |_=>.bad
def wZ {K:Frag}{B:Option Addr}{G H1:Hp}{p:Addr}{xs:List V}{ds:List D}(hp:∀Gc H,ay G Gc->ay Gc H->i8 B H1 H->gf K H p xs)(r:cg K G xs ds):Walk K B G H1 (cO ds) (GK K p):=λGc H i s1 s2 m=>by
 have hp':=hp Gc H s1 s2 m
 have l1:=r.len
 have lz:(cO ds).length=ds.length:=by unfold cO;rw[List.length_mapIdx]
 refine⟨λhi=>⟨?_,λx H' y=>?_⟩,λhi=>⟨xs,hp',by omega⟩⟩
 ·have h1:i < xs.length:=by omega
  exact⟨xs,xs[i],hp',by simp[h1]⟩
 ·obtain⟨x,t,ht,hx,rfl,rfl⟩:=y
  obtain⟨d,ed,rd⟩:=r.at' (hx xs hp')
  have xn:=Ext.new s2 (o:=.tup [.int i,x]) ht
  refine⟨upd Gc t (.tup [.int i,x]),.tuple [.int i,d],xn,?_,.tup (.inl (.inl aA)) (.cons (.int i) (.cons (rd.mono (s1.trans xn.gg)) .nil))⟩
  unfold cO
  rw[QO,ed];rfl
theorem wG {p pt:Pos}{elts:List Expr}{x1}(hK:X.K=Γ.K)(hg:Gl X "enumerate")(hm:X.mg "enumerate"=none)(ha:SE X Γ E a fa La .v)(hs:starEach [a] X.env= [(false,eval a X.env)]:=by rfl)(hs':starEach [a] X.env=(false,eval a X.env) :: starEach [] X.env:=by rfl) :
  SI X Γ E (.Tuple elts x1 pt) (.Call (.Name "enumerate" p) [a] [] pos) (JV fa) La .v:=by
 refine PI.post (JA hg hm (aN ha bu hs') hs) ?_
 rintro σ H Q ⟨env,G,B,β,I,o⟩
 refine⟨env,G,B,β,I,o.bnd.imp λd1 β1 h x G1 H1 I1 s1 m1 vx=>?_⟩
 have vx:Rp Γ.K G1 x d1:=vx
 rw[hK]
 cases d1 with
 |list ds=>
  cases vx with
  | @lst p xs _ hq r=>exact⟨p,xs,rfl,.inl (Rd.mono (.inl hq) I1.sub),h _ G1 H1 I1 s1 m1 (wZ (λGc H t1 t2 _=>.inl (Rd.mono (.inl hq) (t1.trans t2))) r)⟩
 |_=>exact h.elim
end
end L2
section
namespace PyProof.Rows
open PySem PySem.Spec PySem.Calls
section
variable {prog:Program}{w:World}{A:Around}{E:Value->Shared->Prop}{s:Shared}
def qB {Q:List Value->Shared->Prop}(hl:s.heap.IsTuple l vs.toArray)
  (h:Q vs {s with heap:=(s.heap.push (seqObj "list" #[] 0)).update s.heap.objs.size (Obj.mapSeq (· ++ vs.toArray))}) (hsz:vs.length<=sizeLine) :
  wpAny (model prog w) A (collect (.ref l)) Q E s:=by
 obtain⟨o,ho,hc,n,hd⟩:=id hl
 unfold collect
 refine NV (Rg (Pb entry_proto_collect' ?_))
 show wpAny _ _ (do again (.builtin "list.__iadd__" ⟨[<-newList [],.ref l],[]⟩)) _ _ s
 refine NV (QQ (N2 ⟨Q4 _ (by decide +kernel),Pb entry_list_iadd' ?_⟩))
 show wpAny _ _ (Builtin.List.listExtendWith (.ref s.heap.objs.size) (.ref l) (.ref s.heap.objs.size)) _ _ {s with heap:=s.heap.push (seqObj "list" #[] 0)}
 unfold Builtin.List.listExtendWith
 have ho':(s.heap.push (seqObj "list" #[] 0)).get? l=some o:=NY _ ho
 refine NV (wpAny_typeOf (T:="tuple") ⟨o,ho',hc⟩ ?_)
 have ht:(Value.type "tuple" == Value.type "tuple")=true:=by rfl
 rw[N1 (by rw[ht,Bool.or_true])]
 refine NV (listItems_at ho' hd ?_)
 refine NV (listItems_at (xs:=#[]) (n:=0) (Od _ rfl) rfl ?_)
 rw[N8 (by simp)]
 refine NV (listUpdate_at (xs:=#[]) (n:=0) (Od _ rfl) rfl ?_ (OJ _) (by show (#[] ++ vs.toArray).size<=sizeLine + 1;simp only[Array.size_append,Oh,Qk];omega))
 refine N2 ?_
 show wpAny (model prog w) A (do
   let o <-load s.heap.objs.size
   match o.data with
   | .seq xs _=>pure xs.toList
   |_=>unsupported "internal:collect") Q E {s with heap:=(s.heap.push (seqObj "list" #[] 0)).update s.heap.objs.size (Obj.mapSeq (· ++ vs.toArray))}
 refine NV (wpAny_load (get?_update_seq (Od _ rfl) _) ?_)
 show wpAny _ _ (pure ((#[]:Array Value) ++ vs.toArray).toList) Q E _
 rw[show ((#[]:Array Value) ++ vs.toArray).toList=vs by simp]
 exact N2 h
def u4 {Q:Value->Shared->Prop}(hl:s.heap.IsTuple l vs.toArray)(hI:IntsAre vs ns)(h64:vs.length < 64)
  (h:∀(out:Array Value) (ns':List Int),IntsAre out.toList ns'->ns'.Perm ns->ns'.Pairwise (· <= ·)->Q (.ref (s.heap.objs.size + 1)) {s with heap:=sortedAll s.heap vs out}) :
  wpAny (model prog w) A (call (.builtin "sorted") [.ref l]) Q E s:=by
 refine QT kind_sorted plain_sorted entry_sorted (args_sorted1 _) ?_
 unfold Builtin.«sorted»
 refine NV (m:=checkCount "sorted" 1 1 _) (N2 ?_)
 refine NV (qB hl ?_ (by rw[Oo];omega))
 refine NV (QQ ?_)
 have hsz:((s.heap.push (seqObj "list" #[] 0)).update s.heap.objs.size (Obj.mapSeq (· ++ vs.toArray))).objs.size=s.heap.objs.size + 1:=by
  rw[Heap.size_update,size_push']
 have hoL:(((s.heap.push (seqObj "list" #[] 0)).update s.heap.objs.size (Obj.mapSeq (· ++ vs.toArray))).push (seqObj "list" vs.toArray 0)).get? (s.heap.objs.size + 1)=some (seqObj "list" vs.toArray 0):=by
  rw[<-hsz];exact Od _ rfl
 show wpAny _ _ _ _ _ {s with heap:=((s.heap.push (seqObj "list" #[] 0)).update s.heap.objs.size (Obj.mapSeq (· ++ vs.toArray))).push (seqObj "list" vs.toArray 0)}
 rw[hsz]
 refine NV (O3 (PY slot_list_sort ⟨_,hoL,rfl⟩ entry_list_sort (list_sort_tree hoL hI h64 λout ns' a1 a2 a3=>⟨_,rfl,?_⟩) (args_list_sort _)))
 exact N2 ⟨_,rfl,h out ns' a1 a2 a3⟩
end
end PyProof.Rows
namespace L2
open PySem PyProof.Rows
section
variable {X:Cx}{K:Frag}{pins:List V}{σ:St}{H:Hp}{s:Shared}{E:XK}
def Cg (K:Frag):List V->Hp->VK->Prop:=λxs H Q=>∃a ns,xs= [.ref a]/\(gf K H a (ns.map V.int)\/fO K H a (ns.map V.int))/\ns.length < 64/\∀l,H l=none->Q (.ref l) (upd H l (.lst ((sortI ns).map V.int)))
def yw:cI X (.builtin "sorted") (Cg X.K):=by
 intro pins s σ H xs us Q I r h
 obtain⟨a,ns,rfl,hq,hl,q⟩:=h
 rcases hq with hq |hq
 ·exact yR pins s σ H [.ref a] us Q I r ⟨a,ns,rfl,hq,hl,q⟩
 obtain⟨u,rfl,rx⟩:=vals1 r
 cases rx
 obtain⟨its,rv,pl,hz⟩:=I.tuple hq
 have hil:its.length=ns.length:=by rw[<-rv.length,NZ]
 refine u4 pl (intsAre_of rv) (by omega) λout ns' a1 a2 a3=>?_
 obtain rfl:=gr a2 a3
 obtain⟨c,he⟩:=sortedAll_at s.heap its out
 have hf:H (s.heap.objs.size + 1)=none:=I.hok.fresh (Qh _)
 have hz':((sortI ns).map V.int).length<=sizeLine:=by
  have:=a2.length_eq
  rw[NZ,Oo];omega
 have I2:Inv X pins σ (upd H (s.heap.objs.size + 1) (.lst ((sortI ns).map V.int))) {s with heap:=sortedAll s.heap its out,toks:=s.toks}:=I.laid (t':=s.toks) (λ_ _=>sortedAll_old) (Qh _) (show cx X.prog X.w _ _ _ (.lst ((sortI ns).map V.int)) from⟨hz',out.toList,c,pC a1,he⟩)
 exact⟨.ref _,_,I2,rfl,q _ hf⟩
def qt (d:D):Option D:=match hG d with
 |some ds=>(match fw ds with
  |some ns=>if ns.length < 64 then some (.list ((sortI ns).map int)) else none
  |none=>none)
 |_=>none
theorem ET:BO K (λx=>Cg K [x]) qt .w:=by
 intro B G H x dx d Q s hB bx e k
 unfold qt at e
 cases q:hG dx with
 |none=>rw[q] at e;cases e
 |some ds=>
  rw[q] at e
  dsimp only at e
  cases q2:fw ds with
  |none=>rw[q2] at e;cases e
  |some ns=>
   rw[q2] at e
   dsimp only at e
   split at e
   ·rename_i hz
    cases e
    obtain⟨p,xs,rfl,hq,r⟩:=bx.seq q s
    rw[la q2] at r
    have r:=r.intsB
    subst r
    refine⟨p,ns,rfl,hq,hz,λl hl=>?_⟩
    have hh:ay H (upd H l (.lst ((sortI ns).map V.int))):=ay.new hl
    refine k _ _ _ (Ext.tups s hh) ⟨l,rfl,hl,?_,_,aA,cg.ints _⟩
    unfold lZ
    rw[s.free hl,aA]
    exact N8 λy=>y
   ·cases e
end
end L2
end
namespace L2
open PySem PySem.Spec PyProof.Rows
def MI (K:Frag)(ta:TA):TI:=λσ H R=>ta σ H λvs H2=>(∃a xs,vs= [.ref a]/\fO K H2 a xs/\R (Nb K a) H2)\/∃a xs,vs= [.ref a]/\gf K H2 a xs/\R (GK K a) H2
section
variable {X:Cx}
def JH {a:Expr}{p pos pt:Pos}{elts:List Expr}{x1}(hg:Gl X "enumerate")(hm:X.mg "enumerate"=none)(ha:PA X [a] ta)(hs:starEach [a] X.env= [(false,eval a X.env)]:=by rfl) :
  PI X (.Tuple elts x1 pt) (.Call (.Name "enumerate" p) [a] [] pos) (MI X.K ta):=by
 intro pins s σ H R I h
 refine Call_ (lg I hg hm tf (Pq (cR (ha pos pins s σ H _ I h) λus s1 ⟨vs,H1,I1,r1,q1⟩=>?_) hs rfl))
 have fp:∀c∈rj s1.heap.objs.size,mH X pins H1 c:=λc hc=>by
  have:s1.heap.objs.size<=c:=by
   simp only[rj,NX,OC,Po] at hc
   rcases hc with rfl |rfl <;> first |exact N4 _ |exact Nat.le_add_right _ _
  exact I1.fpOk this (I1.hok.fresh this)
 rcases q1 with⟨a,xs,e,h1,q⟩ | ⟨a,xs,e,h1,q⟩
 ·subst e
  cases r1 with
  |cons r rr=>
   cases rr
   cases r
   obtain⟨its,rv,p1,hz⟩:=I1.tuple h1
   exact yz (show s1.heap.IsTuple a its.toArray from p1) λh' z1 z2 z3=>QJ z1 ⟨_,rj s1.heap.objs.size,_,_,H1,rfl,I1.kept (t':=s1.toks) z3,xX a s1.heap.objs.size,⟨⟨_,z1⟩,z2⟩,fp,q⟩
 ·subst e
  cases r1 with
  |cons r rr=>
   cases rr
   cases r
   obtain⟨its,rv,p1,hz⟩:=I1.list h1
   exact call_enumerate_list p1.isList λh' z1 z2 _ z3=>QJ z1 ⟨_,rj s1.heap.objs.size,_,_,H1,rfl,I1.kept (t':=s1.toks) z3,pZ a s1.heap.objs.size,⟨⟨_,z1⟩,z2⟩,fp,q⟩
end
section
variable {X:Cx}{Γ:Fx}{E:XK}{e a b c:Expr}{f fa fb:VF D}{L La Lb:List Nat}{md ma mb:Md}{pos:Pos}
def Hu (fa:VF D):VF (List D):=λvs β=>(fa vs β).bnd λx β1=>match hG x with
 |some ds=>.ok (cO ds) β1
 |none=>.bad
theorem Iy {p pt:Pos}{elts:List Expr}{x1}(hK:X.K=Γ.K)(hg:Gl X "enumerate")(hm:X.mg "enumerate"=none)(ha:SE X Γ E a fa La .v)(hs:starEach [a] X.env= [(false,eval a X.env)]:=by rfl)(hs':starEach [a] X.env=(false,eval a X.env) :: starEach [] X.env:=by rfl) :
  SI X Γ E (.Tuple elts x1 pt) (.Call (.Name "enumerate" p) [a] [] pos) (Hu fa) La .v:=by
 refine PI.post (JH hg hm (aN ha bu hs') hs) ?_
 rintro σ H Q ⟨env,G,B,β,I,o⟩
 refine⟨env,G,B,β,I,o.bnd.imp λd1 β1 h x G1 H1 I1 s1 m1 vx=>?_⟩
 have vx:Rp Γ.K G1 x d1:=vx
 rw[hK]
 cases d1 with
 |list ds=>
  cases vx with
  | @lst p xs _ hq r=>exact .inr ⟨p,xs,rfl,.inl (Rd.mono (.inl hq) I1.sub),h _ G1 H1 I1 s1 m1 (wZ (λGc H t1 t2 _=>.inl (Rd.mono (.inl hq) (t1.trans t2))) r)⟩
 |tuple ds=>
  cases vx with
  | @tup p xs _ hq r=>exact .inl ⟨p,xs,rfl,hq.grow I1.sub.grow,h _ G1 H1 I1 s1 m1 (DJ hq r)⟩
 |_=>exact h.elim
end
end L2
namespace RM
open PySem L2
def lR (aW:List D->FR):SF:=(aH (i9 ([] ++ ([] ++ [])) (lb (rk (kU (f1 (gv 0) (iM "tuple")))) (cB (f2 (f1 (gv 0) bL) (gv 1) (cV true))))
 (bF (cst (.bool false)))
 jT)
 (bF (fP (f1 (aP 1 [1] (.nm 0) (bq (gv 0)) kL (aq aW (aa (gv 0) (aa (gv 1) af)))) (bK λbs=>bs.all id)) (f2 (f1 (gv 0) pj) (gv 1) (cV false)))))
def nF:SF:=(aH (jF 1 (([] ++ []) ++ []) (f2 (bR (aa (cst (.int 0)) af)) (f1 (gv 0) bL) v3))
 (aH (cM (.two 2 3) [0] (Hu (gv 0))
 (pR 1 [2] [] (gv 2) (gv 3)))
 (jP 1)))
def gz (iD dC:List D->FR):SF:=(aH (i9 ([0] ++ (([] ++ []) ++ [])) (rk (kU (aq iD (aa (gv 0) (aa (f2 (gv 1) (cst (.int 0)) cn) af)))))
 (bF (cst (.bool false)))
 jT)
 (aH (bS 2 ([0] ++ []) (aq dC (aa (gv 0) af)))
 (bF (f1 (aP 2 [2] (.two 0 1) (bq (f2 (gv 1) (cst (.int 1)) cn)) kL (f2 (f2 (gv 2) (gv 0) cn) (f2 (gv 2) (gv 1) cn) xZ)) (bK λbs=>bs.all id)))))
def fj:SF:=(bF (f1 (aP 1 [1,2] (.nm 0) (bq (gv 0)) kL (f2 (f2 (gv 0) (gv 1) cn) (f2 (gv 0) (gv 2) cn) xZ)) (bK λbs=>bs.all id)))
def fI (dC cP cH:List D->FR):SF:=(aH (bS 2 ([] ++ []) (aP 1 [] (.nm 0) (bq (gv 1)) kL (aq dC (aa (gv 0) af))))
 (bF (f1 (aP 2 [2] (.two 0 1) (bq (aq cP (aa (gv 0) af))) (kU (aq cH (aa (gv 2) (aa (gv 0) (aa (gv 1) af))))) (fq (aa (gv 0) (aa (gv 1) af)))) n5)))
def j3 (c8:List D->FR):SF:=(aH (i9 ([] ++ ([] ++ [])) (lb (rk (kU (f1 (gv 0) (iM "list")))) (cB (f2 (f1 (gv 0) bL) (cst (.int 0)) (cV false))))
 (bF (cst (.bool false)))
 jT)
 (bF (f1 (aP 1 [1] (.nm 0) (bq (gv 0)) kL (aq c8 (aa (gv 0) (aa (gv 1) af)))) (bK λbs=>bs.all id))))
def xy (ax fT cL:List D->FR):SF:=(aH (jk ([1] ++ []) (aq ax (aa (gv 1) af)))
 (bF (fP (aq fT (aa (gv 0) (aa (gv 1) af))) (f2 (aq cL (aa (f2 (gv 1) (cst (.int 0)) cn) (aa (gv 0) af))) (f2 (gv 1) (cst (.int 1)) cn) (cV false)))))
def iy:SF:=(bF (f2 (gv 0) (f2 (cst (.int 1)) (gv 1) IY) Nt))
def gF (a7:List D->FR):SF:=(aH (jF 1 (([] ++ []) ++ ([] ++ [])) (f2 (bR (aa (cst (.int 0)) af)) (f2 (gv 0) (cst (.int 0)) cn) v3))
 (aH (cM (.two 2 3) ([] ++ []) (bq (f2 (gv 0) (cst (.int 1)) cn))
 (pR 1 (([] ++ []) ++ ([2] ++ [])) [] (aq a7 (aa (f2 (gv 1) (gv 3) cn) (aa (gv 2) af))) (gv 3)))
 (jP 1)))
def gH (a7:List D->FR):SF:=(aH (jF 2 [] (bR af))
 (aH (cM (.two 3 4) [0] (JV (gv 0))
 (i9 ((([1] ++ ([3] ++ [])) ++ []) ++ (([] ++ []) ++ [])) (Iv (cB (f2 (aq a7 (aa (gv 1) (aa (gv 3) af))) (gv 1) (cV true))) (cB (f2 (f2 (gv 1) (gv 4) B7) (gv 4) (cV false))))
 (mw 2 [3] (gv 3))
 jT))
 (jP 2)))
def jd (c7 a7:List D->FR):SF:=(aH (jF 2 [] (bR af))
 (aH (bS 3 [] (cst (.int 0)))
 (aH (i4 ([] ++ []) (cB (f2 (f1 (gv 2) bL) (f1 (gv 0) bL) xZ))
 (aH (bS 4 ([0] ++ ([3] ++ [])) (aq c7 (aa (gv 0) (aa (gv 3) af))))
 (aH (bS 5 ([] ++ []) (aP 1 [1] (.nm 0) (bq (gv 4)) (cB (f2 (gv 0) (gv 1) (rV true))) (gv 0)))
 (aH (mw 2 (([] ++ []) ++ []) (f2 (f2 (gv 5) (gv 4) dH) (cst (.int 0)) cn))
 (bS 3 ([3] ++ (([] ++ []) ++ [])) (aq a7 (aa (gv 3) (aa (f2 (gv 2) (f1 (cst (.int 1)) xf) cn) af))))))) 1000)
 (bF (f1 (gv 2) n5)))))
end RM
namespace L2
open PySem PySem.Spec PyProof.Rows
def Gp:SF:=λ_ _=>.bad
section
variable {X:Cx}{Γ:Fx}{E:XK}
def yG {st:Stmt}:SS X Γ E st Gp:=λpins s σ H D I ⟨env,G,B,β,J,o⟩=>o.elim
end
end L2
namespace L2.ST
open PySem PySem.SetTable
def ze (k:Int):Prop:=0<=k/\k < 8
def Ej (T:Tab t hs)(h:Int):∃j,t.freeSlot h=some (j,false)/\j∉t.place/\j<=t.mask/\Reach t.mask (· ∈t.place) h j:=by
 obtain⟨n,h1,h2,h3⟩:=T.first h
 refine⟨(fK t.mask n (st t.mask h)).j,?_,h2,?_,⟨n,h1,rfl,h3⟩⟩
 ·have e:t.probe (λ_=>h + 1) h (t.probeStart h)=some (.empty (fK t.mask n (st t.mask h)).j none):=by
   unfold probe
   rw[DY]
   refine wM n _ _ h1 rfl (λm hm=>?_) (T.slotE h2)
   obtain⟨i,e,q⟩:=T.slotL (h3 m hm)
   exact⟨i,e,λz=>by omega⟩
  unfold freeSlot
  rw[e];rfl
 ·have:=uJ n (Hn t.mask h)
  unfold In at this;omega
def DZ {mask:Nat}(hm:BL mask){es:List (Int×Value)}(hl:es.length * 5 < mask * 3)(finger moves:Nat)(led:Bool) :
  ∃(t:SetTable) (order:Array Nat) (es':List (Int×Value)),laid mask finger moves led true (es.toArray.map (·.1))=some (t,order)/\order.filterMap (λi=>es.toArray[i]?)=es'.toArray/\es'.length=es.length/\
   (∀q,q∈es'↔q∈es)/\Tab t (es'.map (·.1))/\t.led=led/\coversAll order es.length=true/\es'.Perm es:=by
 obtain⟨t,order,e,el,em,nd,mem,T⟩:=su hm (es.toArray.map (·.1)) (by simpa using hl) finger moves led
 have hsz:(es.toArray.map (·.1)).size=es.length:=by simp
 obtain⟨es',f1,f2,f3,f4⟩:=filterMap_get es.toArray order.toList λk hk=>by
  have:=(mem k).mp hk;rw[hsz] at this;simpa using this
 have hpm:order.toList.Perm (List.range es.length):=(List.perm_ext_iff_of_nodup nd PX).mpr λx=>by rw[mem x,hsz,Og]
 have hlen:order.toList.length=es.length:=by rw[hpm.length_eq,O6]
 have hp:es'.Perm es:=by
  rw[<-f1]
  refine (hpm.filterMap _).trans ?_
  have:=filterMap_getElem?_range es.toArray
  simp only[Oh,O4] at this
  rw[this]
 refine⟨t,order,es',e,?_,by omega,λq=>hp.mem_iff,?_,el,by unfold coversAll;exact List.isPerm_iff.mpr hpm,hp⟩
 ·apply Array.toList_inj.mp
  rw[Array.toList_filterMap,<-f1]
 ·have:(order.toList.map λk=>(es.toArray.map (·.1)).toList.getD k 0)=es'.map (·.1):=by
   apply QG
   intro i
   rw[Oa,Oa]
   cases hi:order.toList[i]? with
   |none=>
    have:es'[i]? =none:=Qq.mpr (by rw[f2];exact Qq.mp hi)
    rw[this];rfl
   |some k=>
    have hk:k < es.length:=by have:=(mem k).mp (Ob hi);rwa [hsz] at this
    have:=f3 i k hi
    rw[P4,NW hk] at this
    rw[this]
    simp[hk]
  rw[<-this];exact T
structure qI (f:Int->Int)(led:Bool)(h:Heap)(S:Addr)(es:List (Int×Value)):Prop where
 ex:∃o ep t,h.get? S=some o/\o.ExactSet/\o.data=.set es.toArray ep t/\Tab t (es.map (·.1))/\t.led=led
 el:∀e,e∈es->∃k tk,e=(f k,.int k tk)/\ze k
 nd:(es.map (·.1)).Nodup
def qI.len {f:Int->Int}{led:Bool}{h:Heap}{S:Addr}{es:List (Int×Value)}(P:qI f led h S es):es.length<=8:=by
 have:=a9 (m:=(List.range 8).map λ(k:Nat)=>f (k:Int)) P.nd λx hx=>by
  obtain⟨e,he,rfl⟩:=N7.mp hx
  obtain⟨k,tk,rfl,h0,h8⟩:=P.el e he
  exact N7.mpr ⟨k.toNat,Og.mpr (by omega),by show f ((k.toNat:Nat):Int)=f k;rw[Qt h0]⟩
 simpa using this
section
variable {prog:Program}{w:World}{A:Around}{E:Value->Shared->Prop}{s:Shared}
theorem qI.add {led:Bool}{S:Addr}{es:List (Int×Value)}{k:Int}{tk:Tok}{Q:Bool->Shared->Prop}(hinj:∀a b,ze a->ze b->(intKind prog w).hash a=(intKind prog w).hash b->a=b)(P:qI (intKind prog w).hash led s.heap S es)(hs:ze k)
  (h:∀(b:Bool) (h':Heap) (es':List (Int×Value)),Heap.SameBut S s.heap h'->qI (intKind prog w).hash led h' S es'->(∀e,e∈es'->e∈es\/e=((intKind prog w).hash k,.int k tk))->(∀e,e∈es->e∈es')->(∃tk',((intKind prog w).hash k,Value.int k tk')∈es')->Q b {s with heap:=h'}) :
  wpAny (model prog w) A (setAddHashed S (.int k tk) ((intKind prog w).hash k)) Q E s:=by
 obtain⟨o,ep,t,ho,hex,hd,T,hled⟩:=P.ex
 have hl8:=P.len
 have hfit:t.fits es.toArray.size=true:=lr T (by simp)
 have hel:ElemsOf (intKind prog w) es.toArray.toList:=λe he=>by
  obtain⟨k',tk',rfl,_⟩:=P.el e (by simpa using he)
  exact⟨⟨k',by simp[intKind,Value.isInt],rfl⟩,rfl⟩
 have hb:es.toArray.size < scanBound:=by unfold scanBound;simp;omega
 have hsc:(Value.int k tk).scannable=true:=rfl
 have hkey:(intKind prog w).is k (.int k tk)=true:=by simp[intKind,Value.isInt]
 unfold setAddHashed setAddHashedIn
 refine O3 (NV (OY ho hd hfit ?_))
 dsimp only
 rw[byScan_of hsc hb hel]
 simp only[↓reduceIte]
 unfold setAddByScan
 refine NV ?_
 refine NV (wpAny_rule ?_)
 refine NV (wpAny_setScan_of hkey ho hd hfit hel ?_)
 cases hr:List.findIdx? (λe=>(intKind prog w).is k e.2) es.toArray.toList with
 |some j=>
  dsimp only
  obtain⟨hj,hpj,_⟩:=List.findIdx?_eq_some_iff_getElem.mp hr
  refine N2 (N2 ?_)
  have hm:es.toArray.toList[j]∈es:=by simpa using Pu hj
  obtain⟨k',tk',e,_⟩:=P.el _ hm
  rw[e] at hpj hm
  have:k'=k:=by simpa[intKind,Value.isInt] using hpj
  subst this
  exact h false s.heap es (Heap.SameBut.refl ..) P (λe he=>.inl he) (λe he=>he) ⟨tk',hm⟩
 |none=>
  dsimp only
  obtain⟨hh,hhe⟩:∃hh,hh=(intKind prog w).hash k:=⟨_,rfl⟩
  have hn:hh∉es.map (·.1):=λz=>by
   obtain⟨e,he,e1⟩:=N7.mp z
   obtain⟨k',tk',rfl,hk'⟩:=P.el e he
   have:k'=k:=hinj _ _ hk' hs (e1.trans hhe)
   subst this
   have:=List.findIdx?_eq_none_iff.mp hr _ (by simpa using he)
   simp[intKind,Value.isInt] at this
  rw[<-hhe]
  obtain⟨j,e1,e2,e3,e4⟩:=Ej T hh
  obtain⟨q1,q2⟩:=nO t j T.dum
  have hpl:(t.put j).1.plain=true:=by rw[q1];exact T.plain
  have hbl:(t.put j).2<=es.length:=by
   rw[q2]
   have:=(cz T.rise j).1
   rw[T.size] at this;simpa using this
  obtain⟨es1,hes1⟩:∃es1,es1=es.take (t.put j).2 ++ (hh,Value.int k tk) :: es.drop (t.put j).2:=⟨_,rfl⟩
  have hins:insertAt es.toArray (t.put j).2 (hh,Value.int k tk)=es1.toArray:=by
   apply Array.toList_inj.mp
   rw[bJ _ _ _ (by simpa using hbl),hes1]
  have perm:es1.Perm ((hh,Value.int k tk) :: es):=by
   rw[hes1]
   refine List.perm_middle.trans ?_
   rw[PB]
  have len1:es1.length=es.length + 1:=by rw[perm.length_eq];rfl
  have nd1:(es1.map (·.1)).Nodup:=(perm.map (·.1)).nodup_iff.mpr (Ov.mpr ⟨hn,P.nd⟩)
  have el1:∀e,e∈es1->∃k tk,e=((intKind prog w).hash k,.int k tk)/\ze k:=λe he=>by
   rcases NX.mp (perm.mem_iff.mp he) with z |z
   ·exact⟨k,tk,by rw[z,hhe],hs⟩
   ·exact P.el e z
  have psz:(t.put j).1.place.size=es.length + 1:=by
   rw[q1]
   show (insertAt t.place (below t.place j) j).size=_
   rw[<-Qs,bJ _ _ _ (cz T.rise j).1]
   have:=T.size
   simp at this ⊢
   have:=(cz T.rise j).1
   omega
  have dum1:(t.put j).1.dummies=#[]:=by rw[q1];exact T.dum
  have mask1:(t.put j).1.mask=t.mask:=by rw[q1]
  have tsz:t.place.size=es.length:=by simpa using T.size
  have hload:=T.load
  rw[tsz] at hload
  have hfit1:(t.put j).1.fits es1.toArray.size=true:=by
   unfold SetTable.fits SetTable.fill
   have hpl2:es.length + 1<=t.mask:=by
    rcases T.mask with e |e |e <;> rw[e] at hload ⊢ <;> omega
   rw[psz,dum1,mask1]
   simp[len1,hpl2]
  have hL:layNew t es.toArray hh (.int k tk)=(es1.toArray,(t.put j).1,false,false):=by
   unfold layNew
   rw[e1]
   dsimp only
   rw[hins]
   unfold orStandIn
   rw[hfit1];rfl
  have hgw:∀{s₁:Shared} {Q':Unit->Shared->Prop},Q' () s₁->wpAny (model prog w) A (match false with |true=>rule "set.scan.the-table-gave-way" |false=>pure ()) Q' E s₁:=λhq=>N2 hq
  rw[hL]
  dsimp only
  refine NV (hgw ?_)
  rw[hpl]
  simp only[↓reduceIte]
  refine NV ?_
  rw[hashByValue_scannable 8 hsc]
  refine N2 ?_
  rw[show plainKind (Value.int k tk)=true from rfl]
  simp only[↓reduceIte]
  have hsize:es1.toArray.size<=sizeLine:=by rw[Oo];simp;omega
  refine NV (Ri ho hd ?_ hsize)
  have ho1:(s.heap.update S (Obj.putSet es1.toArray (t.put j).1)).get? S=some {o with data:=.set es1.toArray (ep + 1) (t.put j).1}:=by
   have:=OT (Obj.putSet es1.toArray (t.put j).1) ho (by rw[Q0 _ _ hd];rfl)
   rw[Q0 _ _ hd] at this;exact this
  have sb1:=Heap.SameBut.update s.heap S (Obj.putSet es1.toArray (t.put j).1)
  have m1:∀e,e∈es1->e∈es\/e=((intKind prog w).hash k,.int k tk):=λe he=>by
   rcases NX.mp (perm.mem_iff.mp he) with z |z
   ·exact .inr (by rw[z,hhe])
   ·exact .inl z
  have m2:∀e,e∈es->e∈es1:=λe he=>perm.mem_iff.mpr (N5 _ he)
  have m3:((intKind prog w).hash k,Value.int k tk)∈es1:=perm.mem_iff.mpr (by rw[<-hhe];exact N0 ..)
  simp only[Bool.not_false,Bool.true_and]
  cases htf:(t.put j).1.tooFull with
  |false=>
   simp only[Oj,OR]
   have hload2:(t.place.size + 1) * 5 < t.mask * 3:=by
    unfold SetTable.tooFull SetTable.fill at htf
    rw[psz,dum1,mask1] at htf
    simp at htf
    rw[tsz];exact htf
   obtain⟨T1,_⟩:=T.put e2 e3 e4 hload2
   refine N2 (N2 (h true _ es1 sb1 ⟨⟨_,ep + 1,_,ho1,hex,rfl,?_,?_⟩,el1,nd1⟩ m1 m2 ⟨tk,m3⟩))
   ·rw[hes1]
    simpa[map_take,map_drop] using T1
   ·rw[q1];exact hled
  |true=>
   simp only[O7]
   have hfull:t.mask * 3<=(es.length + 1) * 5:=by
    unfold SetTable.tooFull SetTable.fill at htf
    rw[psz,dum1,mask1] at htf
    simpa using htf
   have hcase:∃mask',BL mask'/\sizeAbove (grown (es.length + 1)) - 1=mask'/\(es.length + 1) * 5 < mask' * 3:=by
    rcases T.mask with e |e |e
    ·have:es.length + 1=5:=by rw[e] at hfull hload;omega
     rw[this,D7.1]
     exact⟨31,.inr (.inl rfl),rfl,by decide⟩
    ·rw[e] at hfull;omega
    ·rw[e] at hfull;omega
   obtain⟨mask',hm3,em,hl2⟩:=hcase
   obtain⟨t2,order,es2,g1,g2,g3,g4,g5,g6,g7,g8⟩:=DZ hm3 (es:=es1) (by rw[len1];exact hl2) (t.put j).1.finger ((t.put j).1.movedTo mask') (t.put j).1.led
   have hfit2:t2.fits es2.toArray.size=true:=lr g5 (by simp)
   have hR:relayAll (t.put j).1 es1.toArray (grown es1.toArray.size)=(es2.toArray,t2,false):=by
    unfold relayAll
    rw[oK _ _ _ hpl,Oh,len1,em,g1]
    dsimp only
    rw[g2,hfit2,<-len1,g7];rfl
   rw[hR]
   dsimp only
   refine NV (hgw ?_)
   have hsize2:es2.toArray.size<=sizeLine:=by rw[Oo];simp;omega
   refine NV (Ri ho1 rfl ?_ hsize2)
   have ho2:((s.heap.update S (Obj.putSet es1.toArray (t.put j).1)).update S (Obj.putSet es2.toArray t2)).get? S=some {o with data:=.set es2.toArray (ep + 1 + 1) t2}:=by
    have:=OT (Obj.putSet es2.toArray t2) ho1 (by rw[Q0 (ep:=ep + 1) _ _ rfl];rfl)
    rw[Q0 (ep:=ep + 1) _ _ rfl] at this;exact this
   have sb2:=sb1.trans (Heap.SameBut.update _ S (Obj.putSet es2.toArray t2))
   refine N2 (N2 (h true _ es2 sb2 ⟨⟨_,ep + 1 + 1,t2,ho2,hex,rfl,g5,?_⟩,λe he=>el1 e ((g4 e).mp he),(g8.map (·.1)).nodup_iff.mpr nd1⟩ (λe he=>m1 e ((g4 e).mp he)) (λe he=>(g4 e).mpr (m2 e he)) ⟨tk,(g4 _).mpr m3⟩))
   rw[g6,q1];exact hled
def qd (vs:List Value)(ns:List Int):Prop:=vs.length=ns.length/\∀(i:Nat) (v:Value) (m:Int),vs[i]? =some v->ns[i]? =some m->(∃tk,v=.int m tk)/\ze m
abbrev Ag (prog:Program)(w:World)(h:Heap)(S:Addr)(ns:List Int)(k:Nat):Prop:=∃es:List (Int×Value),qI (intKind prog w).hash (dB w) h S es/\
 (∀e,e∈es->∃m tk,e=((intKind prog w).hash m,.int m tk)/\m∈ns.take k)/\∀m,m∈ns.take k->∃tk,((intKind prog w).hash m,Value.int m tk)∈es
def qI.to {f:Int->Int}{led:Bool}{h h':Heap}{S:Addr}{es:List (Int×Value)}(P:qI f led h S es)(k:∀o,h.get? S=some o->h'.get? S=some o):qI f led h' S es:=by
 obtain⟨o,ep,t,ho,r⟩:=P.ex
 exact⟨⟨o,ep,t,k o ho,r⟩,P.el,P.nd⟩
def zD:∀k:Nat,k < 8->hashInt (k:Int)=(k:Int):=by decide +kernel
def FK (prog:Program)(w:World):∀a b,ze a->ze b->(intKind prog w).hash a=(intKind prog w).hash b->a=b:=λa b ha hb e=>by
 have e:hashInt a=hashInt b:=e
 obtain⟨a0,a8⟩:=ha
 obtain⟨b0,b8⟩:=hb
 have ea:=zD a.toNat (by omega)
 have eb:=zD b.toNat (by omega)
 rw[Qt a0] at ea
 rw[Qt b0] at eb
 omega
theorem mh {R:Result->Shared->Prop}{P:Nat->Value->Prop}{St:Nat->Heap->Prop}(W:Walks prog w A.in1 I fp wr n P St)(S:Addr)(hSf:S∉fp){ns:List Int}(hn:vs.length=n)(hP:∀i v,P i v->vs[i]? =some v)
  (hps:qd vs ns):∀(k i:Nat) (s:Shared),n - i=k->i<=n->St i s.heap->Ag prog w s.heap S ns i->
   (∀h' tk,(∀b o,b∉S :: wr->s.heap.get? b=some o->h'.get? b=some o)->Ag prog w h' S ns n->R (.ok (.ret .none)) {s with heap:=h',toks:=tk})->
   codeAny (model prog w) A (.builtin "set.update.loop" ⟨[.ref S,.ref I],[]⟩) R s:=by
 have nw:S∉wr:=λh=>hSf (W.sub _ h)
 intro k
 induction k with
 |zero=>
  intro i s hk hi hst hF hR
  obtain rfl:i=n:=by omega
  refine Pb PD ?_
  rw[PH OZ _]
  show wpAny _ A.in1 (pyNext (.ref I) >>= λr=>_) _ _ s
  refine NV (W.done s _ _ hst λh' tk hm=>?_)
  show wpAny _ A.in1 (ret Value.none) _ _ _
  obtain⟨es,Q1,Q2,Q3⟩:=hF
  exact N2 (hR h' tk (λb o hb e=>hm b o (λz=>hb (N5 _ z)) e) ⟨es,Q1.to λo e=>hm S o nw e,Q2,Q3⟩)
 |succ k ih=>
  intro i s hk hi hst hF hR
  have hlt:i < n:=by omega
  refine Pb PD ?_
  rw[PH OZ _]
  show wpAny _ A.in1 (pyNext (.ref I) >>= λr=>_) _ _ s
  refine NV (W.item i s _ _ hlt hst λv h1 tk1 hv hst1 hm=>?_)
  have hvi:=hP i v hv
  have hip:i < ns.length:=by rw[<-hps.1,hn];exact hlt
  obtain⟨⟨tv,rfl⟩,hsm⟩:=hps.2 i v ns[i] hvi (NW hip)
  obtain⟨es,Q1,Q2,Q3⟩:=hF
  have P1:qI (intKind prog w).hash (dB w) h1 S es:=Q1.to λo e=>hm S o nw e
  show wpAny _ A.in1 (holding [Value.int ns[i] tv] (setAdd S (.int ns[i] tv)) >>= λ_=>_) _ _ _
  refine NV (O3 ?_)
  unfold setAdd
  refine O3 (NV (wpAny_pyHash_int ?_))
  refine qI.add (FK prog w) (s:={s with heap:=h1,toks:=tk1 + 1}) P1 hsm λb h2 es' sb P2 m1 m2 m3=>?_
  have htk:∀{α:Type} {l:List α} {x:α},x∈l.take i->x∈l.take (i + 1):=λ{α l x} hx=>by
   rw[Pj];exact Pa _ hx
  refine N2 ⟨plainId_quiet OZ _,ih (i + 1) _ (by omega) hlt (W.frame _ _ _ hst1 λb hb o e=>?_) ⟨es',P2,λe he=>?_,λm hm'=>?_⟩ λh' tk hm' F'=>?_⟩
  ·rw[sb.2 b λz=>hSf (by rw[<-z];exact hb)];exact e
  ·rcases m1 e he with z |z
   ·obtain⟨m,t',e',hmm⟩:=Q2 e z
    exact⟨m,t',e',htk hmm⟩
   ·refine⟨ns[i],tv,z,?_⟩
    rw[Pj,NW hip];exact Ox _ (by simp)
  ·rw[Pj,NW hip] at hm'
   rcases Of.mp hm' with z |z
   ·obtain⟨t',ht'⟩:=Q3 m z
    exact⟨t',m2 _ ht'⟩
   ·have:m=ns[i]:=by simpa using z
    subst this
    exact m3
  ·refine hR h' tk (λb o hb e=>hm' b o hb ?_) F'
   show h2.get? b=some o
   rw[sb.2 b λz=>hb (by rw[z];exact N0)]
   exact hm b o (λz=>hb (N5 _ z)) e
set_option maxHeartbeats 3200000 in
theorem oZ {St:Addr->Nat->Heap->Prop}{Q:Value->Shared->Prop}(X:Src prog w s.heap l vs T itO St)(hh:A.handled=none)(hps:qd vs ns)
  (h:∀(h':Heap) (tk:Nat),Ag prog w h' s.heap.objs.size ns vs.length->(∀b o,s.heap.get? b=some o->h'.get? b=some o)->Q (.ref s.heap.objs.size) {s with heap:=h',toks:=tk}) :
  wpAny (model prog w) A (call (.type "set") [.ref l]) Q E s:=by
 obtain⟨c0,tl0,hmro0⟩:=OI.mro
 have hmade0:=OI.made
 have hsub0:=OI.sub
 refine wpAny_call (codeAny_of_tree ?_)
 show wpAny _ _ (callAny (.type "set") ⟨[.ref l],[]⟩) _ _ _
 refine N2 ⟨Q4 _ (by decide +kernel),Pb F.entry_type_call ?_⟩
 (rw[Around.under_plain (weight_type_call_type "set" [.ref l] []) rfl])
 have g1:=OI.notType
 have g2:=OI.canCreate
 have g3:=F.typeCall_set_1 (.ref l)
 repeat (any_goals (first |assumption |wp_step))
 refine P6 (lB (.ref l) (E:=E) (Q1:=λobj s1=>obj=.ref s.heap.objs.size/\s1={s with heap:=s.heap.push {cls:=.type "set",dict:=none,data:=.set #[] 0 (.fresh 0 0 (dB w))}}) ⟨rfl,rfl⟩) λr s1 hr=>?_
 cases r with
 |error e=>exact hr
 |ok fl=>
  cases fl with
  |ret obj=>
   obtain⟨rfl,rfl⟩:=hr
   generalize hO:({cls:=.type "set",dict:=none,data:=.set #[] 0 (.fresh 0 0 (dB w))}:Obj)=O
   have hS0:(s.heap.push O).get? s.heap.objs.size=some O:=Od _ (by rw[<-hO];rfl)
   have hT0:Shared.TypeIs {s with heap:=s.heap.push O} (.ref s.heap.objs.size) "set":=⟨_,hS0,by rw[<-hO]⟩
   have g4:=OI.init.lookup
   have g5:=OI.init.bind (.ref s.heap.objs.size)
   repeat (any_goals (first |assumption |wp_step))
   refine P6 (codeAny_call_builtin (R:=wants (λr s2=>r=.none/\∃h' tk,s2={s with heap:=h',toks:=tk}/\Ag prog w h' s.heap.objs.size ns vs.length/\(∀b o,s.heap.get? b=some o->h'.get? b=some o)) E)
    OI.init.plain F.entry_set_init (check_set_init_1 hT0 ?_)) λr2 s2 hr2=>?_
   ·obtain⟨ol,hol,hcl⟩:=X.ty
    have hol':(s.heap.push O).get? l=some ol:=NY _ hol
    have e1:=X.ns
    have e2:=X.nf
    have e3:=X.nd
    have hTl:Shared.TypeIs {s with heap:=s.heap.push O} (.ref l) T:=⟨ol,hol',hcl⟩
    have hdat:O.data=.set #[] 0 (.fresh 0 0 (dB w)):=by rw[<-hO]
    (unfold Builtin.«set.__init__» noKeywords Builtin.Frozenset.updateFrom)
    subst hO
    obtain⟨oc,od,odt,osl⟩:=ol
    simp only at hcl
    subst hcl
    (generalize hPI0:pyIter=PI0)
    wp_walk
    subst hPI0
    have kp:∀b o,s.heap.get? b=some o->(s.heap.push {cls:=.type "set",dict:=none,data:=.set #[] 0 (.fresh 0 0 (dB w))}).get? b=some o:=λb o e=>NY _ e
    refine X.it _ _ _ _ kp ?_
    refine NV (Rg ?_)
    have hlS:l < s.heap.objs.size:=Oc hol
    have hh3:A.in1.in1.in1.handled=none:=by simp[hh]
    have hneI:l≠(s.heap.push {cls:=.type "set",dict:=none,data:=.set #[] 0 (.fresh 0 0 (dB w))}).objs.size:=by
     rw[O9];exact Oz (QH hlS)
    have hSf:s.heap.objs.size∉ [(s.heap.push {cls:=.type "set",dict:=none,data:=.set #[] 0 (.fresh 0 0 (dB w))}).objs.size,l]:=by
     rw[O9]
     intro z
     rcases NX.mp z with e |z
     ·exact absurd e (Oz (Nat.lt_succ_self _))
     ·exact absurd (N6.mp z) (QW hlS)
    refine mh (X.wk _ _ hh3 hneI) s.heap.objs.size hSf rfl (λi v e=>e) hps (vs.length - 0) 0 _ (by omega) (OJ _) (X.st _ kp) ?_ ?_
    ·refine⟨[],⟨⟨_,0,_,NY _ hS0,⟨rfl,rfl,rfl⟩,rfl,sv _,rfl⟩,λq hq=>(by cases hq),P5⟩,λq hq=>(by cases hq),λp hp=>(by simp at hp)⟩
    ·intro h' tk hm F'
     show wpAny _ _ _ _ _ _
     refine N2 ?_
     show wpAny _ _ (ret Value.none) _ _ _
     refine N2 ⟨rfl,h',tk,rfl,F',λb o e=>hm b o (λz=>?_) (NY _ (kp b o e))⟩
     have hlt:=Oc e
     rw[O9] at z
     rcases NX.mp z with z |z
     ·exact absurd hlt (by rw[z];exact OO _)
     ·rw[N6.mp z] at hlt
      exact absurd hlt (Nat.not_lt.mpr (Qh _))
   ·cases r2 with
    |error e=>exact hr2
    |ok fl2=>
     cases fl2 with
     |ret r=>
      obtain⟨rfl,h',tk,rfl,hF,hk⟩:=hr2
      repeat (any_goals (first |assumption |wp_step))
      exact h _ _ hF hk
     |_=>exact hr2.elim
  |_=>exact hr.elim
end
end L2.ST
namespace L2
open PySem PySem.Spec PyProof.Rows L2.ST
def Mb:List Int:=[0,1,2,3,4,5,6,7]
def sI (ns:List Int):List Int:=Mb.filter λk=>decide (k∈ns)
def Ff (h:ze k):k∈Mb:=by
 obtain⟨h0,h8⟩:=h
 simp only[Mb,NX,OC,Po];omega
def KZ (ns:List Int):(sI ns).Nodup:=List.Nodup.sublist (Qe ..) (by decide)
def K3 (ns:List Int):(sI ns).Pairwise (· < ·):=List.Pairwise.sublist (Qe ..) (by decide)
def IE (h:∀k,k∈ns->ze k):k∈sI ns↔k∈ns:=by
 unfold sI
 rw[Oi,QB]
 exact⟨λx=>x.2,λx=>⟨Ff (h k x),x⟩⟩
def zA (h:∀k,k∈ns->ze k)(nd:ms.Nodup)(hm:∀k,k∈ms↔k∈ns):sortI ms=sI ns:=
 (gr ((List.perm_ext_iff_of_nodup (KZ ns) nd).mpr λk=>(IE h).trans (hm k).symm) ((K3 ns).imp λh=>Int.le_of_lt h)).symm
section
variable {K:Frag}{X:Cx}{G H:Hp}
def Cw (w:World)(S:Addr)(es:List (Int×Value))(h:Heap):Prop:=∃o ep t,h.get? S=some o/\o.ExactSet/\o.data=.set es.toArray ep t/\Tab t (es.map (·.1))/\t.led=dB w
def vS (w:World)(S:Addr)(es:List (Int×Value)):HO:=.ext (Cw w S es)
def NC (f:Int->Int)(es:List (Int×Value))(ns:List Int):Prop:=(∀e,e∈es->∃m tk,e=(f m,.int m tk)/\m∈ns)/\(∀m,m∈ns->∃tk,(f m,Value.int m tk)∈es)/\(es.map (·.1)).Nodup/\es.length<=8
def GS (P:Program)(w:World)(K:Frag):List V->Hp->VK->Prop:=λxs H Q=>∃a ns,xs= [.ref a]/\(gf K H a (ns.map V.int)\/fO K H a (ns.map V.int))/\(∀k,k∈ns->ze k)/\
 ∀S es,H S=none->NC (intKind P w).hash es ns->Q (.ref S) (upd H S (vS w S es))
def AD (hc:X.calm=true):cI X (.type "set") (GS X.prog X.w X.K):=by
 intro pins s σ H xs us Q I r h
 obtain⟨a,ns,rfl,hq,hs,q⟩:=h
 obtain⟨u,rfl,rx⟩:=vals1 r
 cases rx
 have hh:=I.ok.hd hc
 have core:∀{its:List Value} {T:String} {itO:Obj} {St:Addr->Nat->Heap->Prop},Vals (ns.map V.int) its->Src X.prog X.w s.heap a its T itO St->wpAny (model X.prog X.w) X.A (call (.type "set") [.ref a]) (EP X pins σ Q) X.xe s:=λ{its T itO St} rv src=>by
  have hlen:its.length=ns.length:=by rw[<-rv.length,NZ]
  have sm:qd its ns:=⟨hlen,λi v m e1 e2=>by
   obtain⟨t,ht⟩:=(intsAre_of rv).get i m e2
   rw[e1] at ht
   cases ht
   exact⟨⟨t,rfl⟩,hs m (Ob e2)⟩⟩
  refine oZ src hh sm λh' tk F k=>?_
  obtain⟨es,P1,P2,P3⟩:=F
  rw[hlen,Py (N4 _)] at P2 P3
  have hf:H s.heap.objs.size=none:=I.hok.fresh (N4 _)
  obtain⟨o,ep,t,ho,r1⟩:=P1.ex
  have new:cx X.prog X.w (upd H s.heap.objs.size (vS X.w s.heap.objs.size es)) h' s.heap.objs.size (vS X.w s.heap.objs.size es):=
   ⟨⟨o,ep,t,ho,r1⟩,⟨o,ho⟩,λh1 h2 ⟨o1,ep1,t1,g1,g2⟩ kk=>⟨o1,ep1,t1,kk _ g1,g2⟩⟩
  exact⟨.ref _,_,I.laid (t':=tk) k (N4 _) new,rfl,q _ es hf ⟨P2,P3,P1.nd,P1.len⟩⟩
 rcases hq with hq |hq
 ·obtain⟨its,rv,pl,hz⟩:=I.list hq
  exact core rv (Src.list pl.isList)
 ·obtain⟨its,rv,pl,hz⟩:=I.tuple hq
  exact core rv (Src.tuple pl)
def sL (P:Program)(w:World)(K:Frag):List V->Hp->VK->Prop:=λxs H Q=>∃S es ns,xs= [.ref S]/\H S=some (vS w S es)/\NC (intKind P w).hash es ns/\(∀k,k∈ns->ze k)/\∀l,H l=none->Q (.ref l) (upd H l (.lst ((sI ns).map V.int)))
theorem p9 {f:Int->Int}{ns:List Int}:∀{es:List (Int×Value)},(∀e,e∈es->∃m tk,e=(f m,Value.int m tk)/\m∈ns)->∃ms,IntsAre (es.map (·.2)) ms/\es.map (·.1)=ms.map f/\∀m,m∈ms↔∃tk,(f m,Value.int m tk)∈es
 | [],_=>⟨[],.nil,rfl,λm=>⟨(λh=>by cases h),(λ⟨_,h⟩=>by cases h)⟩⟩
 |e :: es,h=>by
  obtain⟨ms,a1,a2,a3⟩:=p9 λe he=>h e (N5 _ he)
  obtain⟨m,tk,rfl,_⟩:=h e (N0 ..)
  refine⟨m :: ms,.cons m tk a1,by rw[OL,OL,a2],λx=>?_⟩
  rw[NX,a3 x]
  constructor
  ·rintro (rfl | ⟨t,ht⟩)
   ·exact⟨tk,N0 ..⟩
   ·exact⟨t,N5 _ ht⟩
  ·rintro⟨t,ht⟩
   rcases NX.mp ht with z |z
   ·simp only[Prod.mk.injEq,Value.int.injEq] at z;exact .inl z.2.1
   ·exact .inr ⟨t,z⟩
def rR (hc:X.calm=true):cI X (.builtin "sorted") (sL X.prog X.w X.K):=by
 intro pins s σ H xs us Q I r h
 obtain⟨S,es,ns,rfl,hS,⟨h1,h2,nd,hl⟩,hs,q⟩:=h
 obtain⟨u,rfl,rx⟩:=vals1 r
 cases rx
 have hh:=I.ok.hd hc
 obtain⟨⟨o,ep,t,ho,hex,hd,T,hled⟩,_,_⟩:Cw X.w S es s.heap/\_:=I.hok S _ hS
 have T':Tab t (es.toArray.toList.map (·.1)):=by rw[O4];exact T
 have htp:=nW X.w S ep es.toArray
 rw[O4] at htp
 obtain⟨ms,a1,a2,a3⟩:=p9 (f:=(intKind X.prog X.w).hash) (ns:=ns) (es:=(told X.w S ep es.toArray).toList) λe he=>h1 e (htp.mem_iff.mp he)
 have ndm:ms.Nodup:=by
  have:((told X.w S ep es.toArray).toList.map (·.1)).Nodup:=(htp.map (·.1)).nodup_iff.mpr nd
  rw[a2] at this
  exact (OP.mp this).imp λhxy e=>hxy (by rw[e])
 have hms:∀m,m∈ms↔m∈ns:=λm=>by
  rw[a3 m]
  constructor
  ·rintro⟨tk,ht⟩
   obtain⟨m',tk',e,hm'⟩:=h1 _ (htp.mem_iff.mp ht)
   simp only[Prod.mk.injEq,Value.int.injEq] at e
   rw[e.2.1];exact hm'
  ·intro hm
   obtain⟨tk,ht⟩:=h2 m hm
   exact⟨tk,htp.mem_iff.mpr ht⟩
 have hlen:((told X.w S ep es.toArray).toList.map (·.2)).length<=8:=by rw[NZ,htp.length_eq];exact hl
 (refine QT kind_sorted plain_sorted entry_sorted (args_sorted1 _) ?_)
 unfold Builtin.«sorted»
 refine NV (m:=checkCount "sorted" 1 1 ([Value.ref S]:List Value).length) (N2 ?_)
 refine NV (oR (by simpa using hh) ho hd hex.1 T' hled (by simp;omega) λh1' tk1 vs ev k1=>?_)
 rw[ev]
 generalize hvs:(told X.w S ep es.toArray).toList.map (·.2)=vs' at a1 hlen
 have hz:vs'.length<=sizeLine:=by rw[Oo];omega
 refine NV (QQ ?_ hz)
 show wpAny _ _ _ _ _ {s with heap:=h1'.push (seqObj "list" vs'.toArray 0),toks:=tk1}
 have hoL:(h1'.push (seqObj "list" vs'.toArray 0)).get? h1'.objs.size=some (seqObj "list" vs'.toArray 0):=Od _ rfl
 refine NV (O3 (PY slot_list_sort ⟨_,hoL,rfl⟩ entry_list_sort (list_sort_tree hoL a1 (by omega) λout ns' b1 b2 b3=>⟨_,rfl,?_⟩) (args_list_sort _)))
 refine N2 ⟨_,rfl,?_⟩
 obtain rfl:=gr b2 b3
 rw[zA hs ndm hms] at b1
 obtain⟨c,he⟩:∃c,(sortedHeap (h1'.push (seqObj "list" vs'.toArray 0)) h1'.objs.size vs' out).get? h1'.objs.size=some (seqObj "list" out c):=sortedHeap_at hoL
 have k2:∀b o,h1'.get? b=some o->(sortedHeap (h1'.push (seqObj "list" vs'.toArray 0)) h1'.objs.size vs' out).get? b=some o:=λb o e=>by
  have hlt:=Oc e
  rw[sortedHeap_old (Oz hlt) (by rw[size_push'];exact QH hlt),QI _ _ _ (Oz hlt)];exact e
 have I1:Inv X pins σ H {s with heap:=h1',toks:=tk1}:=I.kept k1
 have hf:H h1'.objs.size=none:=I1.hok.fresh (N4 _)
 have hz':((sI ns).map V.int).length<=sizeLine:=by
  have:(sI ns).length<=8:=(Qe (l:=Mb)).length_le
  rw[NZ,Oo];omega
 have I2:Inv X pins σ (upd H h1'.objs.size (.lst ((sI ns).map V.int))) {s with heap:=sortedHeap (h1'.push (seqObj "list" vs'.toArray 0)) h1'.objs.size vs' out,toks:=tk1}:=I1.laid (t':=tk1) k2 (N4 _) (show cx X.prog X.w _ _ _ (.lst ((sI ns).map V.int)) from⟨hz',out.toList,c,pC b1,he⟩)
 exact⟨.ref _,_,I2,rfl,q _ hf⟩
def Mw (k:Int):Bool:=decide (0<=k) && decide (k < 8)
def iG (d:D):Option D:=match hG d with
 |some ds=>(match fw ds with
  |some ns=>if ns.all Mw=true then some (.list ((sI ns).map int)) else none
  |none=>none)
 |none=>none
variable {Γ:Fx}{E:XK}{e a b c:Expr}{f fa fb fc:VF D}{L La Lb:List Nat}{md ma mb mc:Md}{pos:Pos}
theorem vg {p1 p2 pos2:Pos}(hc:X.calm=true)(hK:X.K=Γ.K)(hg:Gl X "sorted")(hm:X.mg "sorted"=none)(hg2:Gl X "set")(hm2:X.mg "set"=none)(ha:SE X Γ E a fa La ma)
  (he:starEach [a] X.env=(false,eval a X.env) :: starEach [] X.env:=by rfl)
  (he2:starEach [.Call (.Name "set" p2) [a] [] pos2] X.env=(false,eval (.Call (.Name "set" p2) [a] [] pos2) X.env) :: starEach [] X.env:=by rfl) :
  SE X Γ E (.Call (.Name "sorted" p1) [.Call (.Name "set" p2) [a] [] pos2] [] pos) (f1 fa iG) La .w:=by
 refine PE.post' (i0 (rR hc) hg hm (by decide +kernel) (aN (fZ (AD hc) hg2 hm2 (by decide +kernel) (aN ha bu he) (by decide) (by decide) he) bu he2) (by decide) (by decide) he2) λσ H Q ⟨env,G,B,β,I,o⟩=>?_
 refine il (r:=λx H1 Q=>GS X.prog X.w X.K [x] H1 λy H2=>sL X.prog X.w X.K [y] H2 Q) ?_ I o
 intro B G H x dx d Q s hB bx e k
 rw[hK]
 unfold iG at e
 cases q:hG dx with
 |none=>rw[q] at e;cases e
 |some ds=>
  rw[q] at e
  dsimp only at e
  cases q2:fw ds with
  |none=>rw[q2] at e;cases e
  |some ns=>
   rw[q2] at e
   dsimp only at e
   split at e
   ·rename_i hh
    cases e
    obtain⟨p,xs,rfl,hq,r⟩:=bx.seq q s
    rw[la q2] at r
    have r:=r.intsB
    subst r
    have sm:∀k,k∈ns->ze k:=λk hk=>by
     have:=Ot.mp hh k hk
     unfold Mw at this
     simp only[Om,Oq] at this
     exact this
    refine⟨p,ns,rfl,hq,sm,λS es hS he'=>?_⟩
    refine⟨S,es,ns,rfl,aA,he',sm,λl hl=>?_⟩
    have hlH:H l=none:=by
     by_cases z:l=S
     ·subst z;exact hS
     ·rw[aC z] at hl;exact hl
    have hh:ay H (upd (upd H S (vS X.w S es)) l (.lst ((sI ns).map V.int))):=(ay.new hS).trans (ay.new hl)
    refine k _ _ _ (Ext.tups s hh) ⟨l,rfl,hlH,?_,_,aA,cg.ints _⟩
    unfold lZ
    rw[s.free hlH,aA]
    exact N8 λy=>y
   ·cases e
end
end L2
namespace RM
open PySem L2
def hJ (gx:List D->FR):SF:=(i9 ([0] ++ []) (rk (kU (aq gx (aa (gv 0) af))))
 Gp
 jT)
def bN (ax aW:List D->FR):SF:=(aH (jk ([0] ++ []) (aq ax (aa (gv 0) af)))
 (i9 ([1] ++ (([] ++ []) ++ [])) (rk (kU (aq aW (aa (gv 1) (aa (f2 (gv 0) (cst (.int 0)) cn) af)))))
 Gp
 jT))
def tP (bX:List D->FR):SF:=(bF (f1 (f1 (aP 1 [0,2] (.nm 0) (bq (gv 1)) kL (aq bX (aa (gv 1) (aa (gv 0) (aa (gv 2) af))))) (bK λbs=>bs.any id)) yk))
def cZ (ba iO:List D->FR):SF:=(aH (i9 ([] ++ ([] ++ [])) (cB (f2 (gv 3) (f2 (gv 0) (cst (.int 0)) cn) (cV false)))
 (jP 2)
 jT)
 (aH (cM (.two 4 5) [2] (JV (gv 2))
 (i9 ([0] ++ ([5] ++ ([3] ++ []))) (kU (aq iO (aa (gv 0) (aa (gv 5) (aa (gv 3) af)))))
 (aH (bS 6 ([0] ++ ([1] ++ ((((([] ++ []) ++ []) ++ (([] ++ ([3] ++ [])) ++ [])) ++ (([] ++ ([] ++ [])) ++ [])) ++ (([] ++ []) ++ [])))) (aq ba (aa (gv 0) (aa (gv 1) (aa (f2 (f2 (CA (gv 2) (λ_ β=>.ok none β) (DL (gv 4))) (bR (aa (f2 (gv 5) (bR (aa (gv 3) af)) dH) af)) dH) (CA (gv 2) (DL (f2 (gv 4) (cst (.int 1)) cD)) (λ_ β=>.ok none β)) dH) (aa (f2 (gv 3) (cst (.int 1)) cD) af))))))
 (i9 [] (tN (gv 6) true)
 (jP 6)
 jT))
 jT))
 (aH (i9 ([] ++ []) (cB (f2 (f1 (gv 2) bL) (gv 1) (cV false)))
 (bF (cst .none))
 jT)
 (bF (aq ba (aa (gv 0) (aa (gv 1) (aa (f2 (gv 2) (bR (aa (bR (aa (gv 3) af)) af)) dH) (aa (f2 (gv 3) (cst (.int 1)) cD) af)))))))))
def m8 (ax ba bB:List D->FR):SF:=(aH (jk ([0] ++ []) (aq ax (aa (gv 0) af)))
 (bF (aq ba (aa (gv 0) (aa (f1 (aq bB (aa (gv 0) af)) bL) (aa (bR af) (aa (cst (.int 0)) af)))))))
noncomputable def kI (aW iO:List D->FR):SF:=(aH (i9 ([] ++ ([] ++ [])) (lb (rk (kU (f1 (gv 0) (iM "list")))) (cB (f2 (f1 (gv 0) bL) (cst (.int 0)) (cV false))))
 (bF (cst (.bool false)))
 jT)
 (aH (i9 (([] ++ []) ++ ([] ++ [])) (lb (rk (kU (f1 (aP 1 [1] (.nm 0) (bq (gv 0)) kL (aq aW (aa (gv 0) (aa (f2 (gv 1) (cst (.int 0)) cn) af)))) (bK λbs=>bs.all id)))) (cB (f2 (gv 0) (f1 (gv 0) iG) (cV true))))
 (bF (cst (.bool false)))
 jT)
 (bF (f1 (aP 1 [1,0] (.nm 0) (bq (gv 0)) kL (aq iO (aa (gv 1) (aa (gv 2) (aa (gv 0) af))))) (bK λbs=>bs.all id)))))
noncomputable def ik (ax b9:List D->FR):SF:=(aH (jk ([1] ++ []) (aq ax (aa (gv 1) af)))
 (aH (i9 ([] ++ ([] ++ [1])) (lb (rk (kU (f1 (gv 0) (iM "list")))) (rk (kU (f1 (aP 1 [1] (.nm 0) (bq (gv 0)) kL (aq b9 (aa (gv 0) (aa (gv 1) af)))) (bK λbs=>bs.all id)))))
 (bF (cst (.bool false)))
 jT)
 (aH (jF 2 [] (bR af))
 (aH (cM (.nm 3) [0] (bq (gv 0))
 (Du 2 [] (gv 3)))
 (bF (f2 (f1 (gv 2) qt) (f1 (f2 (gv 1) (cst (.int 0)) cn) gO) (cV false)))))))
def jn (ax b9 eV c5:List D->FR):SF:=(aH (jk ([0] ++ []) (aq ax (aa (gv 0) af)))
 (aH (i9 ([1] ++ ([0] ++ [])) (rk (kU (aq b9 (aa (gv 1) (aa (gv 0) af)))))
 Gp
 jT)
 (bF (aq eV (aa (aq c5 (aa (gv 0) af)) (aa (gv 1) af))))))
def hV (cW bV:List D->FR):SF:=(lI (aP 1 [0] (.nm 0) (bq (aq cW (aa (gv 0) af))) kL (aq bV (aa (gv 1) (aa (gv 0) af)))))
def dm (fu:List D->FR):SF:=(aH (cM (.nm 3) [2] (bq (gv 2))
 (cM (.nm 4) ([1] ++ ([3] ++ [])) (bq (aq fu (aa (gv 1) (aa (gv 3) af))))
 (i9 (([] ++ []) ++ ([] ++ [])) (cB (f2 (xO (gv 0) (gv 4)) (xO (gv 0) (gv 3)) Nd))
 (bF (cst (.bool false)))
 jT)))
 (bF (cst (.bool true))))
def zu (gi cW bB dJ cT oD bH bV fu iN:List D->FR)(dM:List D->Int->FB):SF:=(aH (cM (.nm 1) ([] ++ ([] ++ [])) (i6 (f2 (cst (.int 1)) (f2 (f1 (gv 0) bL) (cst (.int 3)) (xt λi j=>.int (if j < i then j else i))) (xt λi j=>.int (if j > i then j else i))))
 (aH (bS 2 ([0] ++ ([1] ++ [])) (L9 (vV gi (aa (gv 0) (aa (gv 1) af))) dM 7))
 (aH (bS 3 ([2] ++ []) (aq cW (aa (gv 2) af)))
 (aH (bS 4 ([2] ++ []) (aq bB (aa (gv 2) af)))
 (aH (bS 5 ([2] ++ []) (aq dJ (aa (gv 2) af)))
 (aH (i9 (([] ++ []) ++ (([3] ++ ([2] ++ [])) ++ [])) (lb (cB (f2 (f1 (gv 3) bL) (f1 (gv 4) bL) (cV true))) (cB (f2 (aq cT (aa (gv 3) (aa (gv 2) af))) (cst (.bool true)) pW)))
 (bF (cst (.bool false)))
 jT)
 (aH (i9 ((([5] ++ ([2] ++ [])) ++ []) ++ ([] ++ [])) (lb (cB (f2 (aq oD (aa (gv 5) (aa (gv 2) af))) (cst (.bool true)) pW)) (cB (f2 (f1 (gv 5) bL) (f1 (gv 3) bL) (cV true))))
 (bF (cst (.bool false)))
 jT)
 (aH (cM (.two 6 7) ([3] ++ [5]) (FH (gv 3) (gv 5))
 (i9 (([7] ++ ([2] ++ ([6] ++ []))) ++ (([2] ++ ([6] ++ [])) ++ ([2] ++ ([6] ++ [])))) (lb (rk (kU (aq bH (aa (gv 7) (aa (gv 2) (aa (gv 6) af)))))) (rk (kU (aq bH (aa (aq bV (aa (gv 2) (aa (gv 6) af))) (aa (gv 2) (aa (gv 6) af)))))))
 (bF (cst (.bool false)))
 jT))
 (aH (cM (.nm 6) [3] (bq (gv 3))
 (i9 (([] ++ []) ++ []) (cB (f2 (f1 (aP 1 [4] (.nm 0) (bq (gv 6)) (cB (f2 (gv 0) (gv 1) (rV false))) (gv 0)) bL) (cst (.int 1)) (cV true)))
 (bF (cst (.bool false)))
 jT))
 (aH (cM (.nm 8) [4] (bq (gv 4))
 (aH (bS 9 (([2] ++ ([8] ++ [])) ++ ([8] ++ [])) (f2 (aq fu (aa (gv 2) (aa (gv 8) af))) (bR (aa (gv 8) af)) dH))
 (i9 (([] ++ []) ++ []) (cB (f2 (aP 1 [9] (.nm 0) (bq (gv 4)) (cB (f2 (gv 0) (gv 1) (rV true))) (gv 0)) (bR af) (cV true)))
 (bF (cst (.bool false)))
 jT)))
 (aH (i9 (((([] ++ []) ++ []) ++ ([2] ++ [])) ++ []) (cB (f2 (aq cT (aa (CA (gv 3) (DL (cst (.int 1))) (λ_ β=>.ok none β)) (aa (gv 2) af))) (cst (.bool false)) pW))
 (bF (cst (.bool false)))
 jT)
 (i9 (((([2] ++ []) ++ []) ++ []) ++ ((([2] ++ []) ++ []) ++ [])) (lb (cB (f2 (f1 (aq cW (aa (aq iN (aa (gv 2) af)) af)) bL) (f1 (gv 3) bL) (cV true))) (cB (f2 (aq bB (aa (aq iN (aa (gv 2) af)) af)) (gv 4) (cV true))))
 (bF (cst (.bool false)))
 jT))))))))))))
 (bF (cst (.bool true))))
end RM
namespace RQ
open PySem L2 RM
def top (i:Nat):Stmt:=PySem.Challenge.pw_rowsorder_k21_whole_rows_by_chains.main.body.getD i (.Pass ⟨0,0,0,0⟩)
section
variable {P:Program}{w:World}{K:Frag}{mg:Str->Option Value}{base:Heap}{ca:Str->Addr}
abbrev kz:Stmt:=top 2
def vE:aG ["thing"] ["thing"] (ar kz):=⟨rfl,rfl,rfl,by decide +kernel,rfl,by decide +kernel,by decide +kernel⟩
def ua (F:iw K mg "is_whole" kz ["thing"] f fd)(B:iY mg):bP P w K mg base ca "is_whole" ["thing"] 1 (aZ 1 1 (qj)):=
 ⟨⟨f,fd,F.mg,F.F.kp,F.b,aO (N:=["thing"]) (k:=0) F.F vE λcdv A outer s H G E hr=>
  (av (aR (jY (kq "int" (by decide) rfl rfl B.isinstance rfl B.int (by decide +kernel) (ae 0)) (kX (yj (kq "bool" (by decide) rfl rfl B.isinstance rfl B.bool (by decide +kernel) (ae 0)))) (λ_ _=>rfl))))⟩,λds h=>aJ ds h⟩
abbrev kl:Stmt:=top 3
def vI:aG ["thing","bound"] ["thing","bound"] (ar kl):=⟨rfl,rfl,rfl,by decide +kernel,rfl,by decide +kernel,by decide +kernel⟩
def uH {cc:List D->FR}(F:iw K mg "is_below" kl ["thing","bound"] f fd)(B:iY mg)(gk:bP P w K mg base ca "is_whole" ["thing"] 1 cc):bP P w K mg base ca "is_below" ["thing","bound"] 2 (aZ 2 2 (qg cc)):=
 ⟨⟨f,fd,F.mg,F.F.kp,F.b,aO (N:=["thing","bound"]) (k:=1) F.F vI λcdv A outer s H G E hr=>
  (av (aR (jY (az gk (hr.mono (by decide)) aS rfl rfl (ab (ah 0 rfl) ak)) (kX (vJ Cu wD IS Cv aE (ae 0) (ae 1))) (λ_ _=>rfl))))⟩,λds h=>aJ ds h⟩
abbrev lP:Stmt:=top 4
def yT:aG ["thing"] ["thing"] (ar lP):=⟨rfl,rfl,rfl,by decide +kernel,rfl,by decide +kernel,by decide +kernel⟩
def vk {cc:List D->FR}(F:iw K mg "is_many" lP ["thing"] f fd)(B:iY mg)(gk:bP P w K mg base ca "is_whole" ["thing"] 1 cc)(jx:mg "MOST_THINGS"=some (.int 8 Er)):bP P w K mg base ca "is_many" ["thing"] 2 (aZ 1 1 (sX cc)):=
 ⟨⟨f,fd,F.mg,F.F.kp,F.b,aO (N:=["thing"]) (k:=1) F.F yT λcdv A outer s H G E hr=>
  (av (aR (jY (az gk (hr.mono (by decide)) aS rfl rfl (ab (ah 0 rfl) ak)) (kX (vJ Cu Cu IS IS aE (ae 0) (EM (by rfl) jx))) (λ_ _=>rfl))))⟩,λds h=>aJ ds h⟩
abbrev lL:Stmt:=top 5
def yn:aG ["thing","many"] ["thing","many"] (ar lL):=⟨rfl,rfl,rfl,by decide +kernel,rfl,by decide +kernel,by decide +kernel⟩
def wU {aW:List D->FR}(F:iw K mg "is_pair" lL ["thing","many"] f fd)(B:iY mg)(bQ:bP P w K mg base ca "is_below" ["thing","bound"] 2 aW):bP P w K mg base ca "is_pair" ["thing","many"] 3 (aZ 2 2 (sJ aW)):=
 ⟨⟨f,fd,F.mg,F.F.kp,F.b,aO (N:=["thing","many"]) (k:=2) F.F yn λcdv A outer s H G E hr=>
  (ao (cf (rC.t (kM (dE (cy rfl (kq "tuple" (by decide) rfl rfl B.isinstance rfl B.tuple (by decide +kernel) (ae 0)))) (gY (bw (fA hr.units) fG (aL bt dU rfl B.len OE (ae 0)) aE (bh _))) (λ_ _=>rfl)))
  (av (aR dw))
  bG)
  (av (aR (jY (az bQ (hr.mono (by decide)) aS rfl rfl (ab (bO bg de (ae 0) aE (λ_ _=>rfl)) (ab (ah 1 rfl) ak))) (kX (az bQ (hr.mono (by decide)) aS rfl rfl (ab (bO bg de (ae 0) aE (λ_ _=>rfl)) (ab (ah 1 rfl) ak)))) (λ_ _=>rfl)))))⟩,λds h=>aJ ds h⟩
abbrev lW:Stmt:=top 6
def xC:aG ["thing","many"] ["thing","many"] (ar lW):=⟨rfl,rfl,rfl,by decide +kernel,rfl,by decide +kernel,by decide +kernel⟩
def wm {aW:List D->FR}(F:iw K mg "is_line" lW ["thing","many"] f fd)(B:iY mg)(bQ:bP P w K mg base ca "is_below" ["thing","bound"] 2 aW):bP P w K mg base ca "is_line" ["thing","many"] 3 (aZ 2 2 (lR aW)):=
 ⟨⟨f,fd,F.mg,F.F.kp,F.b,aO (N:=["thing","many"]) (k:=2) F.F xC λcdv A outer s H G E hr=>
  (ao (cf (rC.t (kM (dE (cy rfl (kq "tuple" (by decide) rfl rfl B.isinstance rfl B.tuple (by decide +kernel) (ae 0)))) (gY (bw (fA hr.units) fG (aL bt dU rfl B.len OE (ae 0)) (ae 1) (bh _))) (λ_ _=>rfl)))
  (av (aR dw))
  bG)
  (av (aR (jY (aL (fL rfl) fD rfl B.all (by decide +kernel) (bM (NB:=["one","many"]) (own:=1) (ixs:=[1]) [1] rfl (b7 (by kernel_rfl)) (λ_ _=>rfl) (jv rfl (ae 0)) (λH0 G0 par br bx C ex s3 H3 pn=>(cC (i:=0) (show (["one","many"]:List Str).Nodup by decide +kernel))) (λH0 G0 par br bx C ex s3 H3 pn hB1=>cG) (λH0 G0 par br bx C ex s3 H3 pn hB1=>(az bQ (hr.mono (by decide)) lF rfl rfl (ab (ah 0 (hB1 0 (by decide))) (ab (ah 1 (hB1 1 (by decide))) ak)))))) (kX (jB (eR hr.units) fG (A4 rfl rfl rfl B.len rfl B.set (ae 0)) (ae 1) (bh _))) (λ_ _=>rfl)))))⟩,λds h=>aJ ds h⟩
abbrev fJ:Stmt:=top 7
def rO:aG ["many"] ["many"] (ar fJ):=⟨rfl,rfl,rfl,by decide +kernel,rfl,by decide +kernel,by decide +kernel⟩
def qW (F:iw K mg "every_pair" fJ ["many"] f fd)(B:iY mg):bP P w K mg base ca "every_pair" ["many"] 1 (aZ 1 1 (h9)):=
 ⟨⟨f,fd,F.mg,F.F.kp,F.b,aO (N:=["many"]) (k:=0) F.F rO λcdv A outer s H G E hr=>
  (av (kh (bM (NB:=["number","many"]) (own:=1) (ixs:=[0]) [] rfl (b7 (by kernel_rfl)) (λ_ _=>rfl) (sH rfl B.range (bC lE mi (ae 0) (ae 0))) (λH0 G0 par br bx C ex s3 H3 pn=>(cC (i:=0) (show (["number","many"]:List Str).Nodup by decide +kernel))) (λH0 G0 par br bx C ex s3 H3 pn hB1=>cG) (λH0 G0 par br bx C ex s3 H3 pn hB1=>(kg (ab (bC mQ Fh (ae 0) (ae 1)) (ab (bC mn tj (ae 0) (ae 1)) ak)))))))⟩,λds h=>aJ ds h⟩
abbrev kF:Stmt:=top 16
def vY:aG ["pairs"] ["pairs"] (ar kF):=⟨rfl,rfl,rfl,by decide +kernel,rfl,by decide +kernel,by decide +kernel⟩
def uA (F:iw K mg "has_ring" kF ["pairs"] f fd)(B:iY mg):bP P w K mg base ca "has_ring" ["pairs"] 1 (aZ 1 1 (qX)):=
 ⟨⟨f,fd,F.mg,F.F.kp,F.b,aO (N:=["pairs"]) (k:=0) F.F vY λcdv A outer s H G E hr=>
  (av (aR (aL (xh rfl) fD rfl B.any (by decide +kernel) (bM (NB:=["a","b"]) (own:=2) (ixs:=[]) [] rfl (b7 (by kernel_rfl)) (λ_ _=>rfl) (jv rfl (ae 0)) (λH0 G0 par br bx C ex s3 H3 pn=>(fW (i:=0) (j:=1) (show (["a","b"]:List Str).Nodup by decide +kernel))) (λH0 G0 par br bx C ex s3 H3 pn hB1=>cG) (λH0 G0 par br bx C ex s3 H3 pn hB1=>(jB (eR hr.units) fG (ae 0) (ae 1) (bh _)))))))⟩,λds h=>aJ ds h⟩
abbrev jU:Stmt:=top 14
def kW:aG ["thing","many","pairs"] ["thing"] (ar jU):=⟨rfl,rfl,rfl,by decide +kernel,rfl,by decide +kernel,by decide +kernel⟩
def um {iC iF jO gu:List D->FR}(F:iw K mg "is_order" jU ["thing"] f fd)(B:iY mg)(oB:bP P w K mg base ca "is_many" ["thing"] 2 iC)(nV:bP P w K mg base ca "is_pair" ["thing","many"] 3 iF)(pQ:bP P w K mg base ca "closed" ["many","pairs"] 3 jO)(mB:bP P w K mg base ca "has_ring" ["pairs"] 1 gu):bP P w K mg base ca "is_order" ["thing"] 4 (aZ 3 1 (iR iC iF jO gu)):=
 ⟨⟨f,fd,F.mg,F.F.kp,F.b,aO (N:=["thing","many","pairs"]) (k:=3) F.F kW λcdv A outer s H G E hr=>
  (ao (cf (rC.t (kM (dE (cy rfl (kq "tuple" (by decide) rfl rfl B.isinstance rfl B.tuple (by decide +kernel) (ae 0)))) (gY (bw (fA hr.units) fG (aL bt dU rfl B.len OE (ae 0)) aE (bh _))) (λ_ _=>rfl)))
  (av (aR dw))
  bG)
  (ao (bA (i:=1) (bO bg de (ae 0) aE (λ_ _=>rfl)) kW.nd)
  (ao (bA (i:=2) (bO bg de (ae 0) aE (λ_ _=>rfl)) kW.nd)
  (ao (cf (rC.t (kM (dE (cy rfl (az oB (hr.mono (by decide)) aS rfl rfl (ab (ah 1 rfl) ak)))) (gY (dE (cy rfl (kq "tuple" (by decide) rfl rfl B.isinstance rfl B.tuple (by decide +kernel) (ae 2))))) (λ_ _=>rfl)))
  (av (aR dw))
  bG)
  (ao (cf (dE (cy rfl (aL (fL rfl) fD rfl B.all (by decide +kernel) (bM (NB:=["pair","many"]) (own:=1) (ixs:=[1]) [1] rfl (b7 (by kernel_rfl)) (λ_ _=>rfl) (jv rfl (ae 2)) (λH0 G0 par br bx C ex s3 H3 pn=>(cC (i:=0) (show (["pair","many"]:List Str).Nodup by decide +kernel))) (λH0 G0 par br bx C ex s3 H3 pn hB1=>cG) (λH0 G0 par br bx C ex s3 H3 pn hB1=>(az nV (hr.mono (by decide)) lF rfl rfl (ab (ah 0 (hB1 0 (by decide))) (ab (ah 1 (hB1 1 (by decide))) ak))))))))
  (av (aR dw))
  bG)
  (av (aR (jY (jB (eR hr.units) fG (ae 2) (az pQ (hr.mono (by decide)) aS rfl rfl (ab (ah 1 rfl) (ab (ah 2 rfl) ak))) (bh _)) (kX (yj (az mB (hr.mono (by decide)) aS rfl rfl (ab (ah 2 rfl) ak)))) (λ_ _=>rfl)))))))))⟩,λds h=>aJ ds h⟩
abbrev ip:Stmt:=top 17
def rJ:aG ["thing"] ["thing"] (ar ip):=⟨rfl,rfl,rfl,by decide +kernel,rfl,by decide +kernel,by decide +kernel⟩
def qw {gx:List D->FR}(F:iw K mg "need_order" ip ["thing"] f fd)(B:iY mg)(mz:bP P w K mg base ca "is_order" ["thing"] 4 gx):bP P w K mg base ca "need_order" ["thing"] 5 (aZ 1 1 (hJ gx)):=
 ⟨⟨f,fd,F.mg,F.F.kp,F.b,aO (N:=["thing"]) (k:=4) F.F rJ λcdv A outer s H G E hr=>
  (av (cf (dE (cy rfl (az mz (hr.mono (by decide)) aS rfl rfl (ab (ah 0 rfl) ak))))
  (av yG)
  bG))⟩,λds h=>aJ ds h⟩
abbrev b4:Stmt:=top 18
def jQ:aG ["order","thing"] ["order","thing"] (ar b4):=⟨rfl,rfl,rfl,by decide +kernel,rfl,by decide +kernel,by decide +kernel⟩
def js {ax aW:List D->FR}(F:iw K mg "need_order_and_thing" b4 ["order","thing"] f fd)(B:iY mg)(aM:bP P w K mg base ca "need_order" ["thing"] 5 ax)(bQ:bP P w K mg base ca "is_below" ["thing","bound"] 2 aW):bP P w K mg base ca "need_order_and_thing" ["order","thing"] 6 (aZ 2 2 (bN ax aW)):=
 ⟨⟨f,fd,F.mg,F.F.kp,F.b,aO (N:=["order","thing"]) (k:=5) F.F jQ λcdv A outer s H G E hr=>
  (ao (gA (az aM (hr.mono (by decide)) aS rfl rfl (ab (ah 0 rfl) ak)))
  (av (cf (dE (cy rfl (az bQ (hr.mono (by decide)) aS rfl rfl (ab (ah 1 rfl) (ab (bO bg de (ae 0) aE (λ_ _=>rfl)) ak)))))
  (av yG)
  bG)))⟩,λds h=>aJ ds h⟩
abbrev pO:Stmt:=top 19
def Cd:aG ["order","thing"] ["order","thing"] (ar pO):=⟨rfl,rfl,rfl,by decide +kernel,rfl,by decide +kernel,by decide +kernel⟩
def BA {aB:List D->FR}(F:iw K mg "ahead" pO ["order","thing"] f fd)(B:iY mg)(aQ:bP P w K mg base ca "need_order_and_thing" ["order","thing"] 6 aB):bP P w K mg base ca "ahead" ["order","thing"] 7 (aZ 2 2 (pH aB)):=
 ⟨⟨f,fd,F.mg,F.F.kp,F.b,aO (N:=["order","thing"]) (k:=6) F.F Cd λcdv A outer s H G E hr=>
  (ao (gA (az aQ (hr.mono (by decide)) aS rfl rfl (ab (ah 0 rfl) (ab (ah 1 rfl) ak))))
  (av (kh (bM (NB:=["a","b","thing"]) (own:=2) (ixs:=[1]) [] rfl (b7 (by kernel_rfl)) (λ_ _=>rfl) (jv rfl (bO bg de (ae 0) aE (λ_ _=>rfl))) (λH0 G0 par br bx C ex s3 H3 pn=>(fW (i:=0) (j:=1) (show (["a","b","thing"]:List Str).Nodup by decide +kernel))) (λH0 G0 par br bx C ex s3 H3 pn hB1=>(jr (bw (eR hr.units) fG (ae 1) (ae 2) (bh _)))) (λH0 G0 par br bx C ex s3 H3 pn hB1=>(ah 0 (hB1 0 (by decide))))))))⟩,λds h=>aJ ds h⟩
abbrev nK:Stmt:=top 20
def By:aG ["order","thing"] ["order","thing"] (ar nK):=⟨rfl,rfl,rfl,by decide +kernel,rfl,by decide +kernel,by decide +kernel⟩
def ym {aB:List D->FR}(F:iw K mg "behind" nK ["order","thing"] f fd)(B:iY mg)(aQ:bP P w K mg base ca "need_order_and_thing" ["order","thing"] 6 aB):bP P w K mg base ca "behind" ["order","thing"] 7 (aZ 2 2 (nq aB)):=
 ⟨⟨f,fd,F.mg,F.F.kp,F.b,aO (N:=["order","thing"]) (k:=6) F.F By λcdv A outer s H G E hr=>
  (ao (gA (az aQ (hr.mono (by decide)) aS rfl rfl (ab (ah 0 rfl) (ab (ah 1 rfl) ak))))
  (av (kh (bM (NB:=["a","b","thing"]) (own:=2) (ixs:=[1]) [] rfl (b7 (by kernel_rfl)) (λ_ _=>rfl) (jv rfl (bO bg de (ae 0) aE (λ_ _=>rfl))) (λH0 G0 par br bx C ex s3 H3 pn=>(fW (i:=0) (j:=1) (show (["a","b","thing"]:List Str).Nodup by decide +kernel))) (λH0 G0 par br bx C ex s3 H3 pn hB1=>(jr (bw (eR hr.units) fG (ae 0) (ae 2) (bh _)))) (λH0 G0 par br bx C ex s3 H3 pn hB1=>(ah 1 (hB1 1 (by decide))))))))⟩,λds h=>aJ ds h⟩
abbrev pE:Stmt:=top 21
def wa:aG ["order","thing","met"] ["order","thing"] (ar pE):=⟨rfl,rfl,rfl,by decide +kernel,rfl,by decide +kernel,by decide +kernel⟩
def AG {aB lY jR:List D->FR}(F:iw K mg "apart" pE ["order","thing"] f fd)(B:iY mg)(aQ:bP P w K mg base ca "need_order_and_thing" ["order","thing"] 6 aB)(uZ:bP P w K mg base ca "ahead" ["order","thing"] 7 lY)(p7:bP P w K mg base ca "behind" ["order","thing"] 7 jR):bP P w K mg base ca "apart" ["order","thing"] 8 (aZ 3 2 (pB aB lY jR)):=
 ⟨⟨f,fd,F.mg,F.F.kp,F.b,aO (N:=["order","thing","met"]) (k:=7) F.F wa λcdv A outer s H G E hr=>
  (ao (gA (az aQ (hr.mono (by decide)) aS rfl rfl (ab (ah 0 rfl) (ab (ah 1 rfl) ak))))
  (ao (bA (i:=2) (SE.wv (bC fH lH (bC fH lH (az uZ (hr.mono (by decide)) aS rfl rfl (ab (ah 0 rfl) (ab (ah 1 rfl) ak))) (bZ (ab (ah 1 rfl) ak))) (az p7 (hr.mono (by decide)) aS rfl rfl (ab (ah 0 rfl) (ab (ah 1 rfl) ak))))) wa.nd)
  (av (kh (bM (NB:=["other","met"]) (own:=1) (ixs:=[2]) [] rfl (b7 (by kernel_rfl)) (λ_ _=>rfl) (sH rfl B.range (bO bg de (ae 0) aE (λ_ _=>rfl))) (λH0 G0 par br bx C ex s3 H3 pn=>(cC (i:=0) (show (["other","met"]:List Str).Nodup by decide +kernel))) (λH0 G0 par br bx C ex s3 H3 pn hB1=>(jr (bw (jH hr.u1) Br (ae 0) (ae 1) (by with_unfolding_all rfl)))) (λH0 G0 par br bx C ex s3 H3 pn hB1=>(ah 0 (hB1 0 (by decide)))))))))⟩,λds h=>aJ ds h⟩
abbrev jo:Stmt:=top 22
def ud:aG ["order","a","b"] ["order","a","b"] (ar jo):=⟨rfl,rfl,rfl,by decide +kernel,rfl,by decide +kernel,by decide +kernel⟩
def rY (F:iw K mg "are_apart" jo ["order","a","b"] f fd)(B:iY mg):bP P w K mg base ca "are_apart" ["order","a","b"] 1 (aZ 3 3 (oP)):=
 ⟨⟨f,fd,F.mg,F.F.kp,F.b,aO (N:=["order","a","b"]) (k:=0) F.F ud λcdv A outer s H G E hr=>
  (av (aR (jY (jB (fA hr.units) fG (ae 1) (ae 2) (bh _)) (jY (jB (jH hr.u1) Br (kg (ab (ah 1 rfl) (ab (ah 2 rfl) ak))) (bO bg de (ae 0) aE (λ_ _=>rfl)) (by with_unfolding_all rfl)) (kX (jB (jH hr.u1) Br (kg (ab (ah 2 rfl) (ab (ah 1 rfl) ak))) (bO bg de (ae 0) aE (λ_ _=>rfl)) (by with_unfolding_all rfl))) (λ_ _=>rfl)) (λ_ _=>rfl))))⟩,λds h=>aJ ds h⟩
abbrev nA:Stmt:=top 23
def AV:aG ["order"] ["order"] (ar nA):=⟨rfl,rfl,rfl,by decide +kernel,rfl,by decide +kernel,by decide +kernel⟩
def yP {ax:List D->FR}(F:iw K mg "turned" nA ["order"] f fd)(B:iY mg)(aM:bP P w K mg base ca "need_order" ["thing"] 5 ax):bP P w K mg base ca "turned" ["order"] 6 (aZ 1 1 (qy ax)):=
 ⟨⟨f,fd,F.mg,F.F.kp,F.b,aO (N:=["order"]) (k:=5) F.F AV λcdv A outer s H G E hr=>
  (ao (gA (az aM (hr.mono (by decide)) aS rfl rfl (ab (ah 0 rfl) ak)))
  (av (aR (kg (ab (bO bg de (ae 0) aE (λ_ _=>rfl)) (ab (lh eG pM rfl B.tuple (by decide +kernel) (aL xk Ex rfl B.sorted (by decide +kernel) (bM (NB:=["a","b"]) (own:=2) (ixs:=[]) [] rfl (b7 (by kernel_rfl)) (λ_ _=>rfl) (jv rfl (bO bg de (ae 0) aE (λ_ _=>rfl))) (λH0 G0 par br bx C ex s3 H3 pn=>(fW (i:=0) (j:=1) (show (["a","b"]:List Str).Nodup by decide +kernel))) (λH0 G0 par br bx C ex s3 H3 pn hB1=>cG) (λH0 G0 par br bx C ex s3 H3 pn hB1=>(kg (ab (ah 1 (hB1 1 (by decide))) (ab (ah 0 (hB1 0 (by decide))) ak))))))) ak))))))⟩,λds h=>aJ ds h⟩
abbrev ng:Stmt:=top 26
def nS:aG ["row","found","place","thing"] ["row"] (ar ng):=⟨rfl,rfl,rfl,by decide +kernel,rfl,by decide +kernel,by decide +kernel⟩
def yO (F:iw K mg "places" ng ["row"] f fd)(B:iY mg):bP P w K mg base ca "places" ["row"] 1 (aZ 4 1 (nF)):=
 ⟨⟨f,fd,F.mg,F.F.kp,F.b,aO (N:=["row","found","place","thing"]) (k:=0) F.F nS λcdv A outer s H G E hr=>
  (ao (iA (i:=1) (Ca (bZ (ab aE ak)) (aL bt dU rfl B.len OE (ae 0))) nS.nd)
  (ao (dz PassesOwn.leaving rfl (Iy rfl rfl B.enumerate (ah 0 rfl)) (fW (i:=2) (j:=3) nS.nd)
  (av (y7 1 (λ_=>rfl) (ah 2 rfl) (ae 3))))
  (av (km 1))))⟩,λds h=>aJ ds h⟩
abbrev gE:Stmt:=top 25
def lG:aG ["thing","order","place"] ["thing","order"] (ar gE):=⟨rfl,rfl,rfl,by decide +kernel,rfl,by decide +kernel,by decide +kernel⟩
def pd {iD dC:List D->FR}(F:iw K mg "keeps_order" gE ["thing","order"] f fd)(B:iY mg)(oz:bP P w K mg base ca "is_line" ["thing","many"] 3 iD)(jI:bP P w K mg base ca "places" ["row"] 1 dC):bP P w K mg base ca "keeps_order" ["thing","order"] 4 (aZ 3 2 (gz iD dC)):=
 ⟨⟨f,fd,F.mg,F.F.kp,F.b,aO (N:=["thing","order","place"]) (k:=3) F.F lG λcdv A outer s H G E hr=>
  (ao (cf (dE (cy rfl (az oz (hr.mono (by decide)) aS rfl rfl (ab (ah 0 rfl) (ab (bO bg de (ae 1) aE (λ_ _=>rfl)) ak)))))
  (av (aR dw))
  bG)
  (ao (bA (i:=2) (az jI (hr.mono (by decide)) aS rfl rfl (ab (ah 0 rfl) ak)) lG.nd)
  (av (aR (aL (fL rfl) fD rfl B.all (by decide +kernel) (bM (NB:=["a","b","place"]) (own:=2) (ixs:=[2]) [] rfl (b7 (by kernel_rfl)) (λ_ _=>rfl) (jv rfl (bO bg de (ae 1) aE (λ_ _=>rfl))) (λH0 G0 par br bx C ex s3 H3 pn=>(fW (i:=0) (j:=1) (show (["a","b","place"]:List Str).Nodup by decide +kernel))) (λH0 G0 par br bx C ex s3 H3 pn hB1=>cG) (λH0 G0 par br bx C ex s3 H3 pn hB1=>(jB wD Cv (bO bg de (ae 2) (ae 0) (λ_ _=>rfl)) (bO bg de (ae 2) (ae 1) (λ_ _=>rfl)) (bh _)))))))))⟩,λds h=>aJ ds h⟩
abbrev iq:Stmt:=top 27
def rN:aG ["placed","thing"] ["placed","thing"] (ar iq):=⟨rfl,rfl,rfl,by decide +kernel,rfl,by decide +kernel,by decide +kernel⟩
def p5 (F:iw K mg "with_thing" iq ["placed","thing"] f fd)(B:iY mg):bP P w K mg base ca "with_thing" ["placed","thing"] 1 (aZ 2 2 (iy)):=
 ⟨⟨f,fd,F.mg,F.F.kp,F.b,aO (N:=["placed","thing"]) (k:=0) F.F rN λcdv A outer s H G E hr=>
  (av (aR (bC KW Nh (ae 0) (bC Ic KC aE (ae 1)))))⟩,λds h=>aJ ds h⟩
abbrev gC:Stmt:=top 28
def iK:aG ["order","masks","a","b"] ["order"] (ar gC):=⟨rfl,rfl,rfl,by decide +kernel,rfl,by decide +kernel,by decide +kernel⟩
def o7 {a7:List D->FR}(F:iw K mg "masks_ahead" gC ["order"] f fd)(B:iY mg)(b6:bP P w K mg base ca "with_thing" ["placed","thing"] 1 a7):bP P w K mg base ca "masks_ahead" ["order"] 2 (aZ 4 1 (gF a7)):=
 ⟨⟨f,fd,F.mg,F.F.kp,F.b,aO (N:=["order","masks","a","b"]) (k:=1) F.F iK λcdv A outer s H G E hr=>
  (ao (iA (i:=1) (Ca (bZ (ab aE ak)) (bO bg de (ae 0) aE (λ_ _=>rfl))) iK.nd)
  (ao (dz PassesOwn.leaving rfl (wL rfl (bO bg de (ae 0) aE (λ_ _=>rfl))) (fW (i:=2) (j:=3) iK.nd)
  (av (y7 1 (λ_=>rfl) (az b6 (hr.mono (by decide)) aS rfl rfl (ab (bO bg de (ae 1) (ae 3) (λ_ _=>rfl)) (ab (ah 2 rfl) ak))) (ae 3))))
  (av (km 1))))⟩,λds h=>aJ ds h⟩
abbrev gM:Stmt:=top 29
def iX:aG ["masks","placed","free","thing","mask"] ["masks","placed"] (ar gM):=⟨rfl,rfl,rfl,by decide +kernel,rfl,by decide +kernel,by decide +kernel⟩
def oY {a7:List D->FR}(F:iw K mg "free_things" gM ["masks","placed"] f fd)(B:iY mg)(b6:bP P w K mg base ca "with_thing" ["placed","thing"] 1 a7):bP P w K mg base ca "free_things" ["masks","placed"] 2 (aZ 5 2 (gH a7)):=
 ⟨⟨f,fd,F.mg,F.F.kp,F.b,aO (N:=["masks","placed","free","thing","mask"]) (k:=1) F.F iX λcdv A outer s H G E hr=>
  (ao (iA (i:=2) (bZ ak) iX.nd)
  (ao (dz PassesOwn.leaving rfl (wG rfl rfl B.enumerate (ah 0 rfl)) (fW (i:=3) (j:=4) iX.nd)
  (av (cf (rC.t (Hy (bw (fA hr.units) fG (az b6 (hr.mono (by decide)) aS rfl rfl (ab (ah 1 rfl) (ab (ah 3 rfl) ak))) (ae 1) (bh _)) (FX (bw (eR hr.units) fG (bC HG K5 (ae 1) (ae 4)) (ae 4) (bh _))) (λ_ _=>rfl)))
  (av (lU 2 (λ_=>rfl) (ah 3 rfl)))
  bG)))
  (av (km 2))))⟩,λds h=>aJ ds h⟩
abbrev jh:Stmt:=top 30
def dQ:aG ["masks","late","row","placed","free","early"] ["masks","late"] (ar jh):=⟨rfl,rfl,rfl,by decide +kernel,rfl,by decide +kernel,by decide +kernel⟩
def rF {c7 a7:List D->FR}(F:iw K mg "row_along" jh ["masks","late"] f fd)(B:iY mg)(jt:bP P w K mg base ca "free_things" ["masks","placed"] 2 c7)(b6:bP P w K mg base ca "with_thing" ["placed","thing"] 1 a7):bP P w K mg base ca "row_along" ["masks","late"] 3 (aZ 6 2 (jd c7 a7)):=
 ⟨⟨f,fd,F.mg,F.F.kp,F.b,aO (N:=["masks","late","row","placed","free","early"]) (k:=2) F.F dQ λcdv A outer s H G E hr=>
  (ao (iA (i:=2) (bZ ak) dQ.nd)
  (ao (bA (i:=3) aE dQ.nd)
  (ao (nh 1000 PassesOwn.leaving (bw wD Cv (aL bt dU rfl B.len OE (ae 2)) (aL bt dU rfl B.len OE (ae 0)) (bh _))
  (ao (bA (i:=4) (az jt (hr.mono (by decide)) aS rfl rfl (ab (ah 0 rfl) (ab (ah 3 rfl) ak))) dQ.nd)
  (ao (yX (i:=5) (NB:=["thing","late"]) (own:=1) (ixs:=[1]) [] rfl (b7 (by kernel_rfl)) (λ_ _=>rfl) (jv rfl (ae 4)) (λH0 G0 par br bx C ex s3 H3 pn=>(cC (i:=0) (show (["thing","late"]:List Str).Nodup by decide +kernel))) (λH0 G0 par br bx C ex s3 H3 pn hB1=>(jr (bw (jH hr.u1) Br (ae 0) (ae 1) (by with_unfolding_all rfl)))) (λH0 G0 par br bx C ex s3 H3 pn hB1=>(ah 0 (hB1 0 (by decide)))) dQ.nd)
  (ao (lU 2 (λ_=>rfl) (bO bg de (bC fH lH (ae 5) (ae 4)) aE (λ_ _=>rfl)))
  (av (bA (i:=3) (az b6 (hr.mono (by decide)) aS rfl rfl (ab (ah 3 rfl) (ab (bO bg de (ae 2) (DS yQ Cb aE) (λ_ _=>rfl)) ak))) dQ.nd))))))
  (av (aR (lh eG pM rfl B.tuple (by decide +kernel) (ae 2)))))))⟩,λds h=>aJ ds h⟩
abbrev fE:Stmt:=top 32
def o6:aG ["tables","a","b"] ["tables","a","b"] (ar fE):=⟨rfl,rfl,rfl,by decide +kernel,rfl,by decide +kernel,by decide +kernel⟩
def oy (F:iw K mg "stands_ahead" fE ["tables","a","b"] f fd)(B:iY mg):bP P w K mg base ca "stands_ahead" ["tables","a","b"] 1 (aZ 3 3 (fj)):=
 ⟨⟨f,fd,F.mg,F.F.kp,F.b,aO (N:=["tables","a","b"]) (k:=0) F.F o6 λcdv A outer s H G E hr=>
  (av (aR (aL (fL rfl) fD rfl B.all (by decide +kernel) (bM (NB:=["place","a","b"]) (own:=1) (ixs:=[1,2]) [] rfl (b7 (by kernel_rfl)) (λ_ _=>rfl) (jv rfl (ae 0)) (λH0 G0 par br bx C ex s3 H3 pn=>(cC (i:=0) (show (["place","a","b"]:List Str).Nodup by decide +kernel))) (λH0 G0 par br bx C ex s3 H3 pn hB1=>cG) (λH0 G0 par br bx C ex s3 H3 pn hB1=>(jB wD Cv (bO bg de (ae 0) (ae 1) (λ_ _=>rfl)) (bO bg de (ae 0) (ae 2) (λ_ _=>rfl)) (bh _)))))))⟩,λds h=>aJ ds h⟩
abbrev fy:Stmt:=top 31
def kS:aG ["many","rows","tables"] ["many","rows"] (ar fy):=⟨rfl,rfl,rfl,by decide +kernel,rfl,by decide +kernel,by decide +kernel⟩
def nZ {dC cP cH:List D->FR}(F:iw K mg "shared_pairs" fy ["many","rows"] f fd)(B:iY mg)(jI:bP P w K mg base ca "places" ["row"] 1 dC)(j4:bP P w K mg base ca "every_pair" ["many"] 1 cP)(iW:bP P w K mg base ca "stands_ahead" ["tables","a","b"] 1 cH):bP P w K mg base ca "shared_pairs" ["many","rows"] 2 (aZ 3 2 (fI dC cP cH)):=
 ⟨⟨f,fd,F.mg,F.F.kp,F.b,aO (N:=["many","rows","tables"]) (k:=1) F.F kS λcdv A outer s H G E hr=>
  (ao (bA (i:=2) (SE.wv (bM (NB:=["row"]) (own:=1) (ixs:=[]) [] rfl (b7 (by kernel_rfl)) (λ_ _=>rfl) (jv rfl (ae 1)) (λH0 G0 par br bx C ex s3 H3 pn=>(cC (i:=0) (show (["row"]:List Str).Nodup by decide +kernel))) (λH0 G0 par br bx C ex s3 H3 pn hB1=>cG) (λH0 G0 par br bx C ex s3 H3 pn hB1=>(az jI (hr.mono (by decide)) lF rfl rfl (ab (ah 0 (hB1 0 (by decide))) ak))))) kS.nd)
  (av (aR (lh eG pM rfl B.tuple (by decide +kernel) (bM (NB:=["a","b","tables"]) (own:=2) (ixs:=[2]) [2] rfl (b7 (by kernel_rfl)) (λ_ _=>rfl) (jv rfl (az j4 (hr.mono (by decide)) aS rfl rfl (ab (ah 0 rfl) ak))) (λH0 G0 par br bx C ex s3 H3 pn=>(fW (i:=0) (j:=1) (show (["a","b","tables"]:List Str).Nodup by decide +kernel))) (λH0 G0 par br bx C ex s3 H3 pn hB2=>(jr (cy rfl (az iW (hr.mono (by decide)) lF rfl rfl (ab (ah 2 (hB2 2 (by decide))) (ab (ah 0 (hB2 0 (by decide))) (ab (ah 1 (hB2 1 (by decide))) ak))))))) (λH0 G0 par br bx C ex s3 H3 pn hB2=>(kg (ab (ah 0 (hB2 0 (by decide))) (ab (ah 1 (hB2 1 (by decide))) ak)))))))))⟩,λds h=>aJ ds h⟩
abbrev j8:Stmt:=top 33
def wR:aG ["thing","order"] ["thing","order"] (ar j8):=⟨rfl,rfl,rfl,by decide +kernel,rfl,by decide +kernel,by decide +kernel⟩
def t8 {c8:List D->FR}(F:iw K mg "are_rows" j8 ["thing","order"] f fd)(B:iY mg)(jy:bP P w K mg base ca "keeps_order" ["thing","order"] 4 c8):bP P w K mg base ca "are_rows" ["thing","order"] 5 (aZ 2 2 (j3 c8)):=
 ⟨⟨f,fd,F.mg,F.F.kp,F.b,aO (N:=["thing","order"]) (k:=4) F.F wR λcdv A outer s H G E hr=>
  (ao (cf (rC.t (kM (dE (cy rfl (kq "list" (by decide) rfl rfl B.isinstance rfl B.list (by decide +kernel) (ae 0)))) (gY (bw (eR hr.units) fG (aL bt dU rfl B.len OE (ae 0)) aE (bh _))) (λ_ _=>rfl)))
  (av (aR dw))
  bG)
  (av (aR (aL (fL rfl) fD rfl B.all (by decide +kernel) (bM (NB:=["row","order"]) (own:=1) (ixs:=[1]) [1] rfl (b7 (by kernel_rfl)) (λ_ _=>rfl) (jv rfl (ae 0)) (λH0 G0 par br bx C ex s3 H3 pn=>(cC (i:=0) (show (["row","order"]:List Str).Nodup by decide +kernel))) (λH0 G0 par br bx C ex s3 H3 pn hB1=>cG) (λH0 G0 par br bx C ex s3 H3 pn hB1=>(az jy (hr.mono (by decide)) lF rfl rfl (ab (ah 0 (hB1 0 (by decide))) (ab (ah 1 (hB1 1 (by decide))) ak)))))))))⟩,λds h=>aJ ds h⟩
abbrev uh:Stmt:=top 34
def FU:aG ["thing","order"] ["thing","order"] (ar uh):=⟨rfl,rfl,rfl,by decide +kernel,rfl,by decide +kernel,by decide +kernel⟩
def BZ {ax fT cL:List D->FR}(F:iw K mg "tell" uh ["thing","order"] f fd)(B:iY mg)(aM:bP P w K mg base ca "need_order" ["thing"] 5 ax)(mF:bP P w K mg base ca "are_rows" ["thing","order"] 5 fT)(iU:bP P w K mg base ca "shared_pairs" ["many","rows"] 2 cL):bP P w K mg base ca "tell" ["thing","order"] 6 (aZ 2 2 (xy ax fT cL)):=
 ⟨⟨f,fd,F.mg,F.F.kp,F.b,aO (N:=["thing","order"]) (k:=5) F.F FU λcdv A outer s H G E hr=>
  (ao (gA (az aM (hr.mono (by decide)) aS rfl rfl (ab (ah 1 rfl) ak)))
  (av (aR (jY (az mF (hr.mono (by decide)) aS rfl rfl (ab (ah 0 rfl) (ab (ah 1 rfl) ak))) (kX (jB (eR hr.units) fG (az iU (hr.mono (by decide)) aS rfl rfl (ab (bO bg de (ae 1) aE (λ_ _=>rfl)) (ab (ah 0 rfl) ak))) (bO bg de (ae 1) aE (λ_ _=>rfl)) (bh _))) (λ_ _=>rfl)))))⟩,λds h=>aJ ds h⟩
abbrev eN:Stmt:=top 37
def dR:aG ["order","groups","grown","group","thing"] ["order","groups"] (ar eN):=⟨rfl,rfl,rfl,by decide +kernel,rfl,by decide +kernel,by decide +kernel⟩
def nG {bX:List D->FR}(F:iw K mg "longer_groups" eN ["order","groups"] f fd)(B:iY mg)(e8:bP P w K mg base ca "are_apart" ["order","a","b"] 1 bX):bP P w K mg base ca "longer_groups" ["order","groups"] 2 (aZ 5 2 (eM bX)):=
 ⟨⟨f,fd,F.mg,F.F.kp,F.b,aO (N:=["order","groups","grown","group","thing"]) (k:=1) F.F dR λcdv A outer s H G E hr=>
  (ao (iA (i:=2) (bZ ak) dR.nd)
  (ao (dz PassesOwn.leaving rfl (wL rfl (ah 1 rfl)) (cC (i:=3) dR.nd)
  (av (dz PassesOwn.leaving rfl (Hl rfl B.range (bC iS iH (bO bg de (ae 3) (DS yQ Cb aE) (λ_ _=>rfl)) aE) (bO bg de (ae 0) aE (λ_ _=>rfl))) (cC (i:=4) dR.nd)
  (av (cf (cy rfl (aL (fL rfl) fD rfl B.all (by decide +kernel) (bM (NB:=["one","order","thing"]) (own:=1) (ixs:=[0,4]) [0,4] rfl (b7 (by kernel_rfl)) (λ_ _=>rfl) (jv rfl (ae 3)) (λH0 G0 par br bx C ex s3 H3 pn=>(cC (i:=0) (show (["one","order","thing"]:List Str).Nodup by decide +kernel))) (λH0 G0 par br bx C ex s3 H3 pn hB1=>cG) (λH0 G0 par br bx C ex s3 H3 pn hB1=>(az e8 (hr.mono (by decide)) lF rfl rfl (ab (ah 1 (hB1 1 (by decide))) (ab (ah 0 (hB1 0 (by decide))) (ab (ah 2 (hB1 2 (by decide))) ak))))))))
  (av (lU 2 (λ_=>rfl) (SE.wv (bC fH lH (ae 3) (bZ (ab (ah 4 rfl) ak))))))
  bG)))))
  (av (km 2))))⟩,λds h=>aJ ds h⟩
abbrev hZ:Stmt:=top 36
def dZ:aG ["order","groups","longer"] ["order"] (ar hZ):=⟨rfl,rfl,rfl,by decide +kernel,rfl,by decide +kernel,by decide +kernel⟩
def ql {ax cj:List D->FR}(F:iw K mg "most_apart" hZ ["order"] f fd)(B:iY mg)(aM:bP P w K mg base ca "need_order" ["thing"] 5 ax)(g9:bP P w K mg base ca "longer_groups" ["order","groups"] 2 cj):bP P w K mg base ca "most_apart" ["order"] 6 (aZ 3 1 (ig ax cj)):=
 ⟨⟨f,fd,F.mg,F.F.kp,F.b,aO (N:=["order","groups","longer"]) (k:=5) F.F dZ λcdv A outer s H G E hr=>
  (ao (gA (az aM (hr.mono (by decide)) aS rfl rfl (ab (ah 0 rfl) ak)))
  (ao (yX (i:=1) (NB:=["thing"]) (own:=1) (ixs:=[]) [] rfl (b7 (by kernel_rfl)) (λ_ _=>rfl) (sH rfl B.range (bO bg de (ae 0) aE (λ_ _=>rfl))) (λH0 G0 par br bx C ex s3 H3 pn=>(cC (i:=0) (show (["thing"]:List Str).Nodup by decide +kernel))) (λH0 G0 par br bx C ex s3 H3 pn hB1=>cG) (λH0 G0 par br bx C ex s3 H3 pn hB1=>(SE.wv (bZ (ab (ah 0 (hB1 0 (by decide))) ak)))) dZ.nd)
  (ao (bA (i:=2) (ah 1 rfl) dZ.nd)
  (ao (nh 1000 PassesOwn.leaving (cy rfl (ae 2))
  (ao (bA (i:=1) (ah 2 rfl) dZ.nd)
  (av (bA (i:=2) (az g9 (hr.mono (by decide)) aS rfl rfl (ab (ah 0 rfl) (ab (ah 1 rfl) ak))) dZ.nd))))
  (av (aR (bO bg de (ae 1) aE (λ_ _=>rfl))))))))⟩,λds h=>aJ ds h⟩
abbrev u6:Stmt:=top 40
def Gx:aG ["order","chain","thing"] ["order","chain","thing"] (ar u6):=⟨rfl,rfl,rfl,by decide +kernel,rfl,by decide +kernel,by decide +kernel⟩
def B8 {bX:List D->FR}(F:iw K mg "fits" u6 ["order","chain","thing"] f fd)(B:iY mg)(e8:bP P w K mg base ca "are_apart" ["order","a","b"] 1 bX):bP P w K mg base ca "fits" ["order","chain","thing"] 2 (aZ 3 3 (tP bX)):=
 ⟨⟨f,fd,F.mg,F.F.kp,F.b,aO (N:=["order","chain","thing"]) (k:=1) F.F Gx λcdv A outer s H G E hr=>
  (av (aR (yj (aL (xh rfl) fD rfl B.any (by decide +kernel) (bM (NB:=["one","order","thing"]) (own:=1) (ixs:=[0,2]) [0,2] rfl (b7 (by kernel_rfl)) (λ_ _=>rfl) (jv rfl (ae 1)) (λH0 G0 par br bx C ex s3 H3 pn=>(cC (i:=0) (show (["one","order","thing"]:List Str).Nodup by decide +kernel))) (λH0 G0 par br bx C ex s3 H3 pn hB1=>cG) (λH0 G0 par br bx C ex s3 H3 pn hB1=>(az e8 (hr.mono (by decide)) lF rfl rfl (ab (ah 1 (hB1 1 (by decide))) (ab (ah 0 (hB1 0 (by decide))) (ab (ah 2 (hB1 2 (by decide))) ak))))))))))⟩,λds h=>aJ ds h⟩
abbrev gL:Stmt:=top 39
def iI:aG ["order","most","made","thing","at","chain","found"] ["order","most","made","thing"] (ar gL):=⟨rfl,rfl,rfl,by decide +kernel,rfl,by decide +kernel,by decide +kernel⟩
def oW {ba iO:List D->FR}(hk:2<=k)(F:iw K mg "chains_from" gL ["order","most","made","thing"] f fd)(B:iY mg)(c4:bP P w K mg base ca "chains_from" ["order","most","made","thing"] k ba)(ox:bP P w K mg base ca "fits" ["order","chain","thing"] 2 iO):bP P w K mg base ca "chains_from" ["order","most","made","thing"] (k + 1) (aZ 7 4 (cZ ba iO)):=
 ⟨⟨f,fd,F.mg,F.F.kp,F.b,aO (N:=["order","most","made","thing","at","chain","found"]) (k:=k) F.F iI λcdv A outer s H G E hr=>
  (ao (cf (bw (eR hr.units) fG (ae 3) (bO bg de (ae 0) aE (λ_ _=>rfl)) (bh _))
  (av (km 2))
  bG)
  (ao (dz PassesOwn.leaving rfl (wG rfl rfl B.enumerate (ah 2 rfl)) (fW (i:=4) (j:=5) iI.nd)
  (av (cf (cy rfl (az ox (hr.mono (by omega)) aS rfl rfl (ab (ah 0 rfl) (ab (ah 5 rfl) (ab (ah 3 rfl) ak)))))
  (ao (bA (i:=6) (az c4 (hr.mono (by omega)) aS rfl rfl (ab (ah 0 rfl) (ab (ah 1 rfl) (ab (SE.wv (bC fH lH (bC fH lH (qe rfl (ae 2) tK (uN (ae 4))) (bZ (ab (SE.wv (bC fH lH (ae 5) (bZ (ab (ah 3 rfl) ak)))) ak))) (qe rfl (ae 2) (uN (bC iS iH (ae 4) aE)) tK))) (ab (bC iS iH (ae 3) aE) ak))))) iI.nd)
  (av (cf (Fu (ae 6))
  (av (km 6))
  bG)))
  bG)))
  (ao (cf (bw (eR hr.units) fG (aL bt dU rfl B.len OE (ae 2)) (ae 1) (bh _))
  (av (aR Jo))
  bG)
  (av (aR (az c4 (hr.mono (by omega)) aS rfl rfl (ab (ah 0 rfl) (ab (ah 1 rfl) (ab (SE.wv (bC fH lH (ae 2) (bZ (ab (SE.wv (bZ (ab (ah 3 rfl) ak))) ak)))) (ab (bC iS iH (ae 3) aE) ak))))))))))⟩,λds h=>aJ ds h⟩
abbrev m6:Stmt:=top 38
def A0:aG ["order"] ["order"] (ar m6):=⟨rfl,rfl,rfl,by decide +kernel,rfl,by decide +kernel,by decide +kernel⟩
def xE {ax ba bB:List D->FR}(F:iw K mg "chains" m6 ["order"] f fd)(B:iY mg)(aM:bP P w K mg base ca "need_order" ["thing"] 5 ax)(c4:bP P w K mg base ca "chains_from" ["order","most","made","thing"] 42 ba)(cS:bP P w K mg base ca "most_apart" ["order"] 6 bB):bP P w K mg base ca "chains" ["order"] 43 (aZ 1 1 (m8 ax ba bB)):=
 ⟨⟨f,fd,F.mg,F.F.kp,F.b,aO (N:=["order"]) (k:=42) F.F A0 λcdv A outer s H G E hr=>
  (ao (gA (az aM (hr.mono (by decide)) aS rfl rfl (ab (ah 0 rfl) ak)))
  (av (aR (az c4 (hr.mono (by decide)) aS rfl rfl (ab (ah 0 rfl) (ab (aL bt dU rfl B.len OE (az cS (hr.mono (by decide)) aS rfl rfl (ab (ah 0 rfl) ak))) (ab (SE.wv (bZ ak)) (ab aE ak))))))))⟩,λds h=>aJ ds h⟩
abbrev kj:Stmt:=top 41
def vM:aG ["thing","order"] ["thing","order"] (ar kj):=⟨rfl,rfl,rfl,by decide +kernel,rfl,by decide +kernel,by decide +kernel⟩
def tY {aW iO:List D->FR}(F:iw K mg "is_chain" kj ["thing","order"] f fd)(B:iY mg)(bQ:bP P w K mg base ca "is_below" ["thing","bound"] 2 aW)(ox:bP P w K mg base ca "fits" ["order","chain","thing"] 2 iO):bP P w K mg base ca "is_chain" ["thing","order"] 3 (aZ 2 2 (kI aW iO)):=
 ⟨⟨f,fd,F.mg,F.F.kp,F.b,aO (N:=["thing","order"]) (k:=2) F.F vM λcdv A outer s H G E hr=>
  (ao (cf (rC.t (kM (dE (cy rfl (kq "list" (by decide) rfl rfl B.isinstance rfl B.list (by decide +kernel) (ae 0)))) (gY (bw (eR hr.units) fG (aL bt dU rfl B.len OE (ae 0)) aE (bh _))) (λ_ _=>rfl)))
  (av (aR dw))
  bG)
  (ao (cf (rC.t (kM (dE (cy rfl (aL (fL rfl) fD rfl B.all (by decide +kernel) (bM (NB:=["one","order"]) (own:=1) (ixs:=[1]) [] rfl (b7 (by kernel_rfl)) (λ_ _=>rfl) (jv rfl (ae 0)) (λH0 G0 par br bx C ex s3 H3 pn=>(cC (i:=0) (show (["one","order"]:List Str).Nodup by decide +kernel))) (λH0 G0 par br bx C ex s3 H3 pn hB1=>cG) (λH0 G0 par br bx C ex s3 H3 pn hB1=>(az bQ (hr.mono (by decide)) lF rfl rfl (ab (ah 0 (hB1 0 (by decide))) (ab (bO bg de (ae 1) aE (λ_ _=>rfl)) ak)))))))) (gY (bw (fA hr.units) fG (ae 0) (vg rfl rfl rfl B.sorted rfl B.set (ae 0)) (bh _))) (λ_ _=>rfl)))
  (av (aR dw))
  bG)
  (av (aR (aL (fL rfl) fD rfl B.all (by decide +kernel) (bM (NB:=["one","order","thing"]) (own:=1) (ixs:=[1,0]) [0,1] rfl (b7 (by kernel_rfl)) (λ_ _=>rfl) (jv rfl (ae 0)) (λH0 G0 par br bx C ex s3 H3 pn=>(cC (i:=0) (show (["one","order","thing"]:List Str).Nodup by decide +kernel))) (λH0 G0 par br bx C ex s3 H3 pn hB2=>cG) (λH0 G0 par br bx C ex s3 H3 pn hB2=>(az ox (hr.mono (by decide)) lF rfl rfl (ab (ah 1 (hB2 1 (by decide))) (ab (ah 2 (hB2 2 (by decide))) (ab (ah 0 (hB2 0 (by decide))) ak)))))))))))⟩,λds h=>aJ ds h⟩
abbrev iB:Stmt:=top 42
def jA:aG ["thing","order","held","chain"] ["thing","order"] (ar iB):=⟨rfl,rfl,rfl,by decide +kernel,rfl,by decide +kernel,by decide +kernel⟩
def qG {ax b9:List D->FR}(F:iw K mg "are_chains" iB ["thing","order"] f fd)(B:iY mg)(aM:bP P w K mg base ca "need_order" ["thing"] 5 ax)(gn:bP P w K mg base ca "is_chain" ["thing","order"] 3 b9):bP P w K mg base ca "are_chains" ["thing","order"] 6 (aZ 4 2 (ik ax b9)):=
 ⟨⟨f,fd,F.mg,F.F.kp,F.b,aO (N:=["thing","order","held","chain"]) (k:=5) F.F jA λcdv A outer s H G E hr=>
  (ao (gA (az aM (hr.mono (by decide)) aS rfl rfl (ab (ah 1 rfl) ak)))
  (ao (cf (rC.t (kM (dE (cy rfl (kq "list" (by decide) rfl rfl B.isinstance rfl B.list (by decide +kernel) (ae 0)))) (gY (dE (cy rfl (aL (fL rfl) fD rfl B.all (by decide +kernel) (bM (NB:=["chain","order"]) (own:=1) (ixs:=[1]) [1] rfl (b7 (by kernel_rfl)) (λ_ _=>rfl) (jv rfl (ae 0)) (λH0 G0 par br bx C ex s3 H3 pn=>(cC (i:=0) (show (["chain","order"]:List Str).Nodup by decide +kernel))) (λH0 G0 par br bx C ex s3 H3 pn hB1=>cG) (λH0 G0 par br bx C ex s3 H3 pn hB1=>(az gn (hr.mono (by decide)) lF rfl rfl (ab (ah 0 (hB1 0 (by decide))) (ab (ah 1 (hB1 1 (by decide))) ak))))))))) (λ_ _=>rfl)))
  (av (aR dw))
  bG)
  (ao (iA (i:=2) (bZ ak) jA.nd)
  (ao (dz PassesOwn.leaving rfl (wL rfl (ah 0 rfl)) (cC (i:=3) jA.nd)
  (av (AM 2 (λ_=>rfl) (ae 3))))
  (av (aR (jB (eR hr.units) fG (aL yw ET rfl B.sorted (by decide +kernel) (ae 2)) (qC rfl rfl B.list rfl B.range (bO bg de (ae 1) aE (λ_ _=>rfl))) (bh _))))))))⟩,λds h=>aJ ds h⟩
abbrev ji:Stmt:=top 43
def t5:aG ["order","chain"] ["order","chain"] (ar ji):=⟨rfl,rfl,rfl,by decide +kernel,rfl,by decide +kernel,by decide +kernel⟩
def rQ {ax b9 eV c5:List D->FR}(F:iw K mg "chain_row" ji ["order","chain"] f fd)(B:iY mg)(aM:bP P w K mg base ca "need_order" ["thing"] 5 ax)(gn:bP P w K mg base ca "is_chain" ["thing","order"] 3 b9)(lA:bP P w K mg base ca "row_along" ["masks","late"] 3 eV)(jC:bP P w K mg base ca "masks_ahead" ["order"] 2 c5):bP P w K mg base ca "chain_row" ["order","chain"] 6 (aZ 2 2 (jn ax b9 eV c5)):=
 ⟨⟨f,fd,F.mg,F.F.kp,F.b,aO (N:=["order","chain"]) (k:=5) F.F t5 λcdv A outer s H G E hr=>
  (ao (gA (az aM (hr.mono (by decide)) aS rfl rfl (ab (ah 0 rfl) ak)))
  (ao (cf (dE (cy rfl (az gn (hr.mono (by decide)) aS rfl rfl (ab (ah 1 rfl) (ab (ah 0 rfl) ak)))))
  (av yG)
  bG)
  (av (aR (az lA (hr.mono (by decide)) aS rfl rfl (ab (az jC (hr.mono (by decide)) aS rfl rfl (ab (ah 0 rfl) ak)) (ab (ah 1 rfl) ak)))))))⟩,λds h=>aJ ds h⟩
abbrev hX:Stmt:=top 44
def sf:aG ["order"] ["order"] (ar hX):=⟨rfl,rfl,rfl,by decide +kernel,rfl,by decide +kernel,by decide +kernel⟩
def qE {cW bV:List D->FR}(F:iw K mg "chain_rows" hX ["order"] f fd)(B:iY mg)(iQ:bP P w K mg base ca "chains" ["order"] 43 cW)(eZ:bP P w K mg base ca "chain_row" ["order","chain"] 6 bV):bP P w K mg base ca "chain_rows" ["order"] 44 (aZ 1 1 (hV cW bV)):=
 ⟨⟨f,fd,F.mg,F.F.kp,F.b,aO (N:=["order"]) (k:=43) F.F sf λcdv A outer s H G E hr=>
  (av (kh (bM (NB:=["chain","order"]) (own:=1) (ixs:=[0]) [0] rfl (b7 (by kernel_rfl)) (λ_ _=>rfl) (jv rfl (az iQ (hr.mono (by decide)) aS rfl rfl (ab (ah 0 rfl) ak))) (λH0 G0 par br bx C ex s3 H3 pn=>(cC (i:=0) (show (["chain","order"]:List Str).Nodup by decide +kernel))) (λH0 G0 par br bx C ex s3 H3 pn hB1=>cG) (λH0 G0 par br bx C ex s3 H3 pn hB1=>(az eZ (hr.mono (by decide)) lF rfl rfl (ab (ah 1 (hB1 1 (by decide))) (ab (ah 0 (hB1 0 (by decide))) ak)))))))⟩,λds h=>aJ ds h⟩
abbrev jb:Stmt:=top 46
def uc:aG ["script","k"] ["script","k"] (ar jb):=⟨rfl,rfl,rfl,by decide +kernel,rfl,by decide +kernel,by decide +kernel⟩
def rZ (F:iw K mg "_law_cell" jb ["script","k"] f fd)(B:iY mg):bP P w K mg base ca "_law_cell" ["script","k"] 1 (aZ 2 2 (gS)):=
 ⟨⟨f,fd,F.mg,F.F.kp,F.b,aO (N:=["script","k"]) (k:=0) F.F uc λcdv A outer s H G E hr=>
  (ao (cf (bw wD Cv (ae 1) (aL bt dU rfl B.len OE (ae 0)) (bh _))
  (av (aR (bO bg de (ae 0) (ae 1) (λ_ _=>rfl))))
  bG)
  (av (aR aE)))⟩,λds h=>aJ ds h⟩
abbrev fU:Stmt:=top 47
def jc:aG ["cell","k","some","stir"] ["cell","k"] (ar fU):=⟨rfl,rfl,rfl,by decide +kernel,rfl,by decide +kernel,by decide +kernel⟩
def uI:∃(es:List Expr) (p1 p2 p3:Pos),dg fU=.Assign [.Name "some" p1] (.List es p2) p3 :: (dg fU).drop 1/\constsOf es=some [48271,69621,16807,39373,30269,40014,40692,50021,61687,71993,83869,95561,30307]:=⟨_,_,_,_,rfl,by kernel_rfl⟩
def ur (F:iw K mg "_law_mix" fU ["cell","k"] f fd)(B:iY mg):bP P w K mg base ca "_law_mix" ["cell","k"] 1 (aZ 4 2 (jW)):=by
 obtain⟨es,p1,p2,p3,hb,hes⟩:=uI
 refine⟨⟨f,fd,F.mg,F.F.kp,F.b,aO (N:=["cell","k","some","stir"]) (k:=0) F.F jc λcdv A outer s H G E hr=>?_⟩,λds h=>aJ ds h⟩
 rw[hb]
 exact (ao (bA (i:=2) (SE.wv (bZ (sP hes))) jc.nd) (ao (bA (i:=3) (bC iS iH (bC iS iH (bC lE mi (bC iS iH (bC mn tj (ae 0) aE) aE) (bO bg de (ae 2) (bC mn tj (ae 1) aE) (λ_ _=>rfl))) (bC lE mi aE (ae 1))) (bC lE mi aE (bC mQ Fh (ae 1) aE))) jc.nd)
  (ao (bA (i:=3) (bC mn tj (ae 3) aE) jc.nd)
  (av (aR (bC mQ Fh (bC mn tj (bC iS iH (bC lE mi (ae 3) (ae 3)) (bC lE mi aE (ae 1))) aE) aE))))))
abbrev kJ:Stmt:=top 48
def gW:aG ["script","k","cell","number","j"] ["script","k"] (ar kJ):=⟨rfl,rfl,rfl,by decide +kernel,rfl,by decide +kernel,by decide +kernel⟩
def uS {eS gj:List D->FR}(F:iw K mg "_law_box" kJ ["script","k"] f fd)(B:iY mg)(lC:bP P w K mg base ca "_law_cell" ["script","k"] 1 eS)(mE:bP P w K mg base ca "_law_mix" ["cell","k"] 1 gj):bP P w K mg base ca "_law_box" ["script","k"] 2 (aZ 5 2 (kH eS gj)):=
 ⟨⟨f,fd,F.mg,F.F.kp,F.b,aO (N:=["script","k","cell","number","j"]) (k:=1) F.F gW λcdv A outer s H G E hr=>
  (ao (bA (i:=2) (az lC (hr.mono (by decide)) aS rfl rfl (ab (ah 0 rfl) (ab (ah 1 rfl) ak))) gW.nd)
  (ao (cf (bw (eR hr.units) fG (bC mn tj (ae 2) aE) aE (bh _))
  (av (kh (bZ (ab (bC mQ Fh (aL CV Ko rfl B.abs (by decide +kernel) (ae 2)) aE) ak))))
  bG)
  (ao (bA (i:=3) aE gW.nd)
  (ao (dz PassesOwn.leaving rfl (sH rfl B.range aE) (cC (i:=4) gW.nd)
  (av (bA (i:=3) (bC iS iH (bC lE mi (ae 3) aE) (az mE (hr.mono (by decide)) aS rfl rfl (ab (ah 2 rfl) (ab (ah 4 rfl) ak)))) gW.nd)))
  (av (kh (bZ (ab (ah 3 rfl) ak))))))))⟩,λds h=>aJ ds h⟩
abbrev jm:Stmt:=top 49
def mT:aG ["box","many","left","digit"] ["box","many"] (ar jm):=⟨rfl,rfl,rfl,by decide +kernel,rfl,by decide +kernel,by decide +kernel⟩
def se (F:iw K mg "_law_take" jm ["box","many"] f fd)(B:iY mg):uC P w K mg base "_law_take" ["box","many"] 1 fk:=by
 refine⟨⟨f,fd,F.mg,F.F.kp,F.b,?_⟩,λds β h=>?_⟩
 ·refine F.F.BP mT (λvs H Q E h=>?_) (λcdv A outer s H vs Q E hr h=>?_)
  ·obtain⟨b,rest,G,ds,β,rfl,hb,gb,sG,hl,r,_⟩:=h
   rw[Ol,r.len,hl];rfl
  ·obtain⟨b,rest,G,ds,β,rfl,hb,gb,sG,hl,r,h⟩:=h
   obtain⟨m,rfl,h0,h1⟩:=zK (λz=>by rw[z] at h;exact h)
   rw[uB h0 h1] at h
   have kk:∀v G' H',i8 (some b) H H'->H' b=some (.lst [.int (β / m)])->ay G G'->ay G' H'->(∀c,Mx H c->G c=none->G' c=none)->FV K H G' H' false (.int (β % m)) v->Q v H':=h
   cases r with
   |cons r1 r2=>
    cases r1
    cases r2
    refine⟨_,iL (qZ (i0 vf rfl B.divmod (by decide +kernel) (aN (l5 hW (pv 0) uo (λ_ _=>rfl)) (aN (pv 1) bu))) (Gv (i:=2) (j:=3) mT.nd rfl rfl rfl rfl rfl))
     (iL (qZ (pv 2) (uF (pv 0) uo set_list)) (jl (oA (pv 3)))),?_⟩
    refine⟨_,rfl,b,_,0,.int β,rfl,rfl,.inl (.inl hb),rfl,_,rfl,β,m,rfl,⟨h0,h1⟩,λp hp=>⟨p,_,rfl,.inl (.inl aA),rfl,_,_,rfl,_,_,rfl,rfl,?_⟩⟩
    have hbp:b≠p:=aK hb hp
    exact⟨_,rfl,_,rfl,b,[.int β],0,0,rfl,rfl,by rw[aC hbp];exact hb,rfl,_,rfl,Ct hb sG hp kk gb⟩
 ·obtain⟨m,rfl,_⟩:=zK h
  rfl
abbrev eJ:Stmt:=top 50
def gq:aG ["box","some","left","found"] ["box","some"] (ar eJ):=⟨rfl,rfl,rfl,by decide +kernel,rfl,by decide +kernel,by decide +kernel⟩
def nz {bE:List D->Int->FB}(F:iw K mg "_law_mixed_up" eJ ["box","some"] f fd)(B:iY mg)(cN:uC P w K mg base "_law_take" ["box","many"] 1 bE):uC P w K mg base "_law_mixed_up" ["box","some"] 2 (xm 4 1 (eH bE)):=
 ⟨⟨f,fd,F.mg,F.F.kp,F.b,vK (ca:=λ_=>0) (N:=["box","some","left","found"]) (k:=1) F.F gq (by decide) λcdv A outer s H G b E hr=>
  (ao (iA (i:=2) (lh uK Hv rfl B.list (by decide +kernel) (ae 1)) gq.nd)
  (ao (iA (i:=3) (bZ ak) gq.nd)
  (ao (nh 1000 PassesOwn.leaving (bw (fA hr.units) fG (ae 2) (bZ ak) (bh _))
  (av (BB 3 2 (λ_=>rfl) (vF 0 cN (hr.mono (by decide)) aS rfl rfl (ab (aL bt dU rfl B.len OE (ae 2)) ak)))))
  (av (km 3)))))⟩,λds β h=>vG ds β h⟩
abbrev gJ:Stmt:=top 51
def bW:aG ["pairs","found","size","more","a","b"] ["pairs"] (ar gJ):=⟨rfl,rfl,rfl,by decide +kernel,rfl,by decide +kernel,by decide +kernel⟩
def oX (F:iw K mg "_law_closed" gJ ["pairs"] f fd)(B:iY mg):bP P w K mg base ca "_law_closed" ["pairs"] 1 (aZ 6 1 (gG)):=
 ⟨⟨f,fd,F.mg,F.F.kp,F.b,aO (N:=["pairs","found","size","more","a","b"]) (k:=0) F.F bW λcdv A outer s H G E hr=>
  (ao (bA (i:=1) (SE.wv (pU rfl hr.units rfl rfl B.sorted rfl B.set (ae 0))) bW.nd)
  (ao (bA (i:=2) (DS yQ Cb aE) bW.nd)
  (ao (nh 1000 PassesOwn.leaving (bw (fA hr.units) fG (ae 2) (aL bt dU rfl B.len OE (ae 1)) (bh _))
  (ao (bA (i:=2) (aL bt dU rfl B.len OE (ae 1)) bW.nd)
  (ao (bA (i:=3) (SE.wv (bZ ak)) bW.nd)
  (ao (dz PassesOwn.leaving rfl (wL rfl (ah 1 rfl)) (fW (i:=4) (j:=5) bW.nd)
  (av (bA (i:=3) (SE.wv (bC fH lH (ae 3) (bM (NB:=["c","d","b","a"]) (own:=2) (ixs:=[5,4]) [4] rfl (b7 (by kernel_rfl)) (λ_ _=>rfl) (jv rfl (ae 1)) (λH0 G0 par br bx C ex s3 H3 pn=>(fW (i:=0) (j:=1) (show (["c","d","b","a"]:List Str).Nodup by decide +kernel))) (λH0 G0 par br bx C ex s3 H3 pn hB1=>(jr (bw (eR hr.units) fG (ae 0) (ae 2) (bh _)))) (λH0 G0 par br bx C ex s3 H3 pn hB1=>(kg (ab (ah 3 (hB1 3 (by decide))) (ab (ah 1 (hB1 1 (by decide))) ak))))))) bW.nd)))
  (av (bA (i:=1) (SE.wv (pU rfl hr.units rfl rfl B.sorted rfl B.set (bC fH lH (ae 1) (ae 3)))) bW.nd))))))
  (av (aR (lh eG pM rfl B.tuple (by decide +kernel) (ae 1)))))))⟩,λds h=>aJ ds h⟩
abbrev ie:Stmt:=top 52
def cA:aG ["box","most","many","names","thin","pairs","i","j"] ["box","most"] (ar ie):=⟨rfl,rfl,rfl,by decide +kernel,rfl,by decide +kernel,by decide +kernel⟩
def rb {c9:List D->FR}{bE cq:List D->Int->FB}(F:iw K mg "_law_order" ie ["box","most"] f fd)(B:iY mg)(jD:bP P w K mg base ca "_law_closed" ["pairs"] 1 c9)(cN:uC P w K mg base "_law_take" ["box","many"] 1 bE)(gZ:uC P w K mg base "_law_mixed_up" ["box","some"] 2 cq):uC P w K mg base "_law_order" ["box","most"] 3 (xm 8 1 (iz c9 bE cq)):=
 ⟨⟨f,fd,F.mg,F.F.kp,F.b,vK (ca:=ca) (N:=["box","most","many","names","thin","pairs","i","j"]) (k:=2) F.F cA (by decide) λcdv A outer s H G b E hr=>
  (ao (bA (i:=2) (bC iS iH aE (vF 0 cN (hr.mono (by decide)) aS rfl rfl (ab (ah 1 rfl) ak))) cA.nd)
  (ao (bA (i:=3) (vF 0 gZ (hr.mono (by decide)) aS rfl rfl (ab (SE.wv (qC rfl rfl B.list rfl B.range (ae 2))) ak)) cA.nd)
  (ao (bA (i:=4) (bO bg de (bZ (ab aE (ab aE (ab aE (ab aE ak))))) (vF 0 cN (hr.mono (by decide)) aS rfl rfl (ab aE ak)) (λ_ _=>rfl)) cA.nd)
  (ao (iA (i:=5) (bZ ak) cA.nd)
  (ao (dz PassesOwn.leaving rfl (sH rfl B.range (ae 2)) (cC (i:=6) cA.nd)
  (av (dz PassesOwn.leaving rfl (Hl rfl B.range (bC iS iH (ae 6) aE) (ae 2)) (cC (i:=7) cA.nd)
  (av (cf (bw (eR hr.units) fG (vF 0 cN (hr.mono (by decide)) aS rfl rfl (ab (ah 4 rfl) ak)) aE (bh _))
  (av (lU 5 (λ_=>rfl) (kg (ab (bO bg de (ae 3) (ae 6) (λ_ _=>rfl)) (ab (bO bg de (ae 3) (ae 7) (λ_ _=>rfl)) ak)))))
  bG)))))
  (av (aR (kg (ab (ah 2 rfl) (ab (az jD (hr.mono (by decide)) aS rfl rfl (ab (ah 5 rfl) ak)) ak))))))))))⟩,λds β h=>vG ds β h⟩
abbrev dr:Stmt:=top 53
def eO:aG ["row","order","chain","thing","other"] ["row","order","chain"] (ar dr):=⟨rfl,rfl,rfl,by decide +kernel,rfl,by decide +kernel,by decide +kernel⟩
def l0 {fu:List D->FR}(F:iw K mg "_law_behind_all" dr ["row","order","chain"] f fd)(B:iY mg)(lO:bP P w K mg base ca "apart" ["order","thing"] 8 fu):bP P w K mg base ca "_law_behind_all" ["row","order","chain"] 9 (aZ 5 3 (dm fu)):=
 ⟨⟨f,fd,F.mg,F.F.kp,F.b,aO (N:=["row","order","chain","thing","other"]) (k:=8) F.F eO λcdv A outer s H G E hr=>
  (ao (dz PassesOwn.leaving rfl (wL rfl (ah 2 rfl)) (cC (i:=3) eO.nd)
  (av (dz PassesOwn.leaving rfl (wL rfl (az lO (hr.mono (by decide)) aS rfl rfl (ab (ah 1 rfl) (ab (ah 3 rfl) ak)))) (cC (i:=4) eO.nd)
  (av (cf (bw Ku MZ (wb rfl (ae 0) (ae 4)) (wb rfl (ae 0) (ae 3)) (bh _))
  (av (aR dw))
  bG)))))
  (av (aR dw)))⟩,λds h=>aJ ds h⟩
abbrev me:Stmt:=top 54
def jz:aG ["script","k","order","some","most","rows","chain","row","thing","others"] ["script"] (ar me):=⟨rfl,rfl,rfl,by decide +kernel,rfl,by decide +kernel,by decide +kernel⟩
def Gq {gi cW bB dJ cT oD bH bV fu iN:List D->FR}{dM:List D->Int->FB}(F:iw K mg "law" me ["script"] f fd)(B:iY mg)(mj:bP P w K mg base ca "_law_box" ["script","k"] 2 gi)(iQ:bP P w K mg base ca "chains" ["order"] 43 cW)(cS:bP P w K mg base ca "most_apart" ["order"] 6 bB)(ke:bP P w K mg base ca "chain_rows" ["order"] 44 dJ)(ic:bP P w K mg base ca "are_chains" ["thing","order"] 6 cT)(yK:bP P w K mg base ca "tell" ["thing","order"] 6 oD)(dk:bP P w K mg base ca "_law_behind_all" ["row","order","chain"] 9 bH)(eZ:bP P w K mg base ca "chain_row" ["order","chain"] 6 bV)(lO:bP P w K mg base ca "apart" ["order","thing"] 8 fu)(nC:bP P w K mg base ca "turned" ["order"] 6 iN)(kK:uC P w K mg base "_law_order" ["box","most"] 3 dM):fV P w K mg base (r0 P w) 45 f fd ["script"] (Dd K ca 1 (aZ 10 1 (zu gi cW bB dJ cT oD bH bV fu iN dM))):=
 aO (N:=["script","k","order","some","most","rows","chain","row","thing","others"]) (k:=44) F.F jz λcdv A outer s H G E hr=>
  (ao (dz PassesOwn.leaving rfl (sH rfl B.range (wH (Bc rfl) ID rfl B.max (by decide +kernel) aE (wH (A5 rfl) Ji rfl B.min (by decide +kernel) (aL bt dU rfl B.len OE (ae 0)) aE))) (cC (i:=1) jz.nd)
  (ao (bA (i:=2) (Kr kK (hr.mono (by decide)) aS rfl rfl (D1 mj (hr.mono (by decide)) aS rfl rfl (ab (ah 0 rfl) (ab (ah 1 rfl) ak)))) jz.nd)
  (ao (bA (i:=3) (az iQ (hr.mono (by decide)) aS rfl rfl (ab (ah 2 rfl) ak)) jz.nd)
  (ao (bA (i:=4) (az cS (hr.mono (by decide)) aS rfl rfl (ab (ah 2 rfl) ak)) jz.nd)
  (ao (bA (i:=5) (az ke (hr.mono (by decide)) aS rfl rfl (ab (ah 2 rfl) ak)) jz.nd)
  (ao (cf (rC.t (kM (bw (fA hr.units) fG (aL bt dU rfl B.len OE (ae 3)) (aL bt dU rfl B.len OE (ae 4)) (bh _)) (gY (bw oh qR (az ic (hr.mono (by decide)) aS rfl rfl (ab (ah 3 rfl) (ab (ah 2 rfl) ak))) dw (bh _))) (λ_ _=>rfl)))
  (av (aR dw))
  bG)
  (ao (cf (rC.t (kM (bw oh qR (az yK (hr.mono (by decide)) aS rfl rfl (ab (ah 5 rfl) (ab (ah 2 rfl) ak))) dw (bh _)) (gY (bw (fA hr.units) fG (aL bt dU rfl B.len OE (ae 5)) (aL bt dU rfl B.len OE (ae 3)) (bh _))) (λ_ _=>rfl)))
  (av (aR dw))
  bG)
  (ao (dz PassesOwn.leaving rfl (IK rfl B.zip (ah 3 rfl) (ah 5 rfl)) (fW (i:=6) (j:=7) jz.nd)
  (av (cf (rC.t (kM (dE (cy rfl (az dk (hr.mono (by decide)) aS rfl rfl (ab (ah 7 rfl) (ab (ah 2 rfl) (ab (ah 6 rfl) ak)))))) (gY (dE (cy rfl (az dk (hr.mono (by decide)) aS rfl rfl (ab (az eZ (hr.mono (by decide)) aS rfl rfl (ab (ah 2 rfl) (ab (ah 6 rfl) ak))) (ab (ah 2 rfl) (ab (ah 6 rfl) ak))))))) (λ_ _=>rfl)))
  (av (aR dw))
  bG)))
  (ao (dz PassesOwn.leaving rfl (wL rfl (ah 3 rfl)) (cC (i:=6) jz.nd)
  (av (cf (bw (fA hr.units) fG (aL bt dU rfl B.len OE (bM (NB:=["thing","most"]) (own:=1) (ixs:=[4]) [] rfl (b7 (by kernel_rfl)) (λ_ _=>rfl) (jv rfl (ae 6)) (λH0 G0 par br bx C ex s3 H3 pn=>(cC (i:=0) (show (["thing","most"]:List Str).Nodup by decide +kernel))) (λH0 G0 par br bx C ex s3 H3 pn hB1=>(jr (bw (JD hr.u1) Br (ae 0) (ae 1) (by with_unfolding_all rfl)))) (λH0 G0 par br bx C ex s3 H3 pn hB1=>(ah 0 (hB1 0 (by decide)))))) aE (bh _))
  (av (aR dw))
  bG)))
  (ao (dz PassesOwn.leaving rfl (wL rfl (ah 4 rfl)) (cC (i:=8) jz.nd)
  (ao (bA (i:=9) (SE.wv (bC fH lH (az lO (hr.mono (by decide)) aS rfl rfl (ab (ah 2 rfl) (ab (ah 8 rfl) ak))) (bZ (ab (ah 8 rfl) ak)))) jz.nd)
  (av (cf (bw (fA hr.units) fG (bM (NB:=["other","others"]) (own:=1) (ixs:=[9]) [] rfl (b7 (by kernel_rfl)) (λ_ _=>rfl) (jv rfl (ae 4)) (λH0 G0 par br bx C ex s3 H3 pn=>(cC (i:=0) (show (["other","others"]:List Str).Nodup by decide +kernel))) (λH0 G0 par br bx C ex s3 H3 pn hB2=>(jr (bw (jH hr.u1) Br (ae 0) (ae 1) (by with_unfolding_all rfl)))) (λH0 G0 par br bx C ex s3 H3 pn hB2=>(ah 0 (hB2 0 (by decide))))) (bZ ak) (bh _))
  (av (aR dw))
  bG))))
  (ao (cf (bw oh qR (az ic (hr.mono (by decide)) aS rfl rfl (ab (SE.wv (qe rfl (ae 3) (uN aE) tK)) (ab (ah 2 rfl) ak))) dw (bh _))
  (av (aR dw))
  bG)
  (av (cf (rC.t (kM (bw (fA hr.units) fG (aL bt dU rfl B.len OE (az iQ (hr.mono (by decide)) aS rfl rfl (ab (az nC (hr.mono (by decide)) aS rfl rfl (ab (ah 2 rfl) ak)) ak))) (aL bt dU rfl B.len OE (ae 3)) (bh _)) (gY (bw (fA hr.units) fG (az cS (hr.mono (by decide)) aS rfl rfl (ab (az nC (hr.mono (by decide)) aS rfl rfl (ab (ah 2 rfl) ak)) ak)) (ae 4) (bh _))) (λ_ _=>rfl)))
  (av (aR dw))
  bG)))))))))))))
  (av (aR dw)))
end
end RQ
namespace RM
open PySem L2
theorem IP (h:t vs β=.ok a β)(h':u vs β=.ok b β):Iv t u vs β=.ok (a && b) β:=by
 rw[HP,h];dsimp only[R.bnd]
 cases a with
 |true=>rw[N1 rfl,h'];rfl
 |false=>rfl
def cQ (h:t vs β=.ok a β):rk t vs β=.ok (!a) β:=by rw[xK,h];rfl
def IU (n:Nat):(du n).Pairwise (· < ·):=by
 unfold du
 rw[OP]
 exact QC.imp λ{a b} h=>by omega
def HV {fa:VF D}{vs:List Nv}{β:Int}{l:List Pr}{f:Pr->Bool}(h:fa vs β=.ok (.list (l.map λq=>PyData.bool (f q))) β):f1 fa (bK λbs=>bs.all id) vs β=.ok (.bool (l.all f)) β:=by
 refine cK h ?_
 simp only[bK]
 rw[eY]
 simp[Q5]
def tupI (r:List Int):D:=.tuple (r.map int)
def zO (h:fa vs β=.ok (tupI r) β)(h':fb vs β=.ok (.int k) β)(hk:k∈r):xO fa fb vs β=.ok (.int (r.idxOf k:Nat)) β:=by
 unfold xO
 rw[h]
 dsimp only[R.bnd]
 rw[N1 (by rfl),h']
 dsimp only[R.bnd,FE,tupI]
 rw[c6]
 dsimp only
 rw[N1 hk];rfl
def FT {r:List Int}{a b:Int}(ha:a∈r)(hb:b∈r)(h:r.idxOf a=r.idxOf b):a=b:=by
 have h1:=Q8 (Pp.mpr ha)
 have h2:=Q8 (Pp.mpr hb)
 rw[<-h1,<-h2]
 congr 1
def zq {α:Type}{fa:VF D}{vs:List Nv}{β:Int}{l:List α}{f:α->Bool}(h:fa vs β=.ok (.list (l.map λq=>PyData.bool (f q))) β):f1 fa (bK λbs=>bs.all id) vs β=.ok (.bool (l.all f)) β:=by
 refine cK h ?_
 simp only[bK]
 rw[eY]
 simp[Q5]
def AB (h1:1<=N)(h8:N<=8)(w:OM.Wn N l)(nd:l.Nodup)(irr:∀a,(a,a)∉l):nU (.list (l.map aU))=some (.list ((OM.cw 8 (OM.Mem l)).map aU)):=by
 simp only[nU,fR]
 rw[N1 ⟨C8 h8 w,nd,Aa h1 h8 w nd irr⟩]
def FG:D->Bool
 | .tuple _=>true
 |_=>false
theorem Fi {d:D}(h:FG d=true):∃ds,d=.tuple ds:=by
 cases d with
 |tuple ds=>exact⟨ds,rfl⟩
 |_=>cases h
def DV {d:D}(h:dq d=false):iM "tuple" d=some (.bool (FG d)):=by
 unfold iM;rw[h];cases d <;> rfl
section
variable {fa fb:VF D}{vs:List Nv}{β:Int}
def Kn {d:D}(ha:fa vs β=.ok d β)(h:dq d=false):kU (f1 fa (iM "tuple")) vs β=.ok (FG d) β:=fF (cK ha (DV h))
def zp {l:List D}{f:D->Bool}(h:fa vs β=.ok (.list (l.map λq=>PyData.bool (f q))) β):f1 fa (bK λbs=>bs.all id) vs β=.ok (.bool (l.all f)) β:=by
 refine cK h ?_
 simp only[bK]
 rw[eY]
 simp[Q5]
def Kb {ds:List D}(ha:fa vs β=.ok (.tuple ds) β):f1 fa bL vs β=.ok (.int ds.length) β:=cK ha rfl
def CJ (h:t vs β=.ok true β):lb t u vs β=.ok true β:=by rw[tW,h];rfl
def kO (h:t vs β=.ok false β)(h':u vs β=.ok c β):lb t u vs β=.ok c β:=by rw[tW,h];exact h'
def Kq (h:fa vs β=.ok (.bool false) β):fP fa fb vs β=.ok (.bool false) β:=by unfold fP;rw[h];rfl
def Hm {d:D}(h:fa vs β=.ok (.bool true) β)(h':fb vs β=.ok d β):fP fa fb vs β=.ok d β:=by unfold fP;rw[h];exact h'
end
def Sq (c k:Nat)(d:D):Prop:=d.showable=true/\d.depth<=k/\d.shown.length<=c
def Sq.mono {d:D}(h:Sq c k d)(h1:c<=c')(h2:k<=k'):Sq c' k' d:=⟨h.1,Pl h.2.1 h2,Pl h.2.2 h1⟩
theorem CZ :∀{ds:List D},(∀d,d∈ds->Sq c k d)->PyData.showableAll ds=true/\PyData.depthAll ds<=k/\(∀t,t∈PyData.shownAll ds->t.length<=c)/\(PyData.shownAll ds).length=ds.length
 | [],_=>⟨by simp[PyData.showableAll],by simp[PyData.depthAll],λt h=>by simp[PyData.shownAll] at h,by simp[PyData.shownAll]⟩
 |d :: ds,h=>by
  obtain⟨h1,h2,h3,h4⟩:=CZ λx hx=>h x (N5 _ hx)
  obtain⟨q1,q2,q3⟩:=h d (N0 ..)
  refine⟨?_,?_,λt ht=>?_,?_⟩
  ·rw[PyData.showableAll,q1,h1];rfl
  ·rw[PyData.depthAll];omega
  ·rw[PyData.shownAll] at ht
   rcases NX.mp ht with rfl |ht
   ·exact q3
   ·exact h3 t ht
  ·rw[PyData.shownAll,Ol,Ol,h4]
theorem xj :∀{ts:List Str},(∀t,t∈ts->t.length<=c)->(Str.join ", " ts).length<=(c + 2) * ts.length
 | [],_=>by show (Str.join ", " []).length<=_;exact OJ _
 | [x],h=>by
  have:=h x (N0 ..)
  show x.length<=(c + 2) * 1
  omega
 |x :: y :: r,h=>by
  have ih:=xj (ts:=y :: r) λt ht=>h t (N5 _ ht)
  have:=h x (N0 ..)
  show (x ++ ", " ++ Str.join ", " (y :: r)).length<=_
  rw[strLen_append,strLen_append]
  have e2:((", ":String):Str).length=2:=rfl
  rw[e2]
  have e:(c + 2) * (x :: y :: r).length=(c + 2) * (y :: r).length + (c + 2):=by rw[Ol,Nat.mul_succ]
  omega
def CC {ds:List D}(h:∀d,d∈ds->Sq c k d):Sq (3 + (c + 2) * ds.length) (k + 1) (.tuple ds):=by
 obtain⟨h1,h2,h3,h4⟩:=CZ h
 refine⟨by rw[PyData.showable];exact h1,by rw[PyData.depth];omega,?_⟩
 rw[PyData.shown]
 unfold tupleText
 rw[strLen_append,strLen_append]
 have j:=xj h3
 rw[h4] at j
 have e1:((("(":String):Str)).length=1:=rfl
 have e3:((if (PyData.shownAll ds).length == 1 then ",)" else ")":String):Str).length<=2:=by split <;> exact by decide
 rw[e1]
 omega
def Bf (d:D):Prop:=J2 d=true
theorem Dr:∀{ds:List D},(∀d,d∈ds->Bf d)->Dt ds=true
 | [],_=>rfl
 |d :: ds,h=>by
  have h1:=Dr λx hx=>h x (N5 _ hx)
  have q1:J2 d=true:=h d (N0 ..)
  rw[Dt,q1,h1];rfl
def Ea {ds:List D}(h:∀d,d∈ds->Bf d):Bf (.tuple ds):=by show J2 (.tuple ds)=true;rw[J2];exact Dr h
def MW:List Int:=[-1,0,1,2,3,4,5,6,7,8,9]
def C1:∀i∈MW,(int i).showable=true/\(int i).shown.length<=20:=by decide +kernel
def zf (h: -1<=i/\i<=9):i∈MW:=by
 simp only[MW,NX,OC,Po]
 omega
def Em (d:D):Prop:=d=.none\/(∃b,d=.bool b)\/∃i:Int,d=.int i/\ -1<=i/\i<=9
def Em.sq {d:D}(h:Em d):Sq 20 0 d:=by
 rcases h with rfl | ⟨b,rfl⟩ | ⟨i,rfl,h⟩
 ·exact⟨by simp[PyData.showable],by simp[PyData.depth],by rw[PyData.shown];decide⟩
 ·exact⟨by simp[PyData.showable],by simp[PyData.depth],by rw[PyData.shown];cases b <;> decide⟩
 ·exact⟨(C1 i (zf h)).1,by simp[PyData.depth],(C1 i (zf h)).2⟩
def Em.bf {d:D}(h:Em d):Bf d:=by
 rcases h with rfl | ⟨b,rfl⟩ | ⟨i,rfl,h⟩ <;> exact by simp[Bf,J2]
def Em.scr {d:D}(h:Em d):dq d=false:=by
 rcases h with rfl | ⟨b,rfl⟩ | ⟨i,rfl,h⟩ <;> rfl
section
variable {vs:List Nv}{β β1 β2:Int}{fa:VF D}{fr:VF (List D)}{d:D}{ds:List D}
def ac {fa:VF D}{fr:VF (List D)}(h:fa vs β=.ok d β)(h':fr vs β=.ok ds β):aa fa fr vs β=.ok (d :: ds) β:=by rw[dv,h];dsimp only[R.bnd];rw[h']
def an:af vs β=.ok [] β:=rfl
def tp (h:fr vs β=.ok ds β)(hz:ds.length<=1000:=by simp):fq fr vs β=.ok (.tuple ds) β:=mZ h hz
def lp (h:fr vs β=.ok ds β)(hz:ds.length<=1000:=by simp):bR fr vs β=.ok (.list ds) β:=iu h hz
def ck (d:D):cst d vs β=.ok d β:=rfl
end
def zR (h: -1<=i/\i<=9):Em (.int i):=.inr (.inr ⟨i,rfl,h⟩)
def D9 {d:D}(h:dq d=false):iM "list" d=some (.bool (match d with | .list _=>true |_=>false)):=by
 unfold iM;rw[h];cases d <;> rfl
def IX:D->Bool
 | .list _=>true
 |_=>false
theorem Gf {d:D}(h:IX d=true):∃ds,d=.list ds:=by
 cases d with
 |list ds=>exact⟨ds,rfl⟩
 |_=>cases h
def K6 {fa:VF D}{vs:List Nv}{β:Int}{d:D}(ha:fa vs β=.ok d β)(h:dq d=false):f1 fa (iM "list") vs β=.ok (.bool (IX d)) β:=cK ha (by rw[D9 h];cases d <;> rfl)
def i7 {fa:VF D}{vs:List Nv}{β:Int}{ds:List D}(ha:fa vs β=.ok (.list ds) β):f1 fa bL vs β=.ok (.int ds.length) β:=cK ha rfl
def Ge (e:D):Prop:=dq e=false/\∀es,e=.tuple es->es.length<=100/\∀x,x∈es->dq x=false
def Sp (p:Pr):Prop:=(0<=p.1/\p.1<=8)/\(0<=p.2/\p.2<=8)
def IF (hl:es.length<=100)(h:∀x,x∈es->dq x=false):Ge (.tuple es):=⟨rfl,λes' e=>by cases e;exact⟨hl,h⟩⟩
def zi (ha:fa vs β=.ok (.list ds) β)(hb:fb vs β=.ok (.int ((i:Nat):Int)) β):CA fa (DL fb) (λ_ β=>.ok none β) vs β=.ok (.list (ds.drop i)) β:=by
 unfold CA DL
 rw[ha];dsimp only[R.bnd]
 rw[hb];dsimp only[R.bnd]
 congr 2
 unfold cutD
 rw[HT.vZ,HT.zh]
 by_cases h:i<=ds.length
 ·rw[Nat.min_eq_left h];exact Py (by rw[length_drop];omega)
 ·rw[Nat.min_eq_right (by omega),List.drop_length,List.drop_of_length_le (by omega)];simp
def CU (ha:fa vs β=.ok (.list ds) β)(hb:fb vs β=.ok (.int ((i:Nat):Int)) β):CA fa (λ_ β=>.ok none β) (DL fb) vs β=.ok (.list (ds.take i)) β:=by
 unfold CA DL
 rw[ha];dsimp only[R.bnd]
 rw[hb];dsimp only[R.bnd]
 congr 2
 unfold cutD
 rw[HT.vZ,HT.zh]
 by_cases h:i<=ds.length
 ·rw[Nat.min_eq_left h];rfl
 ·rw[Nat.min_eq_right (by omega),Py (show ds.length<=i by omega)];simp
end RM
namespace RM
open PySem PySem.Spec L2 PyProof.Rows
theorem qN:∀(ns acc:List Int),acc.Nodup->(ns.foldl step_dedup acc).length<=acc.length + ns.length/\((ns.foldl step_dedup acc).length=acc.length + ns.length↔(ns.Nodup/\∀x,x∈ns->x∉acc))
 | [],acc,_=>by simp
 |n :: ns,acc,hn=>by
  rw[QS]
  by_cases h:n∈acc
  ·have e:step_dedup acc n=acc:=by unfold step_dedup;rw[N1 (by simpa using h)]
   rw[e]
   obtain⟨h1,h2⟩:=qN ns acc hn
   refine⟨by rw[Ol];omega,⟨λz=>?_,λz=>absurd h (z.2 n (N0 ..))⟩⟩
   rw[Ol] at z;omega
  ·have e:step_dedup acc n=acc ++ [n]:=by unfold step_dedup;rw[N8 (by simpa using h)]
   have hn':(acc ++ [n]).Nodup:=by
    rw[Rj]
    refine⟨hn,Ov.mpr ⟨by simp,P5⟩,λa ha b hb=>?_⟩
    rw[N6] at hb
    subst hb
    exact λq=>h (q▸ha)
   rw[e]
   obtain⟨h1,h2⟩:=qN ns (acc ++ [n]) hn'
   rw[Ow,List.length_singleton] at h1 h2
   refine⟨by rw[Ol];omega,?_⟩
   rw[Ol,show acc.length + (ns.length + 1)=acc.length + 1 + ns.length by omega,h2,Ov]
   constructor
   ·rintro⟨z1,z2⟩
    refine⟨⟨λq=>z2 n q (by simp),z1⟩,λx hx=>?_⟩
    rcases NX.mp hx with rfl |hx
    ·exact h
    ·exact λq=>z2 x hx (Pa _ q)
   ·rintro⟨⟨z1,z2⟩,z3⟩
    refine⟨z2,λx hx q=>?_⟩
    rcases Of.mp q with q |q
    ·exact z3 x (N5 _ hx) q
    ·rw[N6] at q;subst q;exact z1 hx
def vU (ns:List Int):rD ns=ns.length↔ns.Nodup:=by
 have e:firstMet (λi=>ns.getD i 0) ns.length=ns.foldl step_dedup []:=by
  unfold firstMet
  congr 1
  refine QP (by simp) λi h1 h2=>?_
  simp[Px,h2]
 unfold rD
 rw[e]
 have:=(qN ns [] P5).2
 simpa using this
theorem oM:∀{l m:List Int},l.Nodup->(∀x,x∈l->x∈m)->m.length<=l.length->l.Perm m
 | [],m,_,_,h=>by
  have:m= []:=Qu.mp (by simpa using h)
  rw[this]
 |x :: l,m,nd,hs,h=>by
  obtain⟨h1,h2⟩:=Ov.mp nd
  have hx:x∈m:=hs x (N0 ..)
  have pm:m.Perm (x :: m.erase x):=List.perm_cons_erase hx
  refine (List.Perm.cons x (oM (m:=m.erase x) h2 (λy hy=>?_) ?_)).trans pm.symm
  ·have hy':=pm.mem_iff.mp (hs y (N5 _ hy))
   rcases NX.mp hy' with rfl |q
   ·exact absurd hy h1
   ·exact q
  ·have:=pm.length_eq
   rw[Ol] at this h
   omega
def wW {n:Nat}{r:List Int}(hl:r.length=n)(hb:∀x,x∈r->0<=x/\x < n)(nd:r.Nodup):r.Perm (du n):=oM nd (λx hx=>aV.mpr (hb x hx)) (by rw[bY];omega)
noncomputable def pY (n:Nat)(d:D):Bool:=@decide (∃r:List Int,d=tupI r/\r.Perm (du n)) (Classical.propDecidable _)
def Jq (h:pY n d=true):∃r:List Int,d=tupI r/\r.Perm (du n):=@OS _ (Classical.propDecidable _) h
def wN (h:r.Perm (du n)):pY n (tupI r)=true:=@N3 _ (Classical.propDecidable _) ⟨r,rfl,h⟩
def tS (h:∀r:List Int,d=tupI r->¬r.Perm (du n)):pY n d=false:=@Oe _ (Classical.propDecidable _) λ⟨r,e,p⟩=>h r e p
def vL (h:tupI r=tupI q):r=q:=by
 unfold tupI at h
 have h:=PyData.tuple.inj h
 exact List.map_inj_right (λa b e=>int.inj e) |>.mp h
theorem Ba (h:eQ d n=true):∃i:Int,d=.int i/\0<=i/\i < n:=by
 cases d with
 |int i=>exact⟨i,rfl,OS h⟩
 |_=>cases h
theorem sD :∀{ds:List D},(ds.all λe=>eQ e n)=true->∃r:List Int,ds=r.map int/\∀x,x∈r->0<=x/\x < n
 | [],_=>⟨[],rfl,λx hx=>by cases hx⟩
 |d :: ds,h=>by
  rw[all_cons,Om] at h
  obtain⟨i,rfl,hi⟩:=Ba h.1
  obtain⟨r,rfl,hr⟩:=sD h.2
  refine⟨i :: r,rfl,λx hx=>?_⟩
  rcases NX.mp hx with rfl |hx
  ·exact hi
  ·exact hr x hx
def Az {n:Nat}{r:List Int}(h:∀x,x∈r->0<=x/\x < (n:Int)):((r.map int).all λe=>eQ e n)=true:=by
 rw[Q5,Ot]
 intro x hx
 exact N3 (h x hx)
theorem c6:∀r:List Int,fw (r.map int)=some r
 | []=>rfl
 |x :: r=>by
  have:=c6 r
  simp only[OL,fw,this]
  try rfl
def z8:List D->FR:=aZ 2 2 (lR df)
theorem JK {n:Nat}{d:D}(h8:n<=100)(h:Ge d):z8 [d,.int n]=.ok (.bool (pY n d)) false:=by
 show fin (lR df [.fz d,.fz (.int n)] 0)=_
 unfold lR
 have g0:gv 0 (vl [.fz d,.fz (.int n)]) 0=.ok d 0:=rfl
 have t1:=Kn g0 h.1
 cases hy:FG d with
 |false=>
  rw[hy] at t1
  rw[lV (d:=.bool false) (b:=false) (β':=0) (by rw[l9 (CJ (cQ t1))];rfl),tS]
  ·rfl
  ·intro r e;subst e;cases hy
 |true=>
  obtain⟨es,rfl⟩:=Fi hy
  rw[hy] at t1
  have t2:cB (f2 (f1 (gv 0) bL) (gv 1) (cV true)) (vl [.fz (.tuple es),.fz (.int n)]) 0=.ok (!decide ((es.length:Int)=n)) 0:=cF (neg:=true) (Kb g0) rfl
  by_cases hl:es.length=n
  ·rw[N3 (show (es.length:Int)=n by omega)] at t2
   rw[aF (env':=[.fz (.tuple es),.fz (.int n)]) (β':=0) (by rw[lJ (kO (cQ t1) t2)];rfl)]
   have hs:=(h.2 _ rfl).2
   have ec:aP 1 [1] (.nm 0) (bq (gv 0)) kL (aq df (aa (gv 0) (aa (gv 1) af))) (vl [.fz (.tuple es),.fz (.int n)]) 0=.ok (.list (es.map λe=>PyData.bool (eQ e n))) 0:=
    sg (λe=>PyData.bool (eQ e n)) rfl (by omega) λe he=>⟨_,rfl,au (ds:=[e,.int n]) rfl (pF (hs e he))⟩
   have ea:=zp ec
   rw[kB]
   cases hb:(es.all λe=>eQ e n) with
   |false=>
    rw[hb] at ea
    rw[Kq ea,tS]
    ·rfl
    ·intro r e pm
     have e:=PyData.tuple.inj e
     subst e
     rw[Az λx hx=>aV.mp (pm.mem_iff.mp hx)] at hb
     cases hb
   |true=>
    rw[hb] at ea
    obtain⟨r,rfl,hr⟩:=sD hb
    have hrl:r.length=n:=by rw[NZ] at hl;exact hl
    have es:f1 (gv 0) pj (vl [.fz (.tuple (r.map int)),.fz (.int n)]) 0=.ok (.int (rD r)) 0:=by
     refine cK g0 ?_
     show (match fw (r.map int) with |some ns=>if ns.length<=1000 then some (int (rD ns)) else none |none=>none)=_
     rw[c6]
     exact N1 (by omega)
    rw[Hm ea (aI es rfl (pI false (rD r) n))]
    show FR.ok (.bool (decide ((rD r:Int)=(n:Int)))) false=_
    by_cases nd:r.Nodup
    ·have:=(vU r).mpr nd
     rw[N3 (by omega),show pY n (.tuple (r.map int))=true from wN (wW hrl hr nd)]
    ·have:rD r≠r.length:=λq=>nd ((vU r).mp q)
     rw[Oe (by omega),tS]
     intro q e pm
     have e:=vL (r:=r) e
     subst e
     exact nd (pm.nodup_iff.mpr (fX n))
  ·rw[Oe (show ¬(es.length:Int)=n by omega)] at t2
   rw[lV (d:=.bool false) (b:=false) (β':=0) (by rw[l9 (kO (cQ t1) t2)];rfl),tS]
   ·rfl
   ·intro r e pm
    have e:=PyData.tuple.inj e
    subst e
    have:=pm.length_eq
    rw[bY] at this
    rw[NZ] at hl
    exact hl this
end RM
namespace RM
open PySem L2
def rm (r:List Int):List Int:=(List.range r.length).map λ(a:Nat)=>((r.idxOf (a:Int):Nat):Int)
def gV (r:List Int)(k:Nat):List Int:=(List.range r.length).map λ(a:Nat)=>if r.idxOf (a:Int) < k then ((r.idxOf (a:Int):Nat):Int) else 0
def AJ (h:r.Perm (du n)):gV r r.length=rm r:=by
 unfold gV rm
 refine Pf λa ha=>?_
 have hl:=h.length_eq
 rw[bY] at hl
 have:=Og.mp ha
 rw[N1 (Pp.mpr (h.mem_iff.mpr (aV.mpr ⟨by omega,by omega⟩)))]
def yA (r:List Int):gV r 0=List.replicate r.length 0:=by
 unfold gV
 refine QP (by simp) λi h1 h2=>by simp
def yv (h:r.Perm (du n))(hk:r[k]? =some x):(gV r k).set x.toNat (k:Int)=gV r (k + 1):=by
 have hl:=h.length_eq
 rw[bY] at hl
 have hx:=aV.mp (h.mem_iff.mp (Ob hk))
 have nd:r.Nodup:=h.nodup_iff.mpr (fX n)
 obtain⟨hkl,hke⟩:=N9.mp hk
 have hix:r.idxOf x=k:=by rw[<-hke];exact nd.idxOf_getElem k hkl
 unfold gV
 refine QP (by simp) λi h1 h2=>?_
 have hi:i < r.length:=by simpa using h2
 rw[List.getElem_set]
 simp only[List.getElem_map,QZ]
 by_cases e:x.toNat=i
 ·rw[N1 e]
  have ex:(i:Int)=x:=by omega
  rw[ex,hix,N1 (by omega)]
 ·rw[N8 e]
  have:r.idxOf (i:Int)≠k:=λq=>by
   have hm:(i:Int)∈r:=h.mem_iff.mpr (aV.mpr ⟨by omega,by omega⟩)
   have h3:=Q8 (Pp.mpr hm)
   simp only[q] at h3
   rw[hke] at h3
   omega
  by_cases z:r.idxOf (i:Int) < k
  ·rw[N1 z,N1 (by omega)]
  ·rw[N8 z,N8 (by omega)]
def DX {n:Nat}{r:List Int}(h:r.Perm (du n)){a:Int}(ha:0<=a/\a < n):kG (rm r) a=some ((r.idxOf a:Nat):Int):=by
 have hl:=h.length_eq
 rw[bY] at hl
 have e:(a.toNat:Int)=a:=by omega
 have:=kC (xs:=rm r) (j:=a.toNat) (v:=((r.idxOf a:Nat):Int)) (by
  unfold rm
  rw[Oa,Qf (by omega)]
  simp only[Option.map_some,e])
 rw[e] at this
 exact this
def JS:List D->FR:=aZ 4 1 nF
def Ln (h1:bL d=some (.int ((r.map int).length:Nat)))(h2:hG d=some (r.map int))(h100:n<=100)(h:r.Perm (du n)):JS [d]=.ok (.list ((rm r).map int)) true:=by
 have hl:=h.length_eq
 rw[bY] at hl
 show fin (nF [.fz (d),.no,.no,.no] 0)=_
 unfold nF
 rw[aF (env':=[.fz (d),.ow (.list ((gV r 0).map int)),.no,.no]) (β':=0) ?a]
 case a=>
  have e:f2 (bR (aa (cst (.int 0)) af)) (f1 (gv 0) bL) v3 (vl [.fz (d),.no,.no,.no]) 0=.ok (.list ((gV r 0).map int)) 0:=by
   refine aI (lp (ac (ck _) an)) (cK (x:=d) rfl h1) ?_
   rw[NZ,yA,List.map_replicate]
   simp only[v3]
   rw[N1 ?q]
   ·congr 2
    rw[OB]
    induction r.length with
    |zero=>rfl
    |succ m ih=>first |rw[OV,OV,Pg,ih];rfl | (simp[OV] at ih ⊢;try exact ih)
   case q=>first | (constructor <;> first |omega | (show _<=_;simp;try omega)) | (rw[Oo];simp;omega)
  rw[kY,e];rfl
 have ee:Hu (gv 0) (vl [.fz (d),.ow (.list ((gV r 0).map int)),.no,.no]) 0=.ok (cO (r.map int)) 0:=by
  show (match hG d with |some ds=>R.ok (cO ds) 0 |none=>.bad)=_
  rw[h2]
 obtain⟨env',β',ef,s,t,rfl,rfl⟩:=fB (t:=.two 2 3) (m:=pR 1 [2] [] (gv 2) (gv 3)) (ds:=cO (r.map int)) (k:=0)
  (λk env β=>∃s t:Sl,env= [.fz (d),.ow (.list ((gV r k).map int)),s,t]/\β=0)
  (env:=[.fz (d),.ow (.list ((gV r 0).map int)),.no,.no]) (β:=0) ⟨.no,.no,rfl,rfl⟩ (by
   rintro k d env β hk ⟨s,t,rfl,rfl⟩
   unfold cO at hk
   rw[QO,Oa] at hk
   cases hx:r[k]? with
   |none=>rw[hx] at hk;cases hk
   |some x=>
    rw[hx] at hk
    cases hk
    have hxm:=aV.mp (h.mem_iff.mp (Ob hx))
    refine⟨[.fz (d),.ow (.list ((gV r (0 + k)).map int)),.fz (.int k),.fz (.int x)],rfl,?_⟩
    rw[Pn]
    refine⟨[.fz (d),.ow (.list ((gV r (k + 1)).map int)),.fz (.int k),.fz (.int x)],0,?_,_,_,rfl,rfl⟩
    rw[v7 (ds:=(gV r k).map int) (d:=.int k) (k:=x) (n:=x.toNat) (β1:=0) (β2:=0) rfl (by rfl) rfl (by rfl) ?b]
    ·rw[<-yv h hx,List.map_set];rfl
    case b=>
     unfold t6
     rw[N1 hxm.1,N1 (by rw[NZ];unfold gV;simp;omega)])
 have hle:(cO (r.map int)).length=r.length:=by unfold cO;simp
 rw[Pn,hle,AJ h] at ef
 rw[aF (env':=[.fz (d),.ow (.list ((rm r).map int)),s,t]) (β':=0) (by
  rw[dX (env:=[.fz (d),.ow (.list ((gV r 0).map int)),.no,.no]) ee]
  exact ef)]
 rfl
def Lo (h100:n<=100)(h:r.Perm (du n)):JS [tupI r]=.ok (.list ((rm r).map int)) true:=Ln rfl rfl h100 h
def Jl (l:List Pr)(r:List Int):Bool:=l.all λp=>decide (r.idxOf p.1 < r.idxOf p.2)
def Row (n:Nat)(l:List Pr)(r:List Int):Prop:=r.Perm (du n)/\Jl l r=true
noncomputable def HH (n:Nat)(l:List Pr)(d:D):Bool:=@decide (∃r:List Int,d=tupI r/\Row n l r) (Classical.propDecidable _)
def zg (h:Row n l r):HH n l (tupI r)=true:=@N3 _ (Classical.propDecidable _) ⟨r,rfl,h⟩
def GX (h:∀r:List Int,d=tupI r->¬Row n l r):HH n l d=false:=@Oe _ (Classical.propDecidable _) λ⟨r,e,p⟩=>h r e p
noncomputable def L7:List D->FR:=aZ 3 2 (gz z8 JS)
def Ck {n:Nat}{r:List Int}(h:r.Perm (du n)){a b:Int}(ha:0<=a/\a < n)(hb:0<=b/\b < n){fp fa fb:VF D}{vs:List Nv}{β:Int}(hp:fp vs β=.ok (.list ((rm r).map int)) β)(h1:fa vs β=.ok (.int a) β)(h2:fb vs β=.ok (.int b) β) :
  f2 (f2 fp fa cn) (f2 fp fb cn) xZ vs β=.ok (.bool (decide (r.idxOf a < r.idxOf b))) β:=by
 refine aI (aI hp h1 (show kG ((rm r).map int) a=_ by rw[jf,DX h ha];rfl)) (aI hp h2 (show kG ((rm r).map int) b=_ by rw[jf,DX h hb];rfl)) ?_
 show some (PyData.bool (decide (((r.idxOf a:Nat):Int) < ((r.idxOf b:Nat):Int))))=_
 congr 2
 rw[Pc,Oq,Oq]
 omega
theorem MQ (O:OM.Ord n l)(h:Ge d):L7 [d,aw n l]=.ok (.bool (HH n l d)) false:=by
 have h8:=O.hi
 show fin (gz z8 JS [.fz d,.fz (aw n l),.no] 0)=_
 unfold gz
 have t:kU (aq z8 (aa (gv 0) (aa (f2 (gv 1) (cst (.int 0)) cn) af))) (vl [.fz d,.fz (aw n l),.no]) 0=.ok (pY n d) 0:=fF (au (ds:=[d,.int n]) (ac rfl (ac (Eo (n:=n) (l:=l) rfl) an)) (JK (by omega) h))
 cases q:pY n d with
 |false=>
  rw[q] at t
  rw[lV (d:=.bool false) (b:=false) (β':=0) (by rw[l9 (cQ t)];rfl),GX]
  ·rfl
  ·rintro r rfl hr
   rw[wN hr.1] at q;cases q
 |true=>
  rw[q] at t
  obtain⟨r,rfl,pm⟩:=Jq q
  rw[aF (env':=[.fz (tupI r),.fz (aw n l),.no]) (β':=0) (by rw[lJ (cQ t)];rfl)]
  rw[aF (env':=[.fz (tupI r),.fz (aw n l),.fz (.list ((rm r).map int))]) (β':=0) (by rw[ij,au (ds:=[tupI r]) (β1:=0) rfl (Lo (by omega) pm)];rfl)]
  have ec:aP 2 [2] (.two 0 1) (bq (f2 (gv 1) (cst (.int 1)) cn)) kL (f2 (f2 (gv 2) (gv 0) cn) (f2 (gv 2) (gv 1) cn) xZ) (vl [.fz (tupI r),.fz (aw n l),.fz (.list ((rm r).map int))]) 0=.ok (.list (l.map λp=>PyData.bool (decide (r.idxOf p.1 < r.idxOf p.2)))) 0:=by
   refine bI (l:=l) (e:=aU) (λp=>PyData.bool (decide (r.idxOf p.1 < r.idxOf p.2))) rfl (by have:=jZ O;omega) λp hp=>⟨_,rfl,?_⟩
   have hw:=O.wn p hp
   exact Ck pm hw.1 hw.2 rfl rfl rfl
  rw[kB,HV (f:=λp=>decide (r.idxOf p.1 < r.idxOf p.2)) ec]
  show FR.ok (.bool (Jl l r)) false=_
  cases qf:Jl l r with
  |true=>rw[zg ⟨pm,qf⟩]
  |false=>
   rw[GX]
   rintro r' e hr
   have e:=vL e
   subst e
   rw[hr.2] at qf;cases qf
def Gt (d:D):Prop:=dq d=false/\∀ds,d=.list ds->ds.length<=100/\∀e,e∈ds->Ge e
noncomputable def MR:List D->FR:=aZ 2 2 (j3 L7)
def Gz (rs:List (List Int))(p:Pr):Bool:=rs.all λr=>decide (r.idxOf p.1 < r.idxOf p.2)
def Ma:List D->FR:=aZ 3 3 fj
def uQ {α:Type}{fa:VF D}{vs:List Nv}{β:Int}{l:List α}{f:α->Bool}(h:fa vs β=.ok (.list (l.map λq=>PyData.bool (f q))) β):f1 fa (bK λbs=>bs.all id) vs β=.ok (.bool (l.all f)) β:=by
 refine cK h ?_
 simp only[bK]
 rw[eY]
 simp[Q5,Function.comp_def]
def MB {n:Nat}{rs:List (List Int)}(hz:rs.length<=1000)(hp:∀r,r∈rs->r.Perm (du n)){a b:Int}(ha:0<=a/\a < n)(hb:0<=b/\b < n):Ma [.list (rs.map λr=>.list ((rm r).map int)),.int a,.int b]=.ok (.bool (Gz rs (a,b))) false:=by
 show fin (fj [.fz (.list (rs.map λr=>.list ((rm r).map int))),.fz (.int a),.fz (.int b)] 0)=_
 unfold fj
 have ec:aP 1 [1,2] (.nm 0) (bq (gv 0)) kL (f2 (f2 (gv 0) (gv 1) cn) (f2 (gv 0) (gv 2) cn) xZ) (vl [.fz (.list (rs.map λr=>.list ((rm r).map int))),.fz (.int a),.fz (.int b)]) 0=.ok (.list (rs.map λr=>PyData.bool (decide (r.idxOf a < r.idxOf b)))) 0:=
  bI (l:=rs) (e:=λr=>.list ((rm r).map int)) (λr=>PyData.bool (decide (r.idxOf a < r.idxOf b))) rfl (by omega) λr hr=>⟨_,rfl,Ck (hp r hr) ha hb rfl rfl rfl⟩
 rw[kB,uQ ec];rfl
noncomputable def MU:List D->FR:=aZ 3 2 (fI JS tL Ma)
def HY {n:Nat}{rs:List (List Int)}(h1:1<=n)(h8:n<=8)(hz:rs.length<=1000)(hp:∀r,r∈rs->r.Perm (du n)):MU [.int n,.list (rs.map tupI)]=.ok (.tuple (((OM.dI n).filter (Gz rs)).map aU)) false:=by
 show fin (fI JS tL Ma [.fz (.int n),.fz (.list (rs.map tupI)),.no] 0)=_
 unfold fI
 have e1:aP 1 [] (.nm 0) (bq (gv 1)) kL (aq JS (aa (gv 0) af)) (vl [.fz (.int n),.fz (.list (rs.map tupI)),.no]) 0=.ok (.list (rs.map λr=>.list ((rm r).map int))) 0:=
  bI (l:=rs) (e:=tupI) (λr=>.list ((rm r).map int)) rfl (by omega) λr hr=>⟨_,rfl,au (ds:=[tupI r]) rfl (Lo (by omega) (hp r hr))⟩
 rw[aF (env':=[.fz (.int n),.fz (.list (rs.map tupI)),.fz (.list (rs.map λr=>.list ((rm r).map int)))]) (β':=0) (by rw[ij,e1];rfl)]
 have hg:(OM.dI n).length<=64:=by rw[jG];exact PK h8 h8
 have e2:aP 2 [2] (.two 0 1) (bq (aq tL (aa (gv 0) af))) (kU (aq Ma (aa (gv 2) (aa (gv 0) (aa (gv 1) af))))) (fq (aa (gv 0) (aa (gv 1) af))) (vl [.fz (.int n),.fz (.list (rs.map tupI)),.fz (.list (rs.map λr=>.list ((rm r).map int)))]) 0=.ok (.list (((OM.dI n).filter (Gz rs)).map aU)) 0:=by
  refine dF (l:=OM.dI n) (e:=aU) (Gz rs) aU ?_ (by omega) λp hp'=>⟨_,rfl,?_,λ_=>kZ rfl rfl⟩
  ·unfold bq
   rw[au (ds:=[.int n]) (β1:=0) rfl (E1 h1 h8)];rfl
  ·have:=OM.cJ.mp hp'
   exact fF (au (ds:=[.list (rs.map λr=>.list ((rm r).map int)),.int p.1,.int p.2]) rfl (MB hz hp this.1 this.2))
 rw[kB,cK (g:=n5) e2 rfl];rfl
theorem any_ints (a:Int):∀s:List Int,((s.map int).any λe=>PyData.eqv e (.int a))=decide (a∈s)
 | []=>rfl
 |b :: s=>by
  rw[OL,PU,any_ints a s]
  show ((b == a) || _)=_
  rw[Pc]
  simp only[QU,beq_iff_eq,Oq,NX]
  exact⟨λh=>h.imp Eq.symm id,λh=>h.imp Eq.symm id⟩
def BD (s:List Int):(s.map int).all SeqAt.shaped=true:=by
 rw[Ot]
 intro d hd
 obtain⟨p,_,rfl⟩:=N7.mp hd
 rfl
def zd (l:List Pr)(r:List Int)(x:Int):List Int:=(l.filter λp=>decide (p.2=x) && !decide (p.1∈r)).map (·.1)
def gK :a∈zd l r x↔(a,x)∈l/\a∉r:=by
 unfold zd
 rw[N7]
 constructor
 ·rintro⟨p,hp,rfl⟩
  have:=Oi.mp hp
  simp only[Om,Oq,Pk,Pt] at this
  obtain⟨pa,pb⟩:=p
  obtain⟨h1,h2,h3⟩:=this
  simp only at h2 h3
  subst h2
  exact⟨h1,h3⟩
 ·rintro⟨h1,h2⟩
  exact⟨(a,x),Oi.mpr ⟨h1,by simp[h2]⟩,rfl⟩
def AY (O:OM.Ord n l)(r:List Int)(x:Int):(zd l r x).Nodup:=by
 unfold zd
 rw[PV,OP]
 refine OH (λ{a b} ha hb h e=>h ?_) (PV.mp ((OM.iE O.ris).filter _))
 have h1:=(Oi.mp ha).2
 have h2:=(Oi.mp hb).2
 simp only[Om,Oq] at h1 h2
 exact Prod.ext e (h1.1.trans h2.1.symm)
theorem least (O:OM.Ord n l)(r:List Int):∀(k:Nat) (x:Int),(0<=x/\x < n)->x∉r->(zd l r x).length<=k->∃y:Int,(0<=y/\y < n)/\y∉r/\zd l r y= []
 | 0,x,hx,hr,hk=>⟨x,hx,hr,Qu.mp (by omega)⟩
 |k + 1,x,hx,hr,hk=>by
  by_cases he:zd l r x= []
  ·exact⟨x,hx,hr,he⟩
  ·obtain⟨a,ha⟩:=QV _ he
   obtain⟨h1,h2⟩:=gK.mp ha
   refine least O r k a (O.wn _ h1).1 h2 ?_
   have nd:(a :: zd l r a).Nodup:=Ov.mpr ⟨λq=>O.irr a (gK.mp q).1,AY O r a⟩
   have:=L2.ST.a9 nd (m:=zd l r x) λy hy=>by
    rcases NX.mp hy with rfl |hy
    ·exact ha
    ·obtain⟨q1,q2⟩:=gK.mp hy
     exact gK.mpr ⟨O.tr _ _ _ q1 h1,q2⟩
   rw[Ol] at this
   omega
structure Eu (n:Nat)(l:List Pr)(r:List Int):Prop where
 nd:r.Nodup
 inn:∀x,x∈r->0<=x/\x < (n:Int)
 fit:∀p,p∈l->p.2∈r->p.1∈r/\r.idxOf p.1 < r.idxOf p.2
def Eu.len (B:Eu n l r):r.length<=n:=by
 have:=L2.ST.a9 B.nd (m:=du n) λx hx=>aV.mpr (B.inn x hx)
 rwa [bY] at this
def Eu.row (O:OM.Ord n l)(B:Eu n l r)(h:n<=r.length):Row n l r:=by
 have pm:=wW (Nat.le_antisymm B.len h) B.inn B.nd
 refine⟨pm,Ot.mpr λp hp=>N3 ?_⟩
 exact (B.fit p hp (pm.mem_iff.mpr (aV.mpr (O.wn p hp).2))).2
def eT (l:List Pr)(r:List Int)(x:Int):Bool:= !decide (x∈r) && decide (zd l r x= [])
def Eu.more (B:Eu n l r)(hx:0<=x/\x < (n:Int))(hf:eT l r x=true):Eu n l (r ++ [x]):=by
 unfold eT at hf
 rw[Om,Pk,Pt,Oq] at hf
 obtain⟨h1,h2⟩:=hf
 refine⟨?_,λy hy=>?_,λp hp hm=>?_⟩
 ·rw[Rj]
  refine⟨B.nd,Ov.mpr ⟨by simp,P5⟩,λa ha b hb=>?_⟩
  rw[N6] at hb
  subst hb
  exact λq=>h1 (q▸ha)
 ·rcases Of.mp hy with hy |hy
  ·exact B.inn y hy
  ·rw[N6] at hy;subst hy;exact hx
 ·rcases Of.mp hm with hm |hm
  ·obtain⟨q1,q2⟩:=B.fit p hp hm
   refine⟨Pa _ q1,?_⟩
   rw[Qo,Qo,N1 q1,N1 hm]
   exact q2
  ·rw[N6] at hm
   have hp1:p.1∈r:=by
    by_cases z:p.1∈r
    ·exact z
    ·have:p.1∈zd l r x:=gK.mpr ⟨by rw[<-hm];exact hp,z⟩
     rw[h2] at this;cases this
   refine⟨Pa _ hp1,?_⟩
   rw[Qo,Qo,N1 hp1,N8 (by rw[hm];exact h1)]
   have:=Pp.mpr hp1
   omega
def Eu.free (O:OM.Ord n l)(B:Eu n l r)(h:r.length < n):(du n).filter (eT l r)≠ []:=by
 have:∃x,x∈du n/\x∉r:=by
  apply Classical.byContradiction
  intro z
  have:=L2.ST.a9 (fX n) (m:=r) λx hx=>Classical.byContradiction λq=>z ⟨x,hx,q⟩
  rw[bY] at this
  omega
 obtain⟨x,hx,hr⟩:=this
 obtain⟨y,hy,hyr,hp⟩:=least O r _ x (aV.mp hx) hr (N4 _)
 intro q
 have:y∈(du n).filter (eT l r):=Oi.mpr ⟨aV.mpr hy,by unfold eT;simp[hyr,hp]⟩
 rw[q] at this
 cases this
def dO (l:List Pr)(r:List Int)(i:Nat):List Int:=(du i).filter (eT l r)
def q8 (i:Nat):du (i + 1)=du i ++ [(i:Int)]:=by unfold du;rw[List.range_succ,OA];rfl
def si (l:List Pr)(r:List Int)(i:Nat):dO l r (i + 1)=dO l r i ++ if eT l r (i:Int)=true then [(i:Int)] else []:=by
 unfold dO
 rw[q8,Ra]
 congr 1
 by_cases h:eT l r (i:Int)=true
 ·rw[N1 h];simp[h]
 ·rw[N8 h];simp[h]
def mP (l:List Pr)(r:List Int)(i:Nat):(dO l r i).length<=i:=by
 have:(dO l r i).length<=(du i).length:=O5 _ _
 rwa [bY] at this
end RM
namespace RM
open PySem L2 PyProof.Rows
def mk (f:Nat->Bool):Nat->Nat
 | 0=>0
 |n + 1=>mk f n ||| if f n=true then 2 ^ n else 0
theorem ki (f:Nat->Bool):∀(n i:Nat),(mk f n).testBit i=(decide (i < n) && f i)
 | 0,i=>by simp[mk]
 |n + 1,i=>by
  unfold mk
  rw[Nat.testBit_or,ki f n i]
  by_cases h:f n=true
  ·rw[N1 h,Nat.testBit_two_pow]
   by_cases e:n=i
   ·subst e;simp[h]
   ·have e2:decide (i < n)=decide (i < n + 1):=by
     rw[PZ];omega
    simp[e,e2]
  ·rw[N8 h]
   by_cases e:i=n
   ·subst e;simp[h]
   ·have e2:decide (i < n)=decide (i < n + 1):=by
     rw[PZ];omega
    simp[e2]
def mk_eq {f g:Nat->Bool}:mk f n=mk g n↔∀i,i < n->f i=g i:=by
 constructor
 ·intro h i hi
  have:=congrArg (λx=>x.testBit i) h
  simp only[ki,N3 hi,Bool.true_and] at this
  exact this
 ·intro h
  apply Nat.eq_of_testBit_eq
  intro i
  rw[ki,ki]
  by_cases hi:i < n
  ·rw[h i hi]
  ·rw[Oe hi];simp
def nI (f:Nat->Bool)(t:Nat):Nat->Bool:=λi=>f i || decide (i=t)
def LL {f:Nat->Bool}(h:t < n):mk f n ||| 2 ^ t=mk (nI f t) n:=by
 apply Nat.eq_of_testBit_eq
 intro i
 rw[Nat.testBit_or,ki,ki,Nat.testBit_two_pow]
 unfold nI
 by_cases e:t=i
 ·subst e;simp[h]
 ·have e':¬i=t:=λq=>e q.symm
  simp[e,e']
def HQ {f g:Nat->Bool}:(mk f n &&& mk g n=mk g n)↔∀i,i < n->g i=true->f i=true:=by
 have e:mk f n &&& mk g n=mk (λi=>f i && g i) n:=by
  apply Nat.eq_of_testBit_eq
  intro i
  rw[Nat.testBit_and,ki,ki,ki]
  by_cases h:i < n
  ·simp[h]
  ·simp[h]
 rw[e,mk_eq]
 constructor
 ·intro h i hi hg
  have:=h i hi
  rw[hg,Bool.and_true] at this
  exact this
 ·intro h i hi
  cases hg:g i with
  |false=>simp
  |true=>rw[h i hi hg];rfl
def Bm (a b:Nat):Builtin.bitOr (a:Int) (b:Int)=((a ||| b:Nat):Int):=by
 have h1:¬(0<=Builtin.bitNot (a:Int)):=by show ¬(0<= -(a:Int) - 1);omega
 have h2:¬(0<=Builtin.bitNot (b:Int)):=by show ¬(0<= -(b:Int) - 1);omega
 show Builtin.bitNot (Builtin.bitAnd (Builtin.bitNot a) (Builtin.bitNot b))=_
 rw[bitAnd_nn h1 h2]
 have e1:Builtin.bitNot (Builtin.bitNot (a:Int))=a:=by show -(-(a:Int) - 1) - 1=a;omega
 have e2:Builtin.bitNot (Builtin.bitNot (b:Int))=b:=by show -(-(b:Int) - 1) - 1=b;omega
 rw[e1,e2]
 show -(-((((a:Int).toNat ||| (b:Int).toNat:Nat):Int)) - 1) - 1=_
 rw[OB,OB];omega
def yq (a b:Nat):Builtin.bitAnd (a:Int) (b:Int)=((a &&& b:Nat):Int):=by
 rw[bitAnd_pp (by omega) (by omega),OB,OB]
def mI (f:Nat->Bool)(n:Nat):D:=.int ((mk f n:Nat):Int)
def Il:∀t:Nat,t < 8->IY (.int 1) (.int (t:Int))=some (.int ((2 ^ t:Nat):Int)):=by
 intro t ht
 have:t=0\/t=1\/t=2\/t=3\/t=4\/t=5\/t=6\/t=7:=by omega
 rcases this with rfl |rfl |rfl |rfl |rfl |rfl |rfl |rfl <;> rfl
def A9:List D->FR:=aZ 2 2 iy
def Jr {f:Nat->Bool}(h8:n<=8)(h:t < n):A9 [mI f n,.int (t:Int)]=.ok (mI (nI f t) n) false:=by
 show fin (iy [.fz (mI f n),.fz (.int t)] 0)=_
 unfold iy
 rw[kB,aI (x:=mI f n) (y:=.int ((2 ^ t:Nat):Int)) (d:=mI (nI f t) n) (β1:=0) (β2:=0) rfl (aI (x:=.int 1) (y:=.int t) rfl rfl (Il t (by omega))) ?a]
 ·rfl
 case a=>
  show some (int (Builtin.bitOr _ _))=_
  rw[Bm,LL h];rfl
def gX (n:Nat)(M:Nat->Nat->Bool):D:=.list ((List.range n).map λb=>mI (M b) n)
def fM (l:List Pr)(b a:Nat):Bool:=decide ((((a:Nat):Int),((b:Nat):Int))∈l)
def LU {M:Nat->Nat->Bool}(h:b < n):kG ((List.range n).map λb=>mI (M b) n) (b:Int)=some (mI (M b) n):=kC (by rw[Oa,Qf h];rfl)
def MP:List D->FR:=aZ 4 1 (gF A9)
def orM (M:Nat->Nat->Bool)(p:Pr)(b a:Nat):Bool:=M b a || (decide ((b:Int)=p.2) && decide ((a:Int)=p.1))
def IC {n:Nat}{M:Nat->Nat->Bool}{p:Pr}(h1:0<=p.1/\p.1 < n)(h2:0<=p.2/\p.2 < n):((List.range n).map λb=>mI (M b) n).set p.2.toNat (mI (nI (M p.2.toNat) p.1.toNat) n)=(List.range n).map λb=>mI (orM M p b) n:=by
 refine QP (by simp) λi h3 h4=>?_
 rw[List.getElem_set]
 simp only[List.getElem_map,QZ]
 unfold mI
 by_cases e:p.2.toNat=i
 ·rw[N1 e]
  congr 2
  rw[mk_eq]
  intro j hj
  unfold nI orM
  rw[e]
  have e1:((i:Nat):Int)=p.2:=by omega
  rw[N3 e1,Bool.true_and]
  congr 1
  rw[PZ];omega
 ·rw[N8 e]
  congr 2
  rw[mk_eq]
  intro j hj
  unfold orM
  rw[Oe (by omega:¬((i:Nat):Int)=p.2)];simp
theorem zZ {n:Nat}{l:List Pr}(h8:n<=8):∀(ps:List Pr) (M:Nat->Nat->Bool) (s2 s3:Sl),OM.Wn n ps->∃M' s2' s3',ja (.two 2 3) (pR 1 (([] ++ []) ++ ([2] ++ [])) [] (aq A9 (aa (f2 (gv 1) (gv 3) cn) (aa (gv 2) af))) (gv 3)) (ps.map aU) [.fz (aw n l),.ow (gX n M),s2,s3] 0=.nx [.fz (aw n l),.ow (gX n M'),s2',s3'] 0/\∀b a,b < n->a < n->M' b a=(M b a || fM ps b a)
 | [],M,s2,s3,_=>⟨M,s2,s3,rfl,λb a _ _=>by unfold fM;simp⟩
 |p :: ps,M,s2,s3,wn=>by
  have hp:=wn p (N0 ..)
  obtain⟨M',s2',s3',e,hM⟩:=zZ (l:=l) h8 ps (orM M p) (.fz (.int p.1)) (.fz (.int p.2)) λq hq=>wn q (N5 _ hq)
  refine⟨M',s2',s3',?_,λb a hb ha=>?_⟩
  ·rw[OL]
   unfold ja
   rw[show fQ (.two 2 3) (aU p) [.fz (aw n l),.ow (gX n M),s2,s3]=some [.fz (aw n l),.ow (gX n M),.fz (.int p.1),.fz (.int p.2)] from rfl]
   dsimp only
   have e1:(p.2.toNat:Int)=p.2:=by omega
   have e2:(p.1.toNat:Int)=p.1:=by omega
   have ew:aq A9 (aa (f2 (gv 1) (gv 3) cn) (aa (gv 2) af)) (vl [.fz (aw n l),.ow (gX n M),.fz (.int p.1),.fz (.int p.2)]) 0=.ok (mI (nI (M p.2.toNat) p.1.toNat) n) 0:=by
    refine au (b:=false) (ds:=[mI (M p.2.toNat) n,.int (p.1.toNat:Int)]) (ac (aI (x:=gX n M) (y:=.int p.2) rfl rfl ?_) (ac ?_ an)) (Jr h8 (by omega))
    ·have:=LU (n:=n) (M:=M) (b:=p.2.toNat) (by omega)
     rw[e1] at this
     exact this
    ·show R.ok (int p.1) 0=_
     rw[e2]
   rw[v7 (ds:=(List.range n).map λb=>mI (M b) n) (d:=mI (nI (M p.2.toNat) p.1.toNat) n) (k:=p.2) (n:=p.2.toNat) (β1:=0) (β2:=0) ew (by rfl) rfl (by rfl) (by
    unfold t6
    rw[N1 hp.2.1,N1 (by simp;omega)]),IC hp.1 hp.2]
   dsimp only
   exact e
  ·rw[hM b a hb ha]
   unfold orM fM
   obtain⟨p1,p2⟩:=p
   rw[Bool.or_assoc]
   congr 1
   rw[Pc]
   simp only[QU,Om,Oq,NX,Prod.mk.injEq]
   constructor
   ·rintro (⟨h1,h2⟩ |h)
    ·exact .inl ⟨h2,h1⟩
    ·exact .inr h
   ·rintro (⟨h1,h2⟩ |h)
    ·exact .inl ⟨h2,h1⟩
    ·exact .inr h
def Bs {M N:Nat->Nat->Bool}(h:∀b a,b < n->a < n->M b a=N b a):gX n M=gX n N:=by
 unfold gX
 congr 1
 refine Pf λb hb=>?_
 unfold mI
 congr 2
 rw[mk_eq]
 exact λa ha=>h b a (Og.mp hb) ha
def MS (O:OM.Ord n l):MP [aw n l]=.ok (gX n (fM l)) true:=by
 have h8:=O.hi
 show fin (gF A9 [.fz (aw n l),.no,.no,.no] 0)=_
 unfold gF
 rw[aF (env':=[.fz (aw n l),.ow (gX n λ_ _=>false),.no,.no]) (β':=0) ?a]
 case a=>
  have e:f2 (bR (aa (cst (.int 0)) af)) (f2 (gv 0) (cst (.int 0)) cn) v3 (vl [.fz (aw n l),.no,.no,.no]) 0=.ok (gX n λ_ _=>false) 0:=by
   refine aI (lp (ac (ck _) an)) (Eo (n:=n) (l:=l) rfl) ?_
   simp only[v3]
   rw[N1 ⟨by omega,by omega,by rw[Oo];simp;omega⟩]
   unfold gX
   congr 2
   rw[OB]
   have hz:∀m,mk (λ_=>false) m=0:=λm=>by
    induction m with
    |zero=>rfl
    |succ m ih=>unfold mk;rw[ih];simp
   unfold mI
   simp only[hz]
   have:∀m:Nat,(List.replicate m [int 0]).flatten=List.replicate m (int 0):=λm=>by
    induction m with
    |zero=>rfl
    |succ m ih=>rw[OV,OV,Pg,ih];rfl
   rw[this]
   refine QP (by simp) λi h1 h2=>by simp
  rw[kY,e];rfl
 obtain⟨M',s2,s3,e,hM⟩:=zZ (l:=l) h8 l (λ_ _=>false) .no .no O.wn
 have hm:gX n M'=gX n (fM l):=Bs λb a hb ha=>by rw[hM b a hb ha];rfl
 rw[hm] at e
 rw[aF (env':=[.fz (aw n l),.ow (gX n (fM l)),s2,s3]) (β':=0) (by
  rw[dX (env:=[.fz (aw n l),.ow (gX n λ_ _=>false),.no,.no]) (ds:=l.map aU) (β1:=0) (by unfold bq;rw[LN (n:=n) (l:=l) rfl];rfl)]
  exact e)]
 rfl
end RM
namespace RM
open PySem L2
def dS (r:List Int)(i:Nat):Bool:=decide ((i:Int)∈r)
def LX:List D->FR:=aZ 5 2 (gH A9)
def C3 (O:OM.Ord n l)(ht:t < n):(!decide (mk (nI (dS r) t) n=mk (dS r) n) && decide (mk (dS r) n &&& mk (fM l t) n=mk (fM l t) n))=eT l r t:=by
 unfold eT
 congr 1
 ·congr 1
  rw[PZ,mk_eq]
  constructor
  ·intro h
   have:=h t ht
   unfold nI dS at this
   simp at this
   exact this
  ·intro h i hi
   unfold nI dS
   by_cases e:i=t
   ·subst e;simp[h]
   ·simp[e]
 ·rw[PZ,HQ]
  constructor
  ·intro h
   rw[List.eq_nil_iff_forall_not_mem]
   intro a ha
   obtain⟨h1,h2⟩:=gK.mp ha
   have hw:=(O.wn _ h1).1
   simp only at hw
   have e:((a.toNat:Nat):Int)=a:=by omega
   have:=h a.toNat (by omega) (by unfold fM;rw[e];exact N3 h1)
   unfold dS at this
   rw[e] at this
   exact h2 (OS this)
  ·intro h i hi hg
   unfold dS
   refine N3 (Classical.byContradiction λq=>?_)
   have:(i:Int)∈zd l r t:=gK.mpr ⟨OS hg,q⟩
   rw[h] at this;cases this
def ES (O:OM.Ord n l)(r:List Int):∃s3 s4,ja (.two 3 4) (i9 ((([1] ++ ([3] ++ [])) ++ []) ++ (([] ++ []) ++ [])) (Iv (cB (f2 (aq A9 (aa (gv 1) (aa (gv 3) af))) (gv 1) (cV true))) (cB (f2 (f2 (gv 1) (gv 4) B7) (gv 4) (cV false))))
  (mw 2 [3] (gv 3)) jT) (cO ((List.range n).map λb=>mI (fM l b) n)) [.fz (gX n (fM l)),.fz (mI (dS r) n),.ow (.list []),.no,.no] 0=.nx [.fz (gX n (fM l)),.fz (mI (dS r) n),.ow (.list ((dO l r n).map int)),s3,s4] 0:=by
 have h8:=O.hi
 obtain⟨env',β',ef,s3,s4,rfl,rfl⟩:=fB (t:=.two 3 4) (m:=i9 ((([1] ++ ([3] ++ [])) ++ []) ++ (([] ++ []) ++ [])) (Iv (cB (f2 (aq A9 (aa (gv 1) (aa (gv 3) af))) (gv 1) (cV true))) (cB (f2 (f2 (gv 1) (gv 4) B7) (gv 4) (cV false))))
  (mw 2 [3] (gv 3)) jT) (ds:=cO ((List.range n).map λb=>mI (fM l b) n)) (k:=0)
  (λk env b=>∃s3 s4,env= [.fz (gX n (fM l)),.fz (mI (dS r) n),.ow (.list ((dO l r k).map int)),s3,s4]/\b=0)
  (env:=[.fz (gX n (fM l)),.fz (mI (dS r) n),.ow (.list []),.no,.no]) (β:=0) ⟨.no,.no,rfl,rfl⟩ (by
   rintro k d env b hk ⟨s3,s4,rfl,rfl⟩
   unfold cO at hk
   rw[QO,Oa] at hk
   have hkn:k < n:=by
    by_cases h:k < n
    ·exact h
    ·rw[QL (by simp;omega)] at hk;cases hk
   rw[Qf hkn] at hk
   cases hk
   refine⟨[.fz (gX n (fM l)),.fz (mI (dS r) n),.ow (.list ((dO l r (0 + k)).map int)),.fz (.int k),.fz (mI (fM l k) n)],rfl,?_⟩
   rw[Pn]
   have et:Iv (cB (f2 (aq A9 (aa (gv 1) (aa (gv 3) af))) (gv 1) (cV true))) (cB (f2 (f2 (gv 1) (gv 4) B7) (gv 4) (cV false))) (vl [.fz (gX n (fM l)),.fz (mI (dS r) n),.ow (.list ((dO l r k).map int)),.fz (.int k),.fz (mI (fM l k) n)]) 0=.ok (eT l r k) 0:=by
    rw[<-C3 O hkn]
    refine IP (dA _ _ _ _ (aI (x:=mI (nI (dS r) k) n) (y:=mI (dS r) n) (au (ds:=[mI (dS r) n,.int k]) rfl (Jr h8 hkn)) rfl ?_)) (dA _ _ _ _ (aI (x:=.int ((mk (dS r) n &&& mk (fM l k) n:Nat):Int)) (y:=mI (fM l k) n) (aI (x:=mI (dS r) n) (y:=mI (fM l k) n) rfl rfl ?_) rfl ?_))
    ·unfold mI;rw[pI,N1 rfl];congr 3;rw[PZ];omega
    ·show some (int (Builtin.bitAnd _ _))=_
     rw[yq]
    ·unfold mI;rw[pI,N8 OG];congr 2;rw[PZ];omega
   cases c:eT l r (k:Int) with
   |true=>
    rw[c] at et
    refine⟨[.fz (gX n (fM l)),.fz (mI (dS r) n),.ow (.list ((dO l r (k + 1)).map int)),.fz (.int k),.fz (mI (fM l k) n)],0,?_,_,_,rfl,rfl⟩
    rw[l9 et]
    have hz:=mP l r k
    rw[show bp ((([1] ++ ([3] ++ [])) ++ []) ++ (([] ++ []) ++ [])) [.fz (gX n (fM l)),.fz (mI (dS r) n),.ow (.list ((dO l r k).map int)),.fz (.int k),.fz (mI (fM l k) n)]= [.fz (gX n (fM l)),.fz (mI (dS r) n),.ow (.list ((dO l r k).map int)),.fz (.int k),.fz (mI (fM l k) n)] from rfl]
    rw[pJ (i:=2) (ds:=(dO l r k).map int) (d:=.int k) (β':=0) (by rfl) rfl (by rfl) (by rw[NZ];omega),si,N1 c,OA]
    rfl
   |false=>
    rw[c] at et
    refine⟨[.fz (gX n (fM l)),.fz (mI (dS r) n),.ow (.list ((dO l r (k + 1)).map int)),.fz (.int k),.fz (mI (fM l k) n)],0,?_,_,_,rfl,rfl⟩
    rw[lJ et,si,c,show dO l r k ++ (if false=true then [(k:Int)] else [])=dO l r k by simp]
    rfl)
 have hle:(cO ((List.range n).map λb=>mI (fM l b) n)).length=n:=by unfold cO;simp
 rw[Pn,hle] at ef
 exact⟨s3,s4,ef⟩
def M9 (O:OM.Ord n l)(r:List Int):LX [gX n (fM l),mI (dS r) n]=.ok (.list ((dO l r n).map int)) true:=by
 show fin (gH A9 [.fz (gX n (fM l)),.fz (mI (dS r) n),.no,.no,.no] 0)=_
 unfold gH
 rw[aF (env':=[.fz (gX n (fM l)),.fz (mI (dS r) n),.ow (.list []),.no,.no]) (β':=0) (by rw[kY,lp (ds:=[]) an];rfl)]
 obtain⟨s3,s4,e⟩:=ES O r
 rw[aF (env':=[.fz (gX n (fM l)),.fz (mI (dS r) n),.ow (.list ((dO l r n).map int)),s3,s4]) (β':=0) (by
  rw[dX (env:=[.fz (gX n (fM l)),.fz (mI (dS r) n),.ow (.list []),.no,.no]) (ds:=cO ((List.range n).map λb=>mI (fM l b) n)) (β1:=0) rfl]
  exact e)]
 rfl
noncomputable def Nf:List D->FR:=aZ 6 2 (jd LX A9)
structure Et (n:Nat)(l:List Pr)(late r:List Int):Prop where
 beg:Eu n l r
 late:∀q x,(q ++ [x]) <+:r->x∈late->∀y:Int,(0<=y/\y < n)->eT l q y=true->y∈late
def nJ (neg:Bool)(a:Int)(s:List Int):rV neg (.int a) (.list (s.map int))=some (.bool (if neg then !decide (a∈s) else decide (a∈s))):=by
 unfold rV
 simp only[hG,BD,any_ints]
 rfl
def Et.more {n:Nat}{l:List Pr}{late r:List Int}{x:Int}(R:Et n l late r)(hx:0<=x/\x < (n:Int))(hf:eT l r x=true)(hl:x∈late->∀y:Int,(0<=y/\y < n)->eT l r y=true->y∈late):Et n l late (r ++ [x]):=by
 refine⟨R.beg.more hx hf,λq z hp hz y hy hfy=>?_⟩
 rcases List.prefix_concat_iff.mp hp with e |hp
 ·have:=List.append_inj' e rfl
  obtain⟨rfl,e2⟩:=this
  cases e2
  exact hl hz y hy hfy
 ·exact R.late q z hp hz y hy hfy
def Ja (n:Nat):mI (dS []) n=.int 0:=by
 unfold mI
 congr 1
 have:mk (dS []) n=0:=by
  induction n with
  |zero=>rfl
  |succ m ih=>unfold mk;rw[ih];simp[dS]
 rw[this];rfl
def Hs {n:Nat}{r:List Int}{x:Int}(h:0<=x/\x < n):mI (nI (dS r) x.toNat) n=mI (dS (r ++ [x])) n:=by
 unfold mI
 congr 2
 rw[mk_eq]
 intro i hi
 unfold nI dS
 rw[Pc]
 simp only[QU,Oq,Of,N6]
 constructor
 ·rintro (h |h)
  ·exact .inl h
  ·exact .inr (by omega)
 ·rintro (h |h)
  ·exact .inl h
  ·exact .inr (by omega)
def MK {n:Nat}{l:List Pr}{late:List Int}(O:OM.Ord n l)(hz:late.length<=100):∃r,Nf [gX n (fM l),.list (late.map int)]=.ok (tupI r) false/\Row n l r/\Et n l late r:=by
 have h8:=O.hi
 show ∃r,fin (jd LX A9 [.fz (gX n (fM l)),.fz (.list (late.map int)),.no,.no,.no,.no] 0)=.ok (tupI r) false/\Row n l r/\Et n l late r
 unfold jd
 rw[aF (env':=[.fz (gX n (fM l)),.fz (.list (late.map int)),.ow (.list (([]:List Int).map int)),.no,.no,.no]) (β':=0) (by rw[kY,lp (ds:=[]) an];rfl)]
 rw[aF (env':=[.fz (gX n (fM l)),.fz (.list (late.map int)),.ow (.list (([]:List Int).map int)),.fz (mI (dS []) n),.no,.no]) (β':=0) (by rw[ij,Ja];rfl)]
 obtain⟨env',β',ew,r,s4,s5,rfl,rfl,hr,R⟩:=iV (L:=[] ++ []) (t:=cB (f2 (f1 (gv 2) bL) (f1 (gv 0) bL) xZ))
  (m:=aH (bS 4 ([0] ++ ([3] ++ [])) (aq LX (aa (gv 0) (aa (gv 3) af))))
   (aH (bS 5 ([] ++ []) (aP 1 [1] (.nm 0) (bq (gv 4)) (cB (f2 (gv 0) (gv 1) (rV true))) (gv 0)))
   (aH (mw 2 (([] ++ []) ++ []) (f2 (f2 (gv 5) (gv 4) dH) (cst (.int 0)) cn))
   (bS 3 ([3] ++ (([] ++ []) ++ [])) (aq A9 (aa (gv 3) (aa (f2 (gv 2) (f1 (cst (.int 1)) xf) cn) af)))))))
  (λk env b=>∃r s4 s5,env= [.fz (gX n (fM l)),.fz (.list (late.map int)),.ow (.list (r.map int)),.fz (mI (dS r) n),s4,s5]/\b=0/\Et n l late r/\k=n - r.length)
  (λenv b=>∃r s4 s5,env= [.fz (gX n (fM l)),.fz (.list (late.map int)),.ow (.list (r.map int)),.fz (mI (dS r) n),s4,s5]/\b=0/\Row n l r/\Et n l late r)
  (n:=1000) (k:=n) (env:=[.fz (gX n (fM l)),.fz (.list (late.map int)),.ow (.list (([]:List Int).map int)),.fz (mI (dS []) n),.no,.no]) (β:=0) (by omega)
  ⟨[],.no,.no,rfl,rfl,⟨⟨P5,(λx hx=>by cases hx),(λp _ h=>by cases h)⟩,λq x hp=>by simp at hp⟩,by simp⟩ (by
   rintro k env b ⟨r,s4,s5,rfl,rfl,R,rfl⟩
   have hrl:=R.beg.len
   have et:cB (f2 (f1 (gv 2) bL) (f1 (gv 0) bL) xZ) (vl [.fz (gX n (fM l)),.fz (.list (late.map int)),.ow (.list (r.map int)),.fz (mI (dS r) n),s4,s5]) 0=.ok (decide ((r.length:Int) < n)) 0:=by
    refine dA _ _ _ _ (aI (x:=.int r.length) (y:=.int n) (β1:=0) ?_ ?_ rfl)
    ·rw[i7 (ds:=r.map int) rfl,NZ]
    ·rw[i7 (ds:=(List.range n).map λb=>mI (fM l b) n) rfl,NZ,O6]
   refine⟨_,_,et,?_⟩
   by_cases hlt:r.length < n
   ·refine .inr ⟨N3 (by omega),?_⟩
    show ∃env2 β2 k',aH _ _ [.fz (gX n (fM l)),.fz (.list (late.map int)),.ow (.list (r.map int)),.fz (mI (dS r) n),s4,s5] 0=.nx env2 β2/\k' < n - r.length/\_
    rw[aF (env':=[.fz (gX n (fM l)),.fz (.list (late.map int)),.ow (.list (r.map int)),.fz (mI (dS r) n),.fz (.list ((dO l r n).map int)),s5]) (β':=0) (by rw[ij,au (ds:=[gX n (fM l),mI (dS r) n]) (β1:=0) rfl (M9 O r)];rfl)]
    have ec:aP 1 [1] (.nm 0) (bq (gv 4)) (cB (f2 (gv 0) (gv 1) (rV true))) (gv 0) (vl [.fz (gX n (fM l)),.fz (.list (late.map int)),.ow (.list (r.map int)),.fz (mI (dS r) n),.fz (.list ((dO l r n).map int)),s5]) 0=.ok (.list (((dO l r n).filter λx=> !decide (x∈late)).map int)) 0:=by
     refine dF (l:=dO l r n) (e:=int) (λx=> !decide (x∈late)) int rfl (by have:=mP l r n;omega) λx hx=>⟨_,rfl,?_,λ_=>rfl⟩
     exact dA _ _ _ _ (aI (x:=.int x) (y:=.list (late.map int)) rfl rfl (nJ true x late))
    generalize hEE:((dO l r n).filter λx=> !decide (x∈late))=EE at ec
    rw[aF (env':=[.fz (gX n (fM l)),.fz (.list (late.map int)),.ow (.list (r.map int)),.fz (mI (dS r) n),.fz (.list ((dO l r n).map int)),.fz (.list (EE.map int))]) (β':=0) (by rw[ij,ec];rfl)]
    have hne:dO l r n≠ []:=R.beg.free O hlt
    have hEl:EE.length<=n:=by rw[<-hEE];exact Pl (O5 _ _) (mP l r n)
    have hfl:=mP l r n
    obtain⟨x,L,hx⟩:∃x L,EE ++ dO l r n=x :: L:=List.exists_cons_of_ne_nil (by simp[hne])
    have hxm:x∈dO l r n:=by
     have:x∈EE ++ dO l r n:=by rw[hx];exact N0 ..
     rcases Of.mp this with h |h
     ·rw[<-hEE] at h;exact (Oi.mp h).1
     ·exact h
    obtain⟨hm1,hm2⟩:=Oi.mp hxm
    have hxr:=aV.mp hm1
    have hlate:x∈late->∀y:Int,(0<=y/\y < n)->eT l r y=true->y∈late:=λhxl y hy hfy=>by
     apply Classical.byContradiction
     intro hn
     have hyE:y∈EE:=by rw[<-hEE];exact Oi.mpr ⟨Oi.mpr ⟨aV.mpr hy,hfy⟩,by simp[hn]⟩
     cases hE:EE with
     |nil=>rw[hE] at hyE;cases hyE
     |cons z Z=>
      rw[hE,List.cons_append] at hx
      have e1:=(List.cons.inj hx).1
      have:z∈EE:=by rw[hE];exact N0 ..
      rw[<-hEE] at this
      have:=(Oi.mp this).2
      rw[e1] at this
      simp[hxl] at this
    have R':=R.more hxr hm2 hlate
    rw[aF (env':=[.fz (gX n (fM l)),.fz (.list (late.map int)),.ow (.list ((r ++ [x]).map int)),.fz (mI (dS r) n),.fz (.list ((dO l r n).map int)),.fz (.list (EE.map int))]) (β':=0) ?bb]
    case bb=>
     have ei:f2 (f2 (gv 5) (gv 4) dH) (cst (.int 0)) cn (vl [.fz (gX n (fM l)),.fz (.list (late.map int)),.ow (.list (r.map int)),.fz (mI (dS r) n),.fz (.list ((dO l r n).map int)),.fz (.list (EE.map int))]) 0=.ok (.int x) 0:=by
      refine aI (x:=.list ((EE ++ dO l r n).map int)) (y:=.int 0) (aI (x:=.list (EE.map int)) (y:=.list ((dO l r n).map int)) rfl rfl ?_) rfl ?_
      ·rw[kn (by rw[NZ,NZ];omega),OA]
      ·rw[hx];exact kC (xs:=.int x :: L.map int) (j:=0) rfl
     rw[pJ (i:=2) (ds:=r.map int) (d:=.int x) (β':=0) (by rfl) ei (by rfl) (by rw[NZ];omega),OA]
     rfl
    have e1:(x.toNat:Int)=x:=by omega
    have el:f2 (gv 2) (f1 (cst (.int 1)) xf) cn (vl [.fz (gX n (fM l)),.fz (.list (late.map int)),.ow (.list ((r ++ [x]).map int)),.fz (mI (dS r) n),.fz (.list ((dO l r n).map int)),.fz (.list (EE.map int))]) 0=.ok (.int (x.toNat:Int)) 0:=by
     refine aI (x:=.list ((r ++ [x]).map int)) (y:=.int (-1)) rfl rfl ?_
     show kG ((r ++ [x]).map int) (-1)=_
     rw[e1]
     unfold kG t6
     rw[N8 (by omega),N1 (by simp;omega)]
     show ((r ++ [x]).map int)[((-1:Int) + ((((r ++ [x]).map int).length:Nat):Int)).toNat]? =_
     rw[show ((-1:Int) + ((((r ++ [x]).map int).length:Nat):Int)).toNat=r.length by simp;omega,OA,OK (by simp)]
     simp
    refine⟨[.fz (gX n (fM l)),.fz (.list (late.map int)),.ow (.list ((r ++ [x]).map int)),.fz (mI (dS (r ++ [x])) n),.fz (.list ((dO l r n).map int)),.fz (.list (EE.map int))],0,n - (r ++ [x]).length,?_,by rw[Ow,List.length_singleton];omega,_,_,_,rfl,rfl,R',rfl⟩
    rw[ij,au (ds:=[mI (dS r) n,.int (x.toNat:Int)]) (β1:=0) (ac rfl (ac el an)) (Jr h8 (by omega)),Hs hxr];rfl
   ·refine .inl ⟨Oe (by omega),r,s4,s5,rfl,rfl,R.beg.row O (by omega),R⟩)
 rw[aF (env':=[.fz (gX n (fM l)),.fz (.list (late.map int)),.ow (.list (r.map int)),.fz (mI (dS r) n),s4,s5]) (β':=0) ew]
 exact⟨r,rfl,hr,R⟩
structure WP (r:SO)(Q:SO->Prop):Prop where
 out:Q r
section
variable {m m' m1 m2:SF}{env env1:En}{β β1 β2 z:Int}{Q:SO->Prop}{f fa fb:VF D}{t:VF Bool}{d e:D}{L La Lb:List Nat}{i j:Nat}{c:Bool}
def wp_at (env1:En)(e:env=env1)(k:WP (m env1 β) Q):WP (m env β) Q:=by rw[e];exact k
def wp_seq (h:m env β=.nx env1 β1)(k:WP (m' env1 β1) Q):WP (aH m m' env β) Q:=by rw[aF h];exact k
theorem Jp (h:WP (aH m jT env β) Q):WP (m env β) Q:=by
 obtain⟨h⟩:=h
 unfold aH at h
 cases e:m env β with
 |_=>rw[e] at h;exact⟨h⟩
def l4 (q:Q (.nx env β)):WP (jT env β) Q:=⟨q⟩
def nQ (h:f (vl env) β=.ok d β1)(k:WP (m' ((bp L env).set i (.fz d)) β1) Q):WP (aH (bS i L f) m' env β) Q:=wp_seq (by unfold bS;rw[h];rfl) k
def Gw (h:f (vl env) β=.ok d β1)(k:WP (m' ((bp L env).set i (.ow d)) β1) Q):WP (aH (jF i L f) m' env β) Q:=wp_seq (by unfold jF;rw[h];rfl) k
def lQ (h:f (vl env) β=.ok d β1)(k:WP (m' (bp L env) β1) Q):WP (aH (jk L f) m' env β) Q:=wp_seq (by unfold jk;rw[h];rfl) k
def gB (h:t (vl env) β=.ok false β1)(k:WP (m' (bp L env) β1) Q):WP (aH (i9 L t m1 jT) m' env β) Q:=wp_seq (by rw[lJ h];rfl) k
def lT (h:t (vl env) β=.ok true β1)(k:WP (aH m1 m' (bp L env) β1) Q):WP (aH (i9 L t m1 m2) m' env β) Q:=by
 have:aH (i9 L t m1 m2) m' env β=aH m1 m' (bp L env) β1:=by unfold aH;rw[l9 h]
 rw[this];exact k
def LB (h:t (vl env) β=.ok true β1)(k:WP (m1 (bp L env) β1) Q):WP (i9 L t m1 m2 env β) Q:=by rw[l9 h];exact k
def uy (h:t (vl env) β=.ok false β1)(k:WP (m2 (bp L env) β1) Q):WP (i9 L t m1 m2 env β) Q:=by rw[lJ h];exact k
def jw (h:f (vl env) β=.ok d β1)(q:Q (.rt d false β1)):WP (bF f env β) Q:=⟨by unfold bF;rw[h];exact q⟩
def nv (h:f (vl env) β=.ok d β1)(q:Q (.rt d false β1)):WP (aH (bF f) m' env β) Q:=⟨by unfold aH bF;rw[h];exact q⟩
def Gy (h:f (vl env) β=.ok d β1)(q:Q (.rt d true β1)):WP (lI f env β) Q:=⟨by unfold lI;rw[h];exact q⟩
def fS {R:FR}(h:WP (m env β) λr=>fin r=R):fin (m env β)=R:=h.out
def mD {t:Tg}(I:Nat->En->Int->Prop)(hi:fi (vl env) β=.ok ds β1)(h0:I 0 (bp L env) β1)
  (hs:∀i d env β,ds[i]? =some d->I i env β->∃env1,fQ t d env=some env1/\WP (m env1 β) λr=>∃env2 β2,r=.nx env2 β2/\I (i + 1) env2 β2)
  (k:∀env β,I ds.length env β->WP (m' env β) Q):WP (aH (cM t L fi m) m' env β) Q:=by
 obtain⟨env',β',e,h⟩:=fB (t:=t) (m:=m) I (ds:=ds) (k:=0) h0 λi d env β hd h=>by
  rw[Pn] at h
  obtain⟨env1,e1,⟨env2,β2,e2,h2⟩⟩:=hs i d env β hd h
  exact⟨env1,e1,env2,β2,e2,by rw[Pn];exact h2⟩
 rw[Pn] at h
 exact wp_seq ((dX hi).trans e) (k _ _ h)
end
def CI (c:Int)(hc:0<=c/\c<=100)(ns:List Int)(vs:List Nv)(β:Int)(h:gv 0 vs β=.ok (dW ns) β):∃m:Nat,m<=101/\i6 (f2 (cst (.int 1)) (f2 (f1 (gv 0) bL) (cst (.int c)) (xt λi j=>.int (if j < i then j else i))) (xt λi j=>.int (if j > i then j else i))) vs β=.ok (cU 0 m) β:=by
 have e1:f2 (cst (.int 1)) (f2 (f1 (gv 0) bL) (cst (.int c)) (xt λi j=>.int (if j < i then j else i))) (xt λi j=>.int (if j > i then j else i)) vs β=.ok (.int (if (if c < ((ns.map int).length:Int) then c else ((ns.map int).length:Int)) > 1 then (if c < ((ns.map int).length:Int) then c else ((ns.map int).length:Int)) else 1)) β:=
  aI (x:=.int 1) rfl (aI (x:=.int (ns.map int).length) (y:=.int c) (cK h rfl) rfl rfl) rfl
 generalize ((ns.map int).length:Nat)=k at e1
 refine⟨(if (if c < (k:Int) then c else (k:Int)) > 1 then (if c < (k:Int) then c else (k:Int)) else 1).toNat,?_,lj (e1.trans ?_) ?_⟩
 ·split <;> split <;> omega
 ·congr 2
  split <;> split <;> omega
 ·split <;> split <;> omega
def vQ :(sortI r=du n)↔r.Perm (du n):=by
 constructor
 ·intro h;rw[<-h];exact (sortI_perm r).symm
 ·intro h;exact (gr h.symm ((IU n).imp λh=>Int.le_of_lt h)).symm
def It (d:D):Prop:=dq d=false/\Sq 400 8 d/\Bf d
def Th (d:D):Prop:=Ge d/\Sq 10000 9 d/\Bf d
def Ap (P:D->Prop)(k:Nat)(es:List D):Prop:=es.length<=k/\∀x,x∈es->P x
abbrev Al:Nat->List D->Prop:=Ap It
def Em.it (h:Em d):It d:=⟨h.scr,h.sq.mono (by omega) (by omega),h.bf⟩
def IT (h: -1<=i/\i<=9):It (.int i):=(zR h).it
def E4 {k:Nat}{r:List Int}(hl:r.length<=k)(h:∀x,x∈r->0<=x/\x < 9):Al k (r.map int):=⟨by rw[NZ];exact hl,λx hx=>by
 obtain⟨y,hy,rfl⟩:=N7.mp hx
 exact IT (by have:=h y hy;omega)⟩
def Ap.tup (h:Al k a)(hk:k<=24):Th (.tuple a):=by
 have:=h.1
 refine⟨IF (by omega) λx hx=>(h.2 x hx).1,(CC (c:=400) (k:=8) λd hd=>(h.2 d hd).2.1).mono ?_ (by omega),Ea λd hd=>(h.2 d hd).2.2⟩
 have:(400 + 2) * a.length<=402 * 24:=PK (by omega) (by omega)
 omega
def HI (hl:r.length<=9)(h:∀x,x∈r->0<=x/\x < 9):It (tupI r):=by
 have sm:∀d,d∈r.map int->Em d:=λd hd=>by
  obtain⟨y,hy,rfl⟩:=N7.mp hd
  exact zR (by have:=h y hy;omega)
 refine⟨rfl,(CC (c:=20) (k:=0) λd hd=>(sm d hd).sq).mono ?_ (by omega),Ea λd hd=>(sm d hd).bf⟩
 rw[NZ]
 have:(20 + 2) * r.length<=22 * 9:=PK (by omega) hl
 omega
def LQ {n:Nat}{r:List Int}(h8:n<=8)(hp:r.Perm (du n)):r.length=n/\∀x,x∈r->0<=x/\x < 9:=⟨by rw[hp.length_eq,bY],λx hx=>by have:=aV.mp (hp.mem_iff.mp hx);omega⟩
def BY {ds:List D}{k:Nat}(h:k < ds.length):∃d,ds[k]? =some d/\d∈ds/\kG ds (k:Int)=some d:=⟨ds[k],NW h,Pu h,kC (NW h)⟩
def wJ (h1:fa vs β=.ok (.list a) β1)(h2:fb vs β1=.ok (.list b) β2)(hz:a.length + b.length<=1000):f2 fa fb dH vs β=.ok (.list (a ++ b)) β2:=aI h1 h2 (kn (by omega))
def NF (h:fa vs β=.ok (.int (i:Nat)) β):f2 fa (cst (.int 1)) cD vs β=.ok (.int ((i + 1:Nat):Int)) β:=aI h rfl (by show some (int ((i:Int) + 1))=_;rw[show ((i + 1:Nat):Int)=(i:Int) + 1 by omega])
def Ig (d:D):Prop:=Ge d/\Sq 400 8 d/\Bf d
def HS (hl:r.length<=9)(h:∀x,x∈r->0<=x/\x < 9):Ig (tupI r):=⟨(E4 (k:=9) hl h).tup (by omega) |>.1,(HI hl h).2⟩
def BV (l:List Pr)(ns:List Int)(t:Int):Bool:= !(ns.any λa=>mL l (a,t))
def Hf:List D->FR:=aZ 3 3 (tP Hh)
def EV {fa:VF D}{vs:List Nv}{β:Int}{l:List Int}{f:Int->Bool}(h:fa vs β=.ok (.list (l.map λq=>PyData.bool (f q))) β):f1 fa (bK λbs=>bs.any id) vs β=.ok (.bool (l.any f)) β:=cK h (by simp only[bK];rw[eY];simp[List.any_map])
def J9 {n:Nat}{l:List Pr}{ns:List Int}{t:Int}(hz:ns.length<=1000):Hf [aw n l,.list (ns.map int),.int t]=.ok (.bool (BV l ns t)) false:=by
 show fin (tP Hh [.fz (aw n l),.fz (.list (ns.map int)),.fz (.int t)] 0)=_
 unfold tP
 have ec:aP 1 [0,2] (.nm 0) (bq (gv 1)) kL (aq Hh (aa (gv 1) (aa (gv 0) (aa (gv 2) af)))) (vl [.fz (aw n l),.fz (.list (ns.map int)),.fz (.int t)]) 0=.ok (.list (ns.map λa=>PyData.bool (mL l (a,t)))) 0:=
  bI (l:=ns) (e:=int) (λa=>PyData.bool (mL l (a,t))) rfl hz λa _=>⟨_,rfl,au (ds:=[aw n l,.int a,.int t]) rfl (Lx n l a t)⟩
 rw[kB,cK (EV ec) (show yk (.bool _)=some (.bool (!_)) from rfl)];rfl
def KR (n:Nat)(l:List Pr)(ns:List Int):Bool:= !ns.isEmpty && (decide (ns=sI ns) && ns.all (BV l ns))
def va (n:Nat)(l:List Pr)(d:D):Bool:=match d with
 | .list ds=>ds.all (λe=>eQ e n) && (match fw ds with
  |some ns=>KR n l ns
  |none=>false)
 |_=>false
def Gc (d:D):Prop:=dq d=false/\∀ds,d=.list ds->ds.length<=100/\∀e,e∈ds->dq e=false
theorem p6 :∀{ds:List D},ds.all (λe=>eQ e n)=true->∃ns:List Int,ds=ns.map int/\∀k,k∈ns->0<=k/\k < (n:Int)
 | [],_=>⟨[],rfl,λk h=>by cases h⟩
 |d :: ds,h=>by
  rw[all_cons,Om] at h
  obtain⟨ns,rfl,hn⟩:=p6 h.2
  have h1:=h.1
  cases d with
  |int i=>
   refine⟨i :: ns,rfl,λk hk=>?_⟩
   rcases NX.mp hk with rfl |hk
   ·exact OS h1
   ·exact hn k hk
  |_=>cases h1
def Iw (h:∀k,k∈ns->0<=k/\k < 8):iG (.list (ns.map int))=some (.list ((sI ns).map int)):=by
 unfold iG
 simp only[hG,c6]
 rw[N1]
 rw[Ot]
 intro k hk
 unfold Mw
 rw[N3 (h k hk).1,N3 (h k hk).2];rfl
noncomputable def HZ:List D->FR:=aZ 2 2 (kI df Hf)
theorem Kj (h8:n<=8)(h:Gc d):HZ [d,aw n l]=.ok (.bool (va n l d)) false:=by
 show fin (kI df Hf [.fz d,.fz (aw n l)] 0)=_
 refine fS ?_
 unfold kI
 have e1:=K6 (fa:=gv 0) (vs:=vl [.fz d,.fz (aw n l)]) (β:=0) rfl h.1
 cases q:IX d with
 |false=>
  rw[q] at e1
  refine lT (CJ (cQ (fF e1))) (nv rfl ?_)
  cases d <;> first |rfl |cases q
 |true=>
  rw[q] at e1
  obtain⟨ds,rfl⟩:=Gf q
  obtain⟨hl,hs⟩:=h.2 ds rfl
  have t2:cB (f2 (f1 (gv 0) bL) (cst (.int 0)) (cV false)) (vl [.fz (.list ds),.fz (aw n l)]) 0=.ok (decide ((ds.length:Int)=0)) 0:=cF (neg:=false) (i7 rfl) rfl
  by_cases z:ds= []
  ·subst z
   exact lT (kO (cQ (fF e1)) t2) (nv rfl rfl)
  ·rw[Oe (by have:=List.length_pos_iff.mpr z;omega)] at t2
   refine gB (kO (cQ (fF e1)) t2) (wp_at [.fz (.list ds),.fz (aw n l)] rfl ?_)
   have ec:aP 1 [1] (.nm 0) (bq (gv 0)) kL (aq df (aa (gv 0) (aa (f2 (gv 1) (cst (.int 0)) cn) af))) (vl [.fz (.list ds),.fz (aw n l)]) 0=.ok (.list (ds.map λe=>PyData.bool (eQ e n))) 0:=
    sg (λe=>PyData.bool (eQ e n)) rfl (by omega) λe he=>⟨_,rfl,au (ds:=[e,.int n]) (ac rfl (ac (Eo (n:=n) (l:=l) rfl) an)) (pF (hs e he))⟩
   have ea:=zp ec
   cases b:ds.all (λe=>eQ e n) with
   |false=>
    rw[b] at ea
    refine lT (CJ (cQ (fF ea))) (nv rfl ?_)
    unfold va
    dsimp only
    rw[b];rfl
   |true=>
    rw[b] at ea
    obtain⟨ns,rfl,hn⟩:=p6 b
    have t3:cB (f2 (gv 0) (f1 (gv 0) iG) (cV true)) (vl [.fz (.list (ns.map int)),.fz (aw n l)]) 0=.ok (!decide (ns=sI ns)) 0:=dA _ _ _ _ (aI rfl (cK rfl (Iw λk hk=>by have:=hn k hk;omega)) (ly true ns (sI ns)))
    have ne:ns.isEmpty=false:=by
     cases ns with
     |nil=>exact absurd rfl z
     |cons _ _=>rfl
    have eB:va n l (.list (ns.map int))=KR n l ns:=by
     unfold va
     dsimp only
     rw[b,c6];rfl
    rw[eB]
    unfold KR
    rw[ne]
    by_cases s:ns=sI ns
    ·rw[N3 s] at t3
     refine gB (kO (cQ (fF ea)) t3) (wp_at [.fz (.list (ns.map int)),.fz (aw n l)] rfl ?_)
     rw[NZ] at hl
     have ef:aP 1 [1,0] (.nm 0) (bq (gv 0)) kL (aq Hf (aa (gv 1) (aa (gv 2) (aa (gv 0) af)))) (vl [.fz (.list (ns.map int)),.fz (aw n l)]) 0=.ok (.list (ns.map λt=>PyData.bool (BV l ns t))) 0:=
      bI (l:=ns) (e:=int) (λt=>PyData.bool (BV l ns t)) rfl (by omega) λt _=>⟨_,rfl,au (ds:=[aw n l,.list (ns.map int),.int t]) rfl (J9 (by omega))⟩
     refine jw (zq ef) ?_
     rw[N3 s];rfl
    ·rw[Oe s] at t3
     refine lT (kO (cQ (fF ea)) t3) (nv rfl ?_)
     rw[Oe s];rfl
def KQ {q t:List Int}{a:Int}(h:a∈q):(q ++ t).idxOf a=q.idxOf a:=by rw[Qo,N1 h]
def Eb {q t:List Int}{a:Int}(h:a∉q):(q ++ t).idxOf a=t.idxOf a + q.length:=by rw[Qo,N8 h]
theorem under (O:OM.Ord n l)(R:Row n l r):∀(k:Nat) (y:Int),r.idxOf y<=k->(0<=y/\y < n)->y∉q->∃z:Int,(0<=z/\z < n)/\eT l q z=true/\(z=y\/(z,y)∈l):=by
 intro k
 induction k with
 |zero=>
  intro y hk hy hq
  refine⟨y,hy,?_,.inl rfl⟩
  unfold eT
  rw[Oe hq,N3 (List.eq_nil_iff_forall_not_mem.mpr λp hp=>?_)];rfl
  have:=OS (Ot.mp R.2 _ (gK.mp hp).1)
  dsimp only at this
  omega
 |succ k ih=>
  intro y hk hy hq
  by_cases e:zd l q y= []
  ·refine⟨y,hy,?_,.inl rfl⟩
   unfold eT
   rw[Oe hq,N3 e];rfl
  ·obtain⟨p,hp⟩:=QV _ e
   obtain⟨h1,h2⟩:=gK.mp hp
   have lt:=OS (Ot.mp R.2 _ h1)
   dsimp only at lt
   obtain⟨z,hz,hf,hzp⟩:=ih p (by omega) (O.wn _ h1).1 h2
   refine⟨z,hz,hf,.inr ?_⟩
   rcases hzp with rfl |hzp
   ·exact h1
   ·exact O.tr _ _ _ hzp h1
def FI {n:Nat}{l:List Pr}{cs r:List Int}(O:OM.Ord n l)(R:Row n l r)(L:Et n l cs r)(hc:∀a b,a∈cs->b∈cs->mL l (a,b)=false){x y:Int}(hx:x∈cs)(hxn:0<=x/\x < n)(hy:0<=y/\y < (n:Int))(ha:mL l (x,y)=true):r.idxOf y < r.idxOf x:=by
 have nd:r.Nodup:=R.1.nodup_iff.mpr (fX n)
 have mx:x∈r:=R.1.mem_iff.mpr (aV.mpr hxn)
 have my:y∈r:=R.1.mem_iff.mpr (aV.mpr hy)
 unfold mL at ha
 simp only[Om,Pk,Pt] at ha
 obtain⟨hne,h1,h2⟩:=ha
 rcases OW (r.idxOf y) (r.idxOf x) with c |c
 ·exact c
 exfalso
 obtain⟨q,t,e⟩:=List.append_of_mem mx
 have hxq:x∉q:=λz=>by
  rw[e] at nd
  have:=(Rj.mp nd).2.2 x z x (N0 ..)
  exact this rfl
 have hyq:y∉q:=λz=>by
  have i1:r.idxOf y < q.length:=by rw[e,KQ z];exact Pp.mpr z
  have i2:r.idxOf x=q.length:=by rw[e,Eb hxq];simp
  omega
 have pre:(q ++ [x]) <+:r:=⟨t,by rw[e];simp⟩
 obtain⟨z,hz,hf,hzy⟩:=under O R (r.idxOf y) y (N4 _) hy hyq
 have zc:=L.late q x pre hx z hz hf
 have fx:∀p,(p,x)∈l->p∈q:=λp hp=>by
  have lt:=OS (Ot.mp R.2 _ hp)
  dsimp only at lt
  have mp:p∈r:=R.1.mem_iff.mpr (aV.mpr (O.wn _ hp).1)
  rw[e] at mp
  rcases Of.mp mp with z |z
  ·exact z
  ·exfalso
   have i2:r.idxOf x=q.length:=by rw[e,Eb hxq];simp
   by_cases pq:p∈q
   ·rcases NX.mp z with z |z
    ·rw[z] at pq;exact hxq pq
    ·rw[e] at nd
     exact (Rj.mp nd).2.2 p pq p (N5 _ z) rfl
   ·have:q.length<=r.idxOf p:=by rw[e,Eb pq];omega
    omega
 unfold eT at hf
 rw[Om,Pk,Pt,Oq] at hf
 have key:z=x:=by
  have:=hc z x zc hx
  unfold mL at this
  simp only[Bool.and_eq_false_iff,Bool.not_eq_false',Oq] at this
  rcases this with h |h |h
  ·exact h
  ·exact absurd (fx z h) hf.1
  ·exact absurd hf.2 λen=>by
    have:x∈zd l q z:=gK.mpr ⟨h,hxq⟩
    rw[en] at this;cases this
 rcases hzy with h |h
 ·exact hne (by rw[<-key,h])
 ·rw[key] at h;exact h1 h
noncomputable def E9:List D->FR:=aZ 2 2 (jn fm HZ Nf MP)
def Lk (O:OM.Ord n l)(hz:ns.length<=100)(h:va n l (.list (ns.map int))=true):∃r,E9 [aw n l,.list (ns.map int)]=.ok (tupI r) false/\Row n l r/\Et n l ns r:=by
 obtain⟨r,e,R,L⟩:=MK (late:=ns) O hz
 refine⟨r,?_,R,L⟩
 show fin (jn fm HZ Nf MP [.fz (aw n l),.fz (.list (ns.map int))] 0)=_
 refine fS ?_
 unfold jn
 refine lQ (au (ds:=[aw n l]) (ac rfl an) (lD O)) (wp_at [.fz (aw n l),.fz (.list (ns.map int))] rfl ?_)
 have gc:Gc (.list (ns.map int)):=⟨rfl,λds e=>by
  cases e
  exact⟨by rw[NZ];exact hz,λe he=>by obtain⟨k,_,rfl⟩:=N7.mp he;rfl⟩⟩
 have t:kU (aq HZ (aa (gv 1) (aa (gv 0) af))) (vl [.fz (aw n l),.fz (.list (ns.map int))]) 0=.ok true 0:=fF (by rw[<-h];exact au (ds:=[.list (ns.map int),aw n l]) rfl (Kj O.hi gc))
 refine gB (cQ t) (wp_at [.fz (aw n l),.fz (.list (ns.map int))] rfl ?_)
 exact jw (au (ds:=[gX n (fM l),.list (ns.map int)]) (ac (au (ds:=[aw n l]) rfl (MS O)) (ac rfl an)) e) rfl
def Cc (l:List Pr)(a b:Int):mL l (a,b)=mL l (b,a):=by
 unfold mL
 rw[Pc]
 simp only[Om,Pk,Pt]
 exact⟨λ⟨h1,h2,h3⟩=>⟨λe=>h1 e.symm,h3,h2⟩,λ⟨h1,h2,h3⟩=>⟨λe=>h1 e.symm,h3,h2⟩⟩
def Jd (l:List Pr)(a:Int):mL l (a,a)=false:=by unfold mL;simp
def K4 (h:xs.Nodup):(sortI xs).Pairwise (· < ·):=by
 have nd:(sortI xs).Pairwise (· ≠ ·):=(sortI_perm xs).nodup_iff.mpr h
 exact ((wQ xs).and nd).imp λ⟨h1,h2⟩=>by omega
def Gr (hin:∀k,k∈cs->0<=k/\k < 8)(h:cs.Pairwise (· < ·)):cs=sI cs:=by
 have nd:cs.Nodup:=h.imp λh e=>by omega
 rw[<-zA (ns:=cs) hin nd λk=>Iff.rfl]
 exact gr (List.Perm.refl _) (h.imp λh=>Int.le_of_lt h)
def K0 {n:Nat}{l:List Pr}{cs:List Int}(h8:n<=8)(ne:cs≠ [])(hin:∀k,k∈cs->0<=k/\k < (n:Int))(h:cs.Pairwise (· < ·))(ha:∀a b,a∈cs->b∈cs->mL l (a,b)=false):va n l (.list (cs.map int))=true:=by
 unfold va
 dsimp only
 rw[c6,Om,Ot]
 refine⟨λe he=>?_,?_⟩
 ·obtain⟨k,hk,rfl⟩:=N7.mp he
  exact N3 (hin k hk)
 ·show KR n l cs=true
  unfold KR
  rw[Om,Om,QB,Ot]
  refine⟨by cases cs with |nil=>exact absurd rfl ne |cons _ _=>rfl,Gr (λk hk=>by have:=hin k hk;omega) h,λt ht=>?_⟩
  unfold BV
  rw[Pk,QF]
  intro a ha'
  rw[ha a t ha' ht];decide
def JU (h:ns.length < 64):qt (.list (ns.map int))=some (.list ((sortI ns).map int)):=by
 unfold qt
 simp only[hG,c6]
 rw[N1 h]
end RM
namespace L2
open PySem PyProof.Rows
section
variable {X:Cx}{K:Frag}{σ:St}{G H:Hp}{s:Shared}{E:XK}
def kP (p:Int×Int):List Key:=[.inl p.1,.inl p.2]
def HL :kP p=kP q↔p=q:=by
 unfold kP
 constructor
 ·intro h
  simp at h
  exact Prod.ext h.1 h.2
 ·intro h;rw[h]
abbrev KP (K:Frag)(G:Hp):List (List Key×V)->List ((Int×Int)×D)->Prop:=Paired λa b=>a.1=kP b.1/\Rp K G a.2 b.2
theorem KP.any (h:KP K G kvs acc)(p:Int×Int):(kvs.any λkv=>decide (kv.1=kP p))=acc.any λkv=>decide (kv.1=p):=by
 induction h with
 |nil=>rfl
 |cons h _ ih=>
  rw[PU,PU,ih,h.1]
  congr 1
  rw[PZ];exact HL
end
end L2
namespace L2
open PySem PySem.Spec PyProof.Rows
namespace HM
def lexLt:List Int->List Int->Bool
 |_,[]=>false
 | [],_ :: _=>true
 |x :: xs,y :: ys=>if x=y then lexLt xs ys else decide (x < y)
def kf (x y:Int)(xs ys:List Int):lexLt (x :: xs) (y :: ys)=if x=y then lexLt xs ys else decide (x < y):=rfl
section
open PySem.SeqAt
open PySem.AutoSeq1 (wpAny_loadPart')
open PySem.MeetsSeq PySem.MeetsSeq2 PySem.MeetsSeq3
end
end HM
end L2
namespace OM
theorem ko:∀{l g:List Int},l.Pairwise (· < ·)->g.Pairwise (· < ·)->(∀x,x∈g->x∈l)->List.Sublist g l
 | [],[],_,_,_=>.slnil
 | [],b :: g,_,_,h=>by cases h b (N0 ..)
 |a :: l,[],_,_,_=>List.nil_sublist _
 |a :: l,b :: g,hl,hg,h=>by
  have hl':=Qi.mp hl
  have hg':=Qi.mp hg
  by_cases e:a=b
  ·subst e
   refine .cons_cons _ (ko hl'.2 hg'.2 λx hx=>?_)
   have:=hg'.1 x hx
   rcases NX.mp (h x (N5 _ hx)) with rfl |h2
   ·omega
   ·exact h2
  ·refine .cons _ (ko hl'.2 hg λx hx=>?_)
   have hb:b∈l:=by
    rcases NX.mp (h b (N0 ..)) with z |z
    ·exact absurd z.symm e
    ·exact z
   have hab:=hl'.1 b hb
   rcases NX.mp hx with rfl |hx'
   ·exact hb
   ·have:=hg'.1 x hx'
    rcases NX.mp (h x hx) with rfl |h2
    ·omega
    ·exact h2
section
variable (c:Int->Int->Bool)(n:Nat)
def ups (lo:Int):List Int:=(List.range ((n:Int) - lo).toNat).map λ(k:Nat)=>lo + (k:Int)
def JT (g:List Int):List (List Int):=((ups n (g.getLast?.getD (-1) + 1)).filter λt=>g.all λa=>c a t).map λt=>g ++ [t]
def longer (gs:List (List Int)):List (List Int):=gs.flatMap (JT c n)
def Lv (k:Nat)(g:List Int):Prop:=g.length=k/\g.Pairwise (· < ·)/\(∀x,x∈g->0<=x/\x < n)/\g.Pairwise (λa b=>c a b=true)
def DT {g:List Int}(h:g.Pairwise (· < ·)){t:Int}(ht:g.getLast?.getD (-1) < t):∀x,x∈g->x < t:=by
 intro x hx
 have hne:g≠ []:=λz=>by rw[z] at hx;cases hx
 obtain⟨init,y,rfl⟩:∃init y,g=init ++ [y]:=⟨g.dropLast,g.getLast hne,(QM hne).symm⟩
 rw[List.getLast?_append] at ht
 simp at ht
 rcases Of.mp hx with h1 |h1
 ·have:=(PF.mp h).2.2 x h1 y (by simp)
  omega
 ·rw[N6] at h1;omega
def kc :t∈ups n lo↔lo<=t/\t < n:=by
 unfold ups
 rw[N7]
 constructor
 ·rintro⟨k,hk,rfl⟩
  rw[Og] at hk;omega
 ·rintro⟨h1,h2⟩
  exact⟨(t - lo).toNat,Og.mpr (by omega),by omega⟩
def xR {gs:List (List Int)}{k:Nat}(hk:1<=k)(h:∀g,g∈gs↔Lv c n k g)(g':List Int):g'∈longer c n gs↔Lv c n (k + 1) g':=by
 unfold longer
 rw[List.mem_flatMap]
 constructor
 ·rintro⟨g,hg,hm⟩
  obtain⟨t,ht,rfl⟩:=N7.mp hm
  obtain⟨h1,h2,h3,h4⟩:=(h g).mp hg
  rw[Oi,Ot,kc] at ht
  obtain⟨hr,hall⟩:=ht
  have hm:=DT h2 (show g.getLast?.getD (-1) < t by omega)
  have h0:0<=t:=by
   cases g with
   |nil=>simp at h1;omega
   |cons a g=>have:=hm a (N0 ..);have:=h3 a (N0 ..);omega
  refine⟨by rw[Ow,h1];rfl,PF.mpr ⟨h2,Qw ..,λx hx y hy=>?_⟩,λx hx=>?_,PF.mpr ⟨h4,Qw ..,λx hx y hy=>?_⟩⟩
  ·rw[N6] at hy;subst hy;exact hm x hx
  ·rcases Of.mp hx with hx |hx
   ·exact h3 x hx
   ·rw[N6] at hx;subst hx;omega
  ·rw[N6] at hy;subst hy;exact hall x hx
 ·rintro⟨h1,h2,h3,h4⟩
  have hne:g'≠ []:=λz=>by rw[z] at h1;simp at h1
  obtain⟨g,t,rfl⟩:∃g t,g'=g ++ [t]:=⟨g'.dropLast,g'.getLast hne,(QM hne).symm⟩
  rw[Ow] at h1
  simp only[Ol,Qk] at h1
  have p2:=PF.mp h2
  have p4:=PF.mp h4
  refine⟨g,(h g).mpr ⟨by omega,p2.1,λx hx=>h3 x (Pa _ hx),p4.1⟩,N7.mpr ⟨t,?_,rfl⟩⟩
  have ht:=h3 t (Ox _ (by simp))
  rw[Oi,Ot,kc]
  refine⟨⟨?_,ht.2⟩,λa ha=>p4.2.2 a ha t (by simp)⟩
  have hg:g≠ []:=λz=>by rw[z] at h1;simp at h1;omega
  rw[List.getLast?_eq_some_getLast hg]
  have:=p2.2.2 _ (List.getLast_mem hg) t (by simp)
  show g.getLast hg + 1<=t
  omega
end
section
variable (c:Int->Int->Bool)(n:Nat)
def EJ (x:Int):Nat:=2 ^ ((n:Int) - 1 - x).toNat
def zS (h:(n:Int)<=lo):ups n lo= []:=by
 unfold ups
 rw[show ((n:Int) - lo).toNat=0 by omega];rfl
def CH {lo:Int}(h:lo < n):ups n lo=lo :: ups n (lo + 1):=by
 unfold ups
 rw[show ((n:Int) - lo).toNat=((n:Int) - (lo + 1)).toNat + 1 by omega,List.range_succ_eq_map,OL,O1]
 congr 1
 ·simp
 ·apply Pf
  intro k _
  show lo + ((k + 1:Nat):Int)=lo + 1 + (k:Int)
  omega
theorem tM (f:Int->Bool):∀(m:Nat) (lo:Int),((n:Int) - lo).toNat<=m->(((ups n lo).filter f).map (EJ n)).sum < 2 ^ ((n:Int) - lo).toNat
 | 0,lo,h=>by
  rw[zS n (by omega),show ((n:Int) - lo).toNat=0 by omega];simp
 |m + 1,lo,h=>by
  by_cases hl:lo < n
  ·have ih:=tM f m (lo + 1) (by omega)
   rw[CH n hl,show ((n:Int) - lo).toNat=((n:Int) - (lo + 1)).toNat + 1 by omega,Nat.pow_succ]
   have hw:EJ n lo=2 ^ ((n:Int) - (lo + 1)).toNat:=by unfold EJ;congr 1;omega
   by_cases hf:f lo=true
   ·rw[Qb hf,OL,List.sum_cons,hw];omega
   ·rw[Qc hf];omega
  ·rw[zS n (by omega)]
   simp only[List.filter_nil,List.map_nil,List.sum_nil]
   exact Nat.pow_pos (by omega)
def wg (g:List Int):Nat:=EJ n (g.getLast?.getD (-1))
def W (gs:List (List Int)):Nat:=(gs.map (wg n)).sum
def Kz (g:List Int):W n (JT c n g)<=wg n g:=by
 unfold W JT
 rw[O1]
 have:(wg n ∘ λt=>g ++ [t])=EJ n:=by
  funext t
  show EJ n ((g ++ [t]).getLast?.getD (-1))=EJ n t
  rw[List.getLast?_append];rfl
 rw[this]
 have h:=tM n (λt=>g.all λa=>c a t) _ (g.getLast?.getD (-1) + 1) (N4 _)
 have e:wg n g=2 ^ ((n:Int) - (g.getLast?.getD (-1) + 1)).toNat:=by unfold wg EJ;congr 1;omega
 omega
def Ha (a b:List (List Int)):W n (a ++ b)=W n a + W n b:=by
 unfold W;rw[OA,List.sum_append]
theorem mY:∀gs:List (List Int),W n (longer c n gs)<=W n gs
 | []=>N4 _
 |g :: gs=>by
  have h1:=Kz c n g
  have h2:=mY gs
  show W n (JT c n g ++ longer c n gs)<=wg n g + W n gs
  rw[Ha];omega
theorem B4:∀gs:List (List Int),gs.length<=W n gs
 | []=>OJ _
 |g :: gs=>by
  have h2:=B4 gs
  have:1<=wg n g:=Nat.pow_pos (by omega)
  show gs.length + 1<=wg n g + W n gs
  omega
def ones:List (List Int):=(ups n 0).map λt=>[t]
def Dk:W n (ones n) < 2 ^ n:=by
 have h:=tM n (λ_=>true) _ 0 (N4 _)
 rw[List.filter_eq_self.mpr (λ_ _=>rfl)] at h
 unfold W ones
 rw[O1]
 have e:(wg n ∘ λt=>[t])=EJ n:=rfl
 rw[e]
 simpa using h
end
section
variable (c:Int->Int->Bool)(n:Nat)
def pL (lo:Int):(ups n lo).Pairwise (· < ·):=by
 unfold ups
 rw[OP]
 exact QC.imp λh=>by omega
def lX:Nat->List (List Int)
 | 0=>ones n
 |k + 1=>longer c n (lX k)
theorem je:∀(k:Nat) (g:List Int),g∈lX c n k↔Lv c n (k + 1) g
 | 0,g=>by
  show g∈ones n↔_
  unfold ones
  rw[N7]
  constructor
  ·rintro⟨t,ht,rfl⟩
   refine⟨rfl,Qw ..,λx hx=>?_,Qw ..⟩
   rw[N6] at hx;subst hx;exact (kc n).mp ht
  ·rintro⟨h1,_,h3,_⟩
   obtain⟨t,rfl⟩:=List.length_eq_one_iff.mp h1
   exact⟨t,(kc n).mpr (h3 t (by simp)),rfl⟩
 |k + 1,g=>xR c n (by omega) (je k) g
def FD (k:Nat):(lX c n k).length < 2 ^ n:=by
 have:W n (lX c n k) < 2 ^ n:=by
  induction k with
  |zero=>exact Dk n
  |succ k ih=>exact Rb (mY c n _) ih
 exact Rb (B4 n _) this
theorem zQ (h:n<=k):lX c n k= []:=by
 cases e:lX c n k with
 |nil=>rfl
 |cons g gs=>
  have hg:g∈lX c n k:=by rw[e];exact N0 ..
  obtain⟨h1,h2,h3,_⟩:=(je c n k g).mp hg
  have hs:List.Sublist g (ups n 0):=ko (pL n 0) h2 λx hx=>(kc n).mpr (h3 x hx)
  have:=hs.length_le
  unfold ups at this
  rw[NZ,O6] at this
  omega
end
open L2.HM
theorem yZ:∀(g a b:List Int),lexLt (g ++ a) (g ++ b)=lexLt a b
 | [],_,_=>rfl
 |x :: g,a,b=>by
  show (if x=x then lexLt (g ++ a) (g ++ b) else _)=_
  rw[N1 rfl,yZ g]
theorem yY:∀{g h a b:List Int},g.length=h.length->lexLt g h=true->lexLt (g ++ a) (h ++ b)=true
 | [],[],_,_,_,e=>by cases e
 | [],_ :: _,_,_,l,_=>by cases l
 |_ :: _,[],_,_,l,_=>by cases l
 |x :: g,y :: h,a,b,l,e=>by
  show (if x=y then lexLt (g ++ a) (h ++ b) else decide (x < y))=true
  rw[kf] at e
  split at e
  ·rename_i q;rw[N1 q];exact yY (by simpa using l) e
  ·rename_i q;rw[N8 q];exact e
theorem Ad:∀g:List Int,lexLt g g=false
 | []=>rfl
 |x :: g=>by rw[kf,N1 rfl,Ad g]
theorem DA:∀{a b c:List Int},lexLt a b=true->lexLt b c=true->lexLt a c=true
 |_,_,[],_,h=>by cases ‹List Int› <;> cases h
 | [],_,_ :: _,_,_=>rfl
 |_ :: _,[],_ :: _,h,_=>by cases h
 |x :: a,y :: b,z :: c,h,k=>by
  rw[kf] at h k ⊢
  by_cases e1:x=y
  ·subst e1
   rw[N1 rfl] at h
   by_cases e2:x=z
   ·subst e2;rw[N1 rfl] at k ⊢;exact DA h k
   ·rw[N8 e2] at k ⊢;exact k
  ·rw[N8 e1] at h
   have h:=OS h
   by_cases e2:y=z
   ·subst e2;rw[N8 e1];exact N3 h
   ·rw[N8 e2] at k
    have k:=OS k
    rw[N8 (by omega)];exact N3 (by omega)
theorem zj (c:Int->Int->Bool)(n:Nat):∀k,(lX c n k).Pairwise λa b=>lexLt a b=true
 | 0=>by
  show (ones n).Pairwise _
  unfold ones
  refine List.Pairwise.map _ (λa b h=>?_) (pL n 0)
  show (if a=b then lexLt [] [] else decide (a < b))=true
  rw[N8 (by omega)];exact N3 h
 |k + 1=>by
  show (longer c n (lX c n k)).Pairwise _
  unfold longer
  refine List.pairwise_flatMap.mpr ⟨λg hg=>?_,OH ?_ (zj c n k)⟩
  ·unfold JT
   refine List.Pairwise.map _ (λa b h=>?_) ((pL n _).sublist Qe)
   rw[yZ]
   show (if a=b then lexLt [] [] else decide (a < b))=true
   rw[N8 (by omega)];exact N3 h
  ·intro g h hg hh l x hx y hy
   obtain⟨t,_,rfl⟩:=N7.mp hx
   obtain⟨u,_,rfl⟩:=N7.mp hy
   exact yY (((je c n k g).mp hg).1.trans ((je c n k h).mp hh).1.symm) l
end OM
namespace RM
open PySem L2
def bD (g:List Int):D:=.list (g.map int)
def dD (l:List Pr)(a b:Int):Bool:=mL l (a,b)
noncomputable def F0:List D->FR:=aZ 5 2 (eM Hh)
abbrev rS (n:Nat)(l:List Pr)(gs ws:List (List Int))(s3 s4:Sl):En:=[.fz (aw n l),.fz (.list (gs.map bD)),.ow (.list (ws.map bD)),s3,s4]
noncomputable abbrev n9:SF:=i9 ([] ++ [0,4]) (kU (f1 (aP 1 [0,4] (.nm 0) (bq (gv 3)) kL (aq Hh (aa (gv 1) (aa (gv 0) (aa (gv 2) af))))) (bK λbs=>bs.all id)))
 (mw 2 ([] ++ ([4] ++ [])) (f2 (gv 3) (bR (aa (gv 4) af)) dH))
 jT
theorem Mi (hg:g.length<=100)(hw:ws.length<=900):n9 (rS n l gs ws (.fz (bD g)) (.fz (.int t))) 0=.nx (rS n l gs (ws ++ (([t].filter λt=>g.all λa=>dD l a t).map λt=>g ++ [t])) (.fz (bD g)) (.fz (.int t))) 0:=by
 have ec:aP 1 [0,4] (.nm 0) (bq (gv 3)) kL (aq Hh (aa (gv 1) (aa (gv 0) (aa (gv 2) af)))) (vl (rS n l gs ws (.fz (bD g)) (.fz (.int t)))) 0=.ok (.list (g.map λa=>PyData.bool (dD l a t))) 0:=
  bI (l:=g) (e:=int) (λa=>PyData.bool (dD l a t)) rfl (by omega) λa ha=>⟨_,rfl,au (ds:=[aw n l,.int a,.int t]) rfl (Lx n l a t)⟩
 have tt:=fF (uQ ec)
 unfold n9
 cases hc:(g.all λa=>dD l a t) with
 |true=>
  rw[hc] at tt
  rw[l9 tt]
  show mw 2 ([] ++ ([4] ++ [])) _ (rS n l gs ws (.fz (bD g)) (.fz (.int t))) 0=_
  have ea:f2 (gv 3) (bR (aa (gv 4) af)) dH (vl (rS n l gs ws (.fz (bD g)) (.fz (.int t)))) 0=.ok (bD (g ++ [t])) 0:=by
   refine aI (x:=.list (g.map int)) (y:=.list [.int t]) rfl (lp (ac rfl an)) ?_
   rw[kn (by rw[NZ];simp;omega)]
   unfold bD;rw[OA];rfl
  rw[pJ (i:=2) (ds:=ws.map bD) (d:=bD (g ++ [t])) (β':=0) (by rfl) ea (by rfl) (by rw[NZ];omega),Qb (by rw[hc])]
  show SO.nx (([.fz (aw n l),.fz (.list (gs.map bD)),.ow (.list (ws.map bD ++ [bD (g ++ [t])])),.fz (bD g),.fz (.int t)]:En)) 0=_
  rw[show ws.map bD ++ [bD (g ++ [t])]=(ws ++ [g ++ [t]]).map bD by rw[OA];rfl];rfl
 |false=>
  rw[hc] at tt
  rw[lJ tt,Qc (by rw[hc];simp)]
  show SO.nx _ 0=_
  rw[show ws ++ ([].filter λt=>g.all λa=>dD l a t).map (λt=>g ++ [t])=ws by simp];rfl
theorem LC (hg:g.length<=100):∀(ts:List Int) (ws:List (List Int)) (s4:Sl),ws.length + ts.length<=900->∃s4',ja (.nm 4) n9 (ts.map int) (rS n l gs ws (.fz (bD g)) s4) 0=.nx (rS n l gs (ws ++ ((ts.filter λt=>g.all λa=>dD l a t).map λt=>g ++ [t])) (.fz (bD g)) s4') 0
 | [],ws,s4,_=>⟨s4,by rw[show ws ++ ((([]:List Int).filter λt=>g.all λa=>dD l a t).map λt=>g ++ [t])=ws by simp];rfl⟩
 |t :: ts,ws,s4,h=>by
  simp only[Ol] at h
  have e:=Mi (n:=n) (l:=l) (gs:=gs) (ws:=ws) (t:=t) hg (by omega)
  have hl:(ws ++ (([t].filter λt=>g.all λa=>dD l a t).map λt=>g ++ [t])).length<=ws.length + 1:=by
   rw[Ow,NZ]
   have:=O5 (λt=>g.all λa=>dD l a t) [t]
   simp only[Ol,Qk] at this;omega
  obtain⟨s4',e2⟩:=LC hg ts (ws ++ (([t].filter λt=>g.all λa=>dD l a t).map λt=>g ++ [t])) (.fz (.int t)) (by omega)
  refine⟨s4',?_⟩
  show ja (.nm 4) n9 (.int t :: ts.map int) _ 0=_
  unfold ja
  rw[show fQ (.nm 4) (.int t) (rS n l gs ws (.fz (bD g)) s4)=some (rS n l gs ws (.fz (bD g)) (.fz (.int t))) from rfl]
  dsimp only
  rw[e]
  dsimp only
  rw[e2,show ws ++ (((t :: ts).filter λt=>g.all λa=>dD l a t).map λt=>g ++ [t])=ws ++ (([t].filter λt=>g.all λa=>dD l a t).map λt=>g ++ [t]) ++ ((ts.filter λt=>g.all λa=>dD l a t).map λt=>g ++ [t]) by rw[Pz,<-OA,<-Ra];rfl]
noncomputable abbrev yx:SF:=cM (.nm 4) ((([] ++ []) ++ []) ++ ([] ++ [])) (oF (f2 (f2 (gv 3) (f1 (cst (.int 1)) xf) cn) (cst (.int 1)) cD) (f2 (gv 0) (cst (.int 0)) cn)) n9
def De (h:g≠ []):kG (g.map int) (-1)=some (.int (g.getLast?.getD (-1))):=by
 obtain⟨i,y,rfl⟩:∃i y,g=i ++ [y]:=⟨g.dropLast,g.getLast h,(QM h).symm⟩
 rw[jf]
 have:kG (i ++ [y]) (-1)=some y:=by
  unfold kG t6
  simp only[Ow,Ol,Qk]
  rw[N8 (by omega),N1 (by omega),show (-1 + ((i.length + (0 + 1):Nat):Int)).toNat=i.length by omega]
  simp
 rw[this,List.getLast?_append];rfl
def Mk {n:Nat}{l:List Pr}{gs ws:List (List Int)}{g:List Int}(hn:n<=8)(hg:g.length<=100)(hne:g≠ [])(hr:∀x,x∈g->0<=x/\x < n)(hw:ws.length<=800)(s4:Sl):∃s4',yx (rS n l gs ws (.fz (bD g)) s4) 0=.nx (rS n l gs (ws ++ OM.JT (dD l) n g) (.fz (bD g)) s4') 0:=by
 have hy:0<=g.getLast?.getD (-1)/\g.getLast?.getD (-1) < n:=by
  rw[List.getLast?_eq_some_getLast hne]
  exact hr _ (List.getLast_mem hne)
 generalize hy':g.getLast?.getD (-1)=y at hy
 have e1:f2 (f2 (gv 3) (f1 (cst (.int 1)) xf) cn) (cst (.int 1)) cD (vl (rS n l gs ws (.fz (bD g)) s4)) 0=.ok (.int (y + 1)) 0:=aI (x:=.int y) (y:=.int 1) (aI (x:=bD g) (y:=.int (-1)) rfl rfl (by rw[<-hy'];exact De hne)) rfl rfl
 have e2:f2 (gv 0) (cst (.int 0)) cn (vl (rS n l gs ws (.fz (bD g)) s4)) 0=.ok (.int n) 0:=aI (x:=aw n l) (y:=.int 0) rfl rfl rfl
 have er:=vX e1 e2 (by omega) (by omega)
 have hi:cU (y + 1) ((n:Int) - (y + 1)).toNat=(OM.ups n (y + 1)).map int:=by
  unfold cU OM.ups
  rw[O1];rfl
 rw[hi] at er
 have hul:(OM.ups n (y + 1)).length<=8:=by unfold OM.ups;rw[NZ,O6];omega
 obtain⟨s4',e⟩:=LC (n:=n) (l:=l) (gs:=gs) hg (OM.ups n (y + 1)) ws s4 (by omega)
 refine⟨s4',?_⟩
 unfold yx
 rw[dX (env:=rS n l gs ws (.fz (bD g)) s4) (β1:=0) er]
 show ja (.nm 4) n9 _ (rS n l gs ws (.fz (bD g)) s4) 0=_
 rw[e]
 unfold OM.JT
 rw[hy']
def KY {n:Nat}{l:List Pr}{k:Nat}(hn:n<=8):F0 [aw n l,.list ((OM.lX (dD l) n k).map bD)]=.ok (.list ((OM.lX (dD l) n (k + 1)).map bD)) true:=by
 have hlen:=OM.FD (dD l) n k
 have h64:2 ^ n<=2 ^ 8:=Nat.pow_le_pow_right (by omega) hn
 have hmem:=OM.je (dD l) n k
 generalize hgs:OM.lX (dD l) n k=gs at hlen hmem
 show fin (eM Hh [.fz (aw n l),.fz (.list (gs.map bD)),.no,.no,.no] 0)=_
 unfold eM
 rw[aF (env':=rS n l gs [] .no .no) (β':=0) (by rw[kY,lp (ds:=[]) an];rfl)]
 obtain⟨env',β',ef,rfl,s3,s4,rfl⟩:=fB (t:=.nm 3) (m:=yx) (ds:=gs.map bD) (k:=0)
  (λi env β=>β=0/\∃s3 s4:Sl,env=rS n l gs (OM.longer (dD l) n (gs.take i)) s3 s4)
  (env:=rS n l gs [] .no .no) (β:=0) ⟨rfl,.no,.no,rfl⟩ (by
   rintro i d env β hi ⟨rfl,s3,s4,rfl⟩
   rw[Pn]
   rw[Oa] at hi
   cases hq:gs[i]? with
   |none=>rw[hq] at hi;cases hi
   |some g=>
    rw[hq] at hi;cases hi
    have hgm:g∈gs:=Ob hq
    obtain⟨h1,h2,h3,h4⟩:=(hmem g).mp hgm
    have hne:g≠ []:=λz=>by rw[z] at h1;simp at h1
    have hsub:List.Sublist g (OM.ups n 0):=OM.ko (OM.pL n 0) h2 λx hx=>(OM.kc n).mpr (h3 x hx)
    have hg8:g.length<=8:=by
     have:=hsub.length_le
     unfold OM.ups at this
     rw[NZ,O6] at this
     omega
    have hw:(OM.longer (dD l) n (gs.take i)).length<=800:=by
     have a1:=OM.B4 n (OM.longer (dD l) n (gs.take i))
     have a2:=OM.mY (dD l) n (gs.take i)
     have a3:OM.W n (gs.take i)<=OM.W n gs:=by
      have:=OM.Ha n (gs.take i) (gs.drop i)
      rw[PB] at this
      omega
     have a4:OM.W n gs < 2 ^ n:=by
      rw[<-hgs]
      have:∀k,OM.W n (OM.lX (dD l) n k) < 2 ^ n:=λk=>by
       induction k with
       |zero=>exact OM.Dk n
       |succ k ih=>exact Rb (OM.mY (dD l) n _) ih
      exact this k
     omega
    obtain⟨s4',e⟩:=Mk (n:=n) (l:=l) (gs:=gs) (by omega) (by omega) hne h3 hw s4
    refine⟨rS n l gs (OM.longer (dD l) n (gs.take i)) (.fz (bD g)) s4,rfl,_,_,e,rfl,.fz (bD g),s4',?_⟩
    have ht:gs.take (i + 1)=gs.take i ++ [g]:=by
     obtain⟨hi',eg⟩:=N9.mp hq
     rw[List.take_succ_eq_append_getElem hi',eg]
    rw[ht]
    unfold OM.longer
    rw[List.flatMap_append]
    simp)
 rw[NZ,Pn,List.take_length] at *
 rw[aF (env':=rS n l gs (OM.longer (dD l) n gs) s3 s4) (β':=0) ?zz]
 ·show FR.ok _ true=_
  rw[show OM.lX (dD l) n (k + 1)=OM.longer (dD l) n gs by rw[<-hgs];rfl]
 case zz=>
  rw[dX (env:=rS n l gs [] .no .no) (ds:=gs.map bD) (β1:=0) (by rfl)]
  exact ef
noncomputable def EW:List D->FR:=aZ 3 1 (ig fm F0)
noncomputable abbrev Ce:SF:=aH (bS 1 [2] (gv 2))
 (bS 2 ([0] ++ ([1] ++ [])) (aq F0 (aa (gv 0) (aa (gv 1) af))))
abbrev GF (n:Nat)(l:List Pr)(gs ls:List (List Int)):En:=[.fz (aw n l),.fz (.list (gs.map bD)),.fz (.list (ls.map bD))]
theorem LD :kU (gv 2) (vl (GF n l gs ls)) 0=.ok (!decide (ls= [])) 0:=by
 cases ls with
 |nil=>rfl
 |cons g ls=>rfl
def Ms (O:OM.Ord n l)(h6:n<=8):∃(g:List Int) (k:Nat),EW [aw n l]=.ok (bD g) false/\OM.Lv (dD l) n (k + 1) g/\(∀g',¬OM.Lv (dD l) n (k + 2) g')/\∀g',OM.Lv (dD l) n (k + 1) g'->g'=g\/L2.HM.lexLt g g'=true:=by
 show ∃(g:List Int) (k:Nat),fin (ig fm F0 [.fz (aw n l),.no,.no] 0)=.ok (bD g) false/\_
 unfold ig
 rw[aF (env':=[.fz (aw n l),.no,.no]) (β':=0) (by rw[nE,au (ds:=[aw n l]) (β1:=0) rfl (lD O)];rfl)]
 have e1:f2 (gv 0) (cst (.int 0)) cn (vl [.fz (aw n l),.no,.no]) 0=.ok (.int n) 0:=aI (x:=aw n l) (y:=.int 0) rfl rfl rfl
 have hi:cU 0 n=(OM.ups n 0).map int:=by
  unfold cU OM.ups
  rw[O1,show ((n:Int) - 0).toNat=n by omega];rfl
 have er:i6 (f2 (gv 0) (cst (.int 0)) cn) (vl [.fz (aw n l),.no,.no]) 0=.ok ((OM.ups n 0).map int) 0:=by
  rw[<-hi];exact lj (n:=n) e1 (by omega)
 have hul:(OM.ups n 0).length=n:=by unfold OM.ups;rw[NZ,O6];omega
 have ec:aP 1 [] (.nm 0) (i6 (f2 (gv 0) (cst (.int 0)) cn)) kL (bR (aa (gv 0) af)) (vl [.fz (aw n l),.no,.no]) 0=.ok (.list ((OM.ones n).map bD)) 0:=by
  unfold OM.ones
  rw[O1]
  exact bI (l:=OM.ups n 0) (e:=int) (λt=>bD [t]) er (by omega) λt ht=>⟨_,rfl,lp (ac rfl an)⟩
 rw[aF (env':=[.fz (aw n l),.fz (.list ((OM.ones n).map bD)),.no]) (β':=0) (by rw[ij,ec];rfl)]
 rw[aF (env':=GF n l (OM.lX (dD l) n 0) (OM.lX (dD l) n 0)) (β':=0) (by rfl)]
 obtain⟨env',β',ew,rfl,i,gs,rfl,hgs⟩:=iV (L:=[]) (t:=kU (gv 2)) (m:=Ce)
  (λk env β=>β=0/\∃(i:Nat) (gs:List (List Int)),env=GF n l gs (OM.lX (dD l) n i)/\k + i=n + 1/\((i=0/\gs=OM.lX (dD l) n 0)\/(1<=i/\gs=OM.lX (dD l) n (i - 1)/\gs≠ [])))
  (λenv β=>β=0/\∃(i:Nat) (gs:List (List Int)),env=GF n l gs (OM.lX (dD l) n i)/\OM.lX (dD l) n i= []/\1<=i/\gs=OM.lX (dD l) n (i - 1)/\gs≠ [])
  (n:=1000) (k:=n + 1) (env:=GF n l (OM.lX (dD l) n 0) (OM.lX (dD l) n 0)) (β:=0) (by omega) ⟨rfl,0,_,rfl,by omega,.inl ⟨rfl,rfl⟩⟩ (by
   rintro k env β ⟨rfl,i,gs,rfl,hk,hgs⟩
   refine⟨_,0,LD,?_⟩
   by_cases hz:OM.lX (dD l) n i= []
   ·refine .inl ⟨by rw[N3 hz];rfl,rfl,i,gs,rfl,hz,?_⟩
    rcases hgs with⟨rfl,rfl⟩ |h
    ·exfalso
     have h0:(0:Int)∈OM.ups n 0:=(OM.kc n).mpr ⟨by omega,by have:=O.lo;omega⟩
     have: [(0:Int)]∈OM.lX (dD l) n 0:=N7.mpr ⟨0,h0,rfl⟩
     rw[hz] at this;cases this
    ·exact h
   ·refine .inr ⟨by rw[Oe hz];rfl,GF n l (OM.lX (dD l) n i) (OM.lX (dD l) n (i + 1)),0,n + 1 - (i + 1),?_,?_,rfl,i + 1,_,rfl,?_,.inr ⟨by omega,rfl,hz⟩⟩
    ·show Ce (GF n l gs (OM.lX (dD l) n i)) 0=_
     unfold Ce
     rw[aF (env':=GF n l (OM.lX (dD l) n i) (OM.lX (dD l) n i)) (β':=0) (by rfl)]
     rw[ij,au (ds:=[aw n l,.list ((OM.lX (dD l) n i).map bD)]) (β1:=0) rfl (KY h6)];rfl
    ·have:i < n:=by
      by_cases q:i < n
      ·exact q
      ·exact absurd (OM.zQ (dD l) n (by omega)) hz
     omega
    ·have:i < n:=by
      by_cases q:i < n
      ·exact q
      ·exact absurd (OM.zQ (dD l) n (by omega)) hz
     omega)
 obtain⟨hend,hi1,hgs,hne⟩:=hgs
 obtain⟨g,rest,hg⟩:=List.exists_cons_of_ne_nil hne
 have hgm:g∈OM.lX (dD l) n (i - 1):=by rw[<-hgs,hg];exact N0 ..
 have hL:=(OM.je (dD l) n (i - 1) g).mp hgm
 have hno:∀g',¬OM.Lv (dD l) n (i + 1) g':=λg' z=>by
  have:=(OM.je (dD l) n i g').mpr z
  rw[hend] at this;cases this
 refine⟨g,i - 1,?_,hL,λg' z=>hno g' (by rw[show i + 1=i - 1 + 2 by omega];exact z),λg' z=>?_⟩
 rotate_left
 ·have hm:=(OM.je (dD l) n (i - 1) g').mpr z
  have hp:=OM.zj (dD l) n (i - 1)
  rw[<-hgs,hg] at hm hp
  rcases NX.mp hm with e |e
  ·exact .inl e
  ·exact .inr ((Qi.mp hp).1 g' e)
 rw[aF ew,hg]
 have e0:f2 (gv 1) (cst (.int 0)) cn (vl (GF n l (g :: rest) (OM.lX (dD l) n i))) 0=.ok (bD g) 0:=aI (x:=.list ((g :: rest).map bD)) (y:=.int 0) rfl rfl (by show kG ((g :: rest).map bD) 0=_;exact kC (j:=0) rfl)
 rw[kB,e0];rfl
end RM
namespace L2.DW
open Classical
section
variable (lt:Int->Int->Prop)
def Cm (x y:Int):Prop:=x=y\/lt x y\/lt y x
structure An (S A:List Int):Prop where
 nd:A.Nodup
 sub:∀x,x∈A->x∈S
 ap:∀x y,x∈A->y∈A->Cm lt x y->x=y
structure Co (S:List Int)(w:Nat)(c:Int->Nat):Prop where
 lt':∀x,x∈S->c x < w
 cm:∀x y,x∈S->y∈S->c x=c y->Cm lt x y
variable {lt}
def An.cols {c:Int->Nat}(h:An lt S A)(k:Co lt S w c):(A.map c).Nodup/\∀i,i∈A.map c->i∈List.range w:=by
 refine⟨OP.mpr (OH (λ{x y} hx hy hne e=>hne (h.ap x y hx hy (k.cm x y (h.sub x hx) (h.sub y hy) e))) h.nd),λi hi=>?_⟩
 obtain⟨x,hx,rfl⟩:=N7.mp hi
 exact Og.mpr (k.lt' x (h.sub x hx))
def An.len {c:Int->Nat}(h:An lt S A)(k:Co lt S w c):A.length<=w:=by
 have:=L2.ST.a9 (h.cols k).1 (h.cols k).2
 simpa using this
def An.hits {c:Int->Nat}(h:An lt S A)(k:Co lt S w c)(e:A.length=w)(hi:i < w):∃x,x∈A/\c x=i:=by
 by_cases q:i∈A.map c
 ·obtain⟨x,hx,e⟩:=N7.mp q;exact⟨x,hx,e⟩
 ·exfalso
  have:=L2.ST.a9 (l:=i :: A.map c) (m:=List.range w) (Ov.mpr ⟨q,(h.cols k).1⟩) λx hx=>by
   rcases NX.mp hx with rfl |hx
   ·exact Og.mpr hi
   ·exact (h.cols k).2 x hx
  simp at this;omega
theorem maxOf (ir:∀x,¬lt x x)(tr:∀x y z,lt x y->lt y z->lt x z):∀(S:List Int),S≠ []->∃a,a∈S/\∀y,y∈S->¬lt a y
 | [],h=>absurd rfl h
 | [x],_=>⟨x,N0 ..,λy hy=>by rw[N6] at hy;subst hy;exact ir _⟩
 |x :: y :: r,_=>by
  obtain⟨a,ha,hm⟩:=maxOf ir tr (y :: r) (by simp)
  by_cases h:lt a x
  ·refine⟨x,N0 ..,λz hz=>?_⟩
   rcases NX.mp hz with rfl |hz
   ·exact ir _
   ·exact λq=>hm z hz (tr _ _ _ h q)
  ·refine⟨a,N5 _ ha,λz hz=>?_⟩
   rcases NX.mp hz with rfl |hz
   ·exact h
   ·exact hm z hz
theorem DK (ir:∀x,¬lt x x)(tr:∀x y z,lt x y->lt y z->lt x z):∀(m:Nat) (S:List Int),S.length<=m->S.Nodup->∃(w:Nat) (c:Int->Nat) (A:List Int),Co lt S w c/\An lt S A/\A.length=w:=by
 intro m
 induction m with
 |zero=>
  intro S hl _
  have:S= []:=Qu.mp (by omega)
  subst this
  exact⟨0,λ_=>0,[],⟨(λx h=>by cases h),(λx y h=>by cases h)⟩,⟨P5,(λx h=>by cases h),(λx y h=>by cases h)⟩,rfl⟩
 |succ m ih=>
  intro S hl nd
  by_cases ne:S= []
  ·subst ne
   exact⟨0,λ_=>0,[],⟨(λx h=>by cases h),(λx y h=>by cases h)⟩,⟨P5,(λx h=>by cases h),(λx y h=>by cases h)⟩,rfl⟩
  obtain⟨a,ha,hmax⟩:=maxOf ir tr S ne
  have memS:∀x,x∈S.filter (λx=>decide (x≠a))↔x∈S/\x≠a:=λx=>by rw[Oi,QB]
  have lenf:∀(p:Int->Bool),p a=false->(S.filter p).length<=m:=λp hp=>by
   have:(S.filter p).length < S.length:=by
    rcases OW (S.filter p).length S.length with h |h
    ·exact h
    ·have e:=Qe (l:=S) (p:=p) |>.eq_of_length_le h
     have:a∈S.filter p:=by rw[e];exact ha
     rw[(Oi.mp this).2] at hp;cases hp
   omega
  obtain⟨w,c,A,hc,hA,hAl⟩:=ih (S.filter λx=>decide (x≠a)) (lenf _ (by simp)) (nd.filter _)
  have ex:∀i,i < w->∃x,x∈S/\x≠a/\c x=i/\(∃B,An lt (S.filter λx=>decide (x≠a)) B/\B.length=w/\x∈B)/\
    ∀B y,An lt (S.filter λx=>decide (x≠a)) B->B.length=w->y∈B->c y=i->y=x\/lt y x:=λi hi=>by
   obtain⟨x0,h0,e0⟩:=hA.hits hc hAl hi
   obtain⟨x,hx,hmx⟩:=maxOf ir tr (S.filter λx=>decide (x≠a/\c x=i/\∃B,An lt (S.filter λx=>decide (x≠a)) B/\B.length=w/\x∈B)) (λz=>by
    have:x0∈S.filter λx=>decide (x≠a/\c x=i/\∃B,An lt (S.filter λx=>decide (x≠a)) B/\B.length=w/\x∈B):=Oi.mpr ⟨((memS x0).mp (hA.sub x0 h0)).1,N3 ⟨((memS x0).mp (hA.sub x0 h0)).2,e0,A,hA,hAl,h0⟩⟩
    rw[z] at this;cases this)
   obtain⟨hxS,hx2⟩:=Oi.mp hx
   obtain⟨hxa,hxi,hxB⟩:=OS hx2
   refine⟨x,hxS,hxa,hxi,hxB,λB y hB hBl hy hyi=>?_⟩
   have hyS:=(memS y).mp (hB.sub y hy)
   have nlt:=hmx y (Oi.mpr ⟨hyS.1,N3 ⟨hyS.2,hyi,B,hB,hBl,hy⟩⟩)
   rcases hc.cm y x (hB.sub y hy) ((memS x).mpr ⟨hxS,hxa⟩) (by rw[hyi,hxi]) with h |h |h
   ·exact .inl h
   ·exact .inr h
   ·exact absurd h nlt
  obtain⟨g,hg⟩:∃g:Nat->Int,∀i,i < w->g i∈S/\g i≠a/\c (g i)=i/\(∃B,An lt (S.filter λx=>decide (x≠a)) B/\B.length=w/\g i∈B)/\∀B y,An lt (S.filter λx=>decide (x≠a)) B->B.length=w->y∈B->c y=i->y=g i\/lt y (g i):=
   ⟨λi=>if h:i < w then Classical.choose (ex i h) else 0,λi hi=>by dsimp only;rw[dif_pos hi];exact Classical.choose_spec (ex i hi)⟩
  have nle:∀i j,i < w->j < w->i≠j->¬lt (g j) (g i):=λi j hi hj hij hlt=>by
   obtain⟨B,hB,hBl,hgB⟩:=(hg i hi).2.2.2.1
   obtain⟨y,hy,ey⟩:=hB.hits hc hBl hj
   have hyi:lt y (g i):=by
    rcases (hg j hj).2.2.2.2 B y hB hBl hy ey with h |h
    ·rw[h];exact hlt
    ·exact tr _ _ _ h hlt
   have:=hB.ap y (g i) hy hgB (.inr (.inl hyi))
   rw[this] at hyi
   exact ir _ hyi
  by_cases far:∀i,i < w->¬lt (g i) a
  ·
   refine⟨w + 1,λx=>if x=a then w else c x,a :: (List.range w).map g,⟨λx hx=>?_,λx y hx hy e=>?_⟩,⟨Ov.mpr ⟨λz=>?_,?_⟩,λx hx=>?_,λx y hx hy hcm=>?_⟩,by simp⟩
   ·split
    ·omega
    ·rename_i h;have:=hc.lt' x ((memS x).mpr ⟨hx,h⟩);omega
   ·by_cases xa:x=a
    ·by_cases ya:y=a
     ·exact .inl (xa.trans ya.symm)
     ·rw[N1 xa,N8 ya] at e
      have:=hc.lt' y ((memS y).mpr ⟨hy,ya⟩);omega
    ·by_cases ya:y=a
     ·rw[N8 xa,N1 ya] at e
      have:=hc.lt' x ((memS x).mpr ⟨hx,xa⟩);omega
     ·rw[N8 xa,N8 ya] at e
      exact hc.cm x y ((memS x).mpr ⟨hx,xa⟩) ((memS y).mpr ⟨hy,ya⟩) e
   ·obtain⟨i,hi,e⟩:=N7.mp z
    exact (hg i (Og.mp hi)).2.1 e
   ·refine OP.mpr (OH (λ{i j} hi hj hne e=>hne ?_) PX)
    have h1:=(hg i (Og.mp hi)).2.2.1
    have h2:=(hg j (Og.mp hj)).2.2.1
    rw[e] at h1;omega
   ·rcases NX.mp hx with rfl |hx
    ·exact ha
    ·obtain⟨i,hi,rfl⟩:=N7.mp hx
     exact (hg i (Og.mp hi)).1
   ·rcases NX.mp hx with rfl |hx
    ·rcases NX.mp hy with rfl |hy
     ·rfl
     ·obtain⟨j,hj,rfl⟩:=N7.mp hy
      have hj:=Og.mp hj
      rcases hcm with h |h |h
      ·exact h
      ·exact absurd h (hmax _ (hg j hj).1)
      ·exact absurd h (far j hj)
    ·obtain⟨i,hi,rfl⟩:=N7.mp hx
     have hi:=Og.mp hi
     rcases NX.mp hy with rfl |hy
     ·rcases hcm with h |h |h
      ·exact h
      ·exact absurd h (far i hi)
      ·exact absurd h (hmax _ (hg i hi).1)
     ·obtain⟨j,hj,rfl⟩:=N7.mp hy
      have hj:=Og.mp hj
      by_cases e:i=j
      ·rw[e]
      ·rcases hcm with h |h |h
       ·exact h
       ·exact absurd h (nle j i hj hi λz=>e z.symm)
       ·exact absurd h (nle i j hi hj e)
  ·
   obtain⟨i,hi⟩:=Classical.not_forall.mp far
   obtain⟨hi,hia⟩:=Classical.not_imp.mp hi
   have hia:=Classical.not_not.mp hia
   obtain⟨K,hK⟩:∃K:Int->Prop,K=λz=>z=a\/(c z=i/\(z=g i\/lt z (g i))):=⟨_,rfl⟩
   have memR:∀x,x∈S.filter (λx=>decide (¬K x))↔x∈S/\¬K x:=λx=>by rw[Oi,QB]
   obtain⟨w2,c2,A2,hc2,hA2,hA2l⟩:=ih (S.filter λx=>decide (¬K x)) (lenf _ (by rw[hK];simp)) (nd.filter _)
   have hw:w2 + 1<=w:=by
    have hA3:An lt (S.filter λx=>decide (x≠a)) A2:=⟨hA2.nd,λx hx=>by
     have:=(memR x).mp (hA2.sub x hx)
     exact (memS x).mpr ⟨this.1,λz=>this.2 (by rw[hK];exact .inl z)⟩,hA2.ap⟩
    have h1:=hA3.len hc
    rcases OW w2 w with h |h
    ·exact h
    ·exfalso
     have e:A2.length=w:=by omega
     obtain⟨z,hz,ez⟩:=hA3.hits hc e hi
     have:=((memR z).mp (hA2.sub z hz)).2
     rw[hK] at this
     exact this (.inr ⟨ez,(hg i hi).2.2.2.2 A2 z hA3 e hz ez⟩)
   have inS:∀x,x∈S->K x->x=a\/(x≠a/\c x=i/\(x=g i\/lt x (g i))):=λx hx hk=>by
    rw[hK] at hk
    by_cases xa:x=a
    ·exact .inl xa
    ·exact .inr ⟨xa,hk.elim (λz=>absurd z xa) id⟩
   have up:∀x,(x=g i\/lt x (g i))->lt x a:=λx h=>h.elim (λe=>by rw[e];exact hia) λh=>tr _ _ _ h hia
   refine⟨w,λx=>if K x then w2 else c2 x,A,⟨λx hx=>?_,λx y hx hy e=>?_⟩,⟨hA.nd,λx hx=>((memS x).mp (hA.sub x hx)).1,hA.ap⟩,hAl⟩
   ·split
    ·omega
    ·rename_i h;have:=hc2.lt' x ((memR x).mpr ⟨hx,h⟩);omega
   ·by_cases kx:K x
    ·by_cases ky:K y
     ·rcases inS x hx kx with rfl | ⟨xa,xc,xg⟩
      ·rcases inS y hy ky with rfl | ⟨ya,yc,yg⟩
       ·exact .inl rfl
       ·exact .inr (.inr (up y yg))
      ·rcases inS y hy ky with rfl | ⟨ya,yc,yg⟩
       ·exact .inr (.inl (up x xg))
       ·exact hc.cm x y ((memS x).mpr ⟨hx,xa⟩) ((memS y).mpr ⟨hy,ya⟩) (by rw[xc,yc])
     ·rw[N1 kx,N8 ky] at e
      have:=hc2.lt' y ((memR y).mpr ⟨hy,ky⟩);omega
    ·by_cases ky:K y
     ·rw[N8 kx,N1 ky] at e
      have:=hc2.lt' x ((memR x).mpr ⟨hx,kx⟩);omega
     ·rw[N8 kx,N8 ky] at e
      exact hc2.cm x y ((memR x).mpr ⟨hx,kx⟩) ((memR y).mpr ⟨hy,ky⟩) e
end
end L2.DW
namespace RM
open PySem L2
section
variable {m m':SF}{env env1:En}{β β1:Int}{Q:SO->Prop}{L:List Nat}
def Fq {t:Tg}(Pd:D->Bool->Prop)(Ng:D->Prop)(I:En->Int->Prop)(hi:fi (vl env) β=.ok ds β1)(h0:I (bp L env) β1)
  (hs:∀d,d∈ds->∀env β,I env β->∃env1,fQ t d env=some env1/\WP (m env1 β) λs=>(∃d b β2,s=.rt d b β2/\Pd d b)\/(Ng d/\∃env2 β2,s=.nx env2 β2/\I env2 β2))
  (kr:∀d b β,Pd d b->Q (.rt d b β)) (k:(∀d,d∈ds->Ng d)->∀env β,I env β->WP (m' env β) Q):WP (aH (cM t L fi m) m' env β) Q:=by
 have key:∀(es:List D),(∀d,d∈es->d∈ds)->∀env β,I env β->(∃d b β2,ja t m es env β=.rt d b β2/\Pd d b)\/((∀d,d∈es->Ng d)/\∃env2 β2,ja t m es env β=.nx env2 β2/\I env2 β2):=by
  intro es
  induction es with
  |nil=>exact λ_ env β h=>.inr ⟨(λd hd=>by cases hd),env,β,rfl,h⟩
  |cons d es ih=>
   intro hd env β h
   obtain⟨env1,e1,⟨h1⟩⟩:=hs d (hd d (N0 ..)) env β h
   rcases h1 with⟨d',b,β2,e2,hp⟩ | ⟨hn,env2,β2,e2,h2⟩
   ·exact .inl ⟨d',b,β2,by unfold ja;rw[e1];dsimp only;rw[e2],hp⟩
   ·have e3:ja t m (d :: es) env β=ja t m es env2 β2:=by conv=>lhs;unfold ja;rw[e1];dsimp only;rw[e2]
    rw[e3]
    rcases ih (λd h=>hd d (N5 _ h)) env2 β2 h2 with h | ⟨h1,h2⟩
    ·exact .inl h
    ·exact .inr ⟨λx hx=>(NX.mp hx).elim (λe=>e▸hn) (h1 x),h2⟩
 rcases key ds (λ_ h=>h) _ _ h0 with⟨d,b,β2,e,hp⟩ | ⟨hn,env2,β2,e,h2⟩
 ·exact⟨by rw[lV ((dX hi).trans e)];exact kr d b β2 hp⟩
 ·exact wp_seq ((dX hi).trans e) (k hn _ _ h2)
def EU (h:env[i]? =some (.fz d))(q:Q (.rt d false β)):WP (jP i env β) Q:=⟨by unfold jP;rw[h];exact q⟩
def Dv (h:env[i]? =some (.fz d))(q:Q (.rt d false β)):WP (aH (jP i) m' env β) Q:=⟨by unfold aH jP;rw[h];exact q⟩
end
structure Gd (l:List Pr)(t:Nat)(made:List (List Int)):Prop where
 perm:made.flatten.Perm (du t)
 ne:∀c,c∈made->c≠ []
 up:∀c,c∈made->c.Pairwise (· < ·)
 ap:∀c,c∈made->∀a b,a∈c->b∈c->mL l (a,b)=false
def Gd.inn (G:Gd l t made)(hc:c∈made)(ha:a∈c):0<=a/\a < (t:Int):=aV.mp (G.perm.mem_iff.mp (List.mem_flatten.mpr ⟨c,hc,ha⟩))
def Gd.one (G:Gd l t made):Gd l (t + 1) (made ++ [[(t:Int)]]):=by
 refine⟨?_,λc hc=>?_,λc hc=>?_,λc hc a b ha hb=>?_⟩
 ·rw[List.flatten_append,q8]
  exact G.perm.append (by simp)
 all_goals rcases Of.mp hc with hc |hc
 ·exact G.ne c hc
 ·rw[N6] at hc;subst hc;simp
 ·exact G.up c hc
 ·rw[N6] at hc;subst hc;simp
 ·exact G.ap c hc a b ha hb
 ·rw[N6] at hc
  subst hc
  rw[N6] at ha hb
  subst ha hb
  unfold mL;simp
def Gd.put (G:Gd l t made)(hi:made[i]? =some c)(hf:BV l c t=true):Gd l (t + 1) (made.take i ++ [c ++ [(t:Int)]] ++ made.drop (i + 1)):=by
 have hc:=Ob hi
 have split:made=made.take i ++ [c] ++ made.drop (i + 1):=by
  have h:=N9.mp hi
  obtain⟨h1,h2⟩:=h
  rw[<-h2,Pz,List.singleton_append,List.getElem_cons_drop,PB]
 have hno:∀a,a∈c->mL l (a,(t:Int))=false:=λa ha=>by
  unfold BV at hf
  rw[Pk,QF] at hf
  simpa using hf a ha
 have mem:∀d,d∈made.take i ++ [c ++ [(t:Int)]] ++ made.drop (i + 1)->d∈made\/d=c ++ [(t:Int)]:=λd hd=>by
  rcases Of.mp hd with hd |hd
  ·rcases Of.mp hd with hd |hd
   ·exact .inl (PJ hd)
   ·exact .inr (N6.mp hd)
  ·exact .inl (List.mem_of_mem_drop hd)
 refine⟨?_,λd hd=>?_,λd hd=>?_,λd hd a b ha hb=>?_⟩
 ·rw[q8]
  refine List.Perm.trans ?_ (G.perm.append_right [(t:Int)])
  conv=>rhs;rw[split]
  simp only[List.flatten_append,Pg,List.flatten_nil,Qz,Pz]
  exact QK _ (QK _ List.perm_append_comm)
 all_goals rcases mem d hd with hd |hd
 ·exact G.ne d hd
 ·rw[hd];simp
 ·exact G.up d hd
 ·rw[hd]
  exact PF.mpr ⟨G.up c hc,by simp,λa ha b hb=>by rw[N6] at hb;subst hb;exact (G.inn hc ha).2⟩
 ·exact G.ap d hd a b ha hb
 ·rw[hd] at ha hb
  rcases Of.mp ha with ha |ha
  ·rcases Of.mp hb with hb |hb
   ·exact G.ap c hc a b ha hb
   ·rw[N6] at hb;rw[hb];exact hno a ha
  ·rw[N6] at ha
   rw[ha]
   rcases Of.mp hb with hb |hb
   ·rw[Cc];exact hno b hb
   ·rw[N6] at hb;rw[hb];exact Jd l _
def Ft (col:Int->Nat)(made:List (List Int)):Prop:=∀c c',c∈made->c'∈made->∀a b,a∈c->b∈c'->(col a=col b↔c=c')
abbrev Ew (l:List Pr)(a b:Int):Prop:=(a,b)∈l
def sY :mL l (a,b)=false↔DW.Cm (Ew l) a b:=by
 unfold mL DW.Cm
 simp only[Bool.and_eq_false_iff,Bool.not_eq_false',Oq]
def LG:Option (List (List Int))->D
 |none=>.none
 |some m=>.list (m.map bD)
noncomputable def Km (F:List D->FR):List D->FR:=aZ 7 4 (cZ F Hf)
abbrev xr (n w:Nat)(l:List Pr)(made:List (List Int))(t:Nat)(s4 s5 s6:Sl):En:=[.fz (aw n l),.fz (.int w),.fz (.list (made.map bD)),.fz (.int t),s4,s5,s6]
def AO (h:d∈cO zs):∃(i:Nat) (e:D),zs[i]? =some e/\d=.tuple [.int i,e]:=by
 unfold cO at h
 obtain⟨i,hi,e⟩:=List.mem_mapIdx.mp h
 exact⟨i,zs[i],NW hi,e.symm⟩
def mN (G:Gd l t made):made.Nodup:=by
 refine PV.mpr ?_
 have nd:made.flatten.Nodup:=G.perm.nodup_iff.mpr (fX t)
 have:=(List.pairwise_flatten.mp nd).2
 refine OH (λ{x y} hx hy h e=>?_) this
 subst e
 obtain⟨a,ha⟩:=QV _ (G.ne x hx)
 exact h a ha a ha rfl
theorem MM (O:OM.Ord n l)(hw:w<=8):∀(k t m:Nat) (made:List (List Int)),t + k=n->k < m->Gd l t made->made.length<=w->∃R fr,x8 Km m [aw n l,.int w,.list (made.map bD),.int t]=.ok (LG R) fr/\(∀res,R=some res->Gd l n res/\res.length<=w)/\∀col,DW.Co (Ew l) (du n) w col->Ft col made->R≠none:=by
 intro k
 induction k with
 |zero=>
  intro t m made ht hm G hl
  obtain⟨m,rfl⟩:∃m',m=m' + 1:=⟨m - 1,by omega⟩
  have ht:t=n:=by omega
  subst ht
  refine⟨some made,false,?_,λres e=>by cases e;exact⟨G,hl⟩,λ_ _ _ z=>by cases z⟩
  show fin (cZ (x8 Km m) Hf (xr t w l made t .no .no .no) 0)=_
  refine fS ?_
  unfold cZ
  have t1:cB (f2 (gv 3) (f2 (gv 0) (cst (.int 0)) cn) (cV false)) (vl (xr t w l made t .no .no .no)) 0=.ok (decide ((t:Int)=t)) 0:=cF (neg:=false) rfl (Eo (n:=t) (l:=l) rfl)
  rw[N3 rfl] at t1
  exact lT t1 (Dv rfl rfl)
 |succ k ih=>
  intro t m made ht hm G hl
  obtain⟨m,rfl⟩:∃m',m=m' + 1:=⟨m - 1,by omega⟩
  have h8:=O.hi
  refine Exists.elim (?_:∃R:FR,(fin (cZ (x8 Km m) Hf (xr n w l made t .no .no .no) 0)=R)/\∃R' fr,R=.ok (LG R') fr/\(∀res,R'=some res->Gd l n res/\res.length<=w)/\∀col,DW.Co (Ew l) (du n) w col->Ft col made->R'≠none) λR ⟨e,R',fr,e2,h⟩=>⟨R',fr,e.trans e2,h⟩
  refine⟨_,rfl,?_⟩
  refine WP.out (Q:=λs=>∃R' fr,fin s=.ok (LG R') fr/\(∀res,R'=some res->Gd l n res/\res.length<=w)/\∀col,DW.Co (Ew l) (du n) w col->Ft col made->R'≠none) ?_
  unfold cZ
  have t1:cB (f2 (gv 3) (f2 (gv 0) (cst (.int 0)) cn) (cV false)) (vl (xr n w l made t .no .no .no)) 0=.ok (decide ((t:Int)=n)) 0:=cF (neg:=false) rfl (Eo (n:=n) (l:=l) rfl)
  rw[Oe (by omega)] at t1
  refine gB t1 (wp_at (xr n w l made t .no .no .no) rfl ?_)
  have ad:∀s4 s5 s6,f2 (gv 3) (cst (.int 1)) cD (vl (xr n w l made t s4 s5 s6)) 0=.ok (.int ((t + 1:Nat):Int)) 0:=λ_ _ _=>NF rfl
  refine Fq (ds:=cO (made.map bD)) (β1:=0) (λd b=>b=false/\∃res,d=LG (some res)/\Gd l n res/\res.length<=w)
   (λd=>∀(i:Nat) (e:D),d=.tuple [.int i,e]->∀c,made[i]? =some c->BV l c t=true->∀col,DW.Co (Ew l) (du n) w col->¬Ft col (made.take i ++ [c ++ [(t:Int)]] ++ made.drop (i + 1)))
   (λenv b=>b=0/\∃s4 s5 s6,env=xr n w l made t s4 s5 s6) rfl ⟨rfl,_,_,_,rfl⟩ ?_ ?_ ?_
  ·intro d hd env b ⟨hb,s4,s5,s6,he⟩
   subst hb he
   obtain⟨i,e,hi,rfl⟩:=AO hd
   rw[Oa] at hi
   obtain⟨c,hc,rfl⟩:=PQ.mp hi
   have hil:=(N9.mp hc).1
   refine⟨xr n w l made t (.fz (.int i)) (.fz (bD c)) s6,rfl,?_⟩
   have cl:c.length<=8:=by
    have:=L2.ST.a9 ((G.up c (Ob hc)).imp (λh e=>by omega):c.Nodup) (m:=du t) λa ha=>aV.mpr (G.inn (Ob hc) ha)
    rw[bY] at this;omega
   have t2:kU (aq Hf (aa (gv 0) (aa (gv 5) (aa (gv 3) af)))) (vl (xr n w l made t (.fz (.int i)) (.fz (bD c)) s6)) 0=.ok (BV l c t) 0:=fF (au (ds:=[aw n l,.list (c.map int),.int t]) rfl (J9 (by omega)))
   cases hf:BV l c t with
   |false=>
    rw[hf] at t2
    refine uy t2 (l4 (.inr ⟨λi' e' h' c' hc' hf'=>?_,_,_,rfl,rfl,_,_,_,rfl⟩))
    simp only[PyData.tuple.injEq,List.cons.injEq,int.injEq] at h'
    have:i'=i:=by omega
    subst this
    rw[hc] at hc'
    cases hc'
    rw[hf] at hf';cases hf'
   |true=>
    rw[hf] at t2
    refine LB t2 (wp_at (xr n w l made t (.fz (.int i)) (.fz (bD c)) s6) rfl ?_)
    have G2:=G.put hc hf
    have l2:(made.take i ++ [c ++ [(t:Int)]] ++ made.drop (i + 1)).length=made.length:=by simp;omega
    obtain⟨R,fr,e1,e2,e3⟩:=ih (t + 1) m _ (by omega) (by omega) G2 (by omega)
    have arg:f2 (f2 (CA (gv 2) (λ_ β=>.ok none β) (DL (gv 4))) (bR (aa (f2 (gv 5) (bR (aa (gv 3) af)) dH) af)) dH) (CA (gv 2) (DL (f2 (gv 4) (cst (.int 1)) cD)) (λ_ β=>.ok none β)) dH (vl (xr n w l made t (.fz (.int i)) (.fz (bD c)) s6)) 0=.ok (.list ((made.take i ++ [c ++ [(t:Int)]] ++ made.drop (i + 1)).map bD)) 0:=by
     rw[OA,OA,map_take,map_drop]
     refine wJ (wJ (CU (ds:=made.map bD) rfl rfl) (lp (ac (?_:_=L2.R.ok (bD (c ++ [(t:Int)])) 0) an)) ?_) (zi (ds:=made.map bD) rfl (NF rfl)) ?_
     ·have:=wJ (fa:=gv 5) (fb:=bR (aa (gv 3) af)) (vs:=vl (xr n w l made t (.fz (.int i)) (.fz (bD c)) s6)) (β:=0) (a:=c.map int) (b:=[.int t]) rfl (lp (ac rfl an)) (by simp;omega)
      rw[this];unfold bD;rw[OA];rfl
     ·rw[OX,NZ];simp;omega
     ·rw[Ow,OX,length_drop,NZ];simp;omega
    refine nQ (au (ds:=[aw n l,.int w,.list ((made.take i ++ [c ++ [(t:Int)]] ++ made.drop (i + 1)).map bD),.int ((t + 1:Nat):Int)]) (ac rfl (ac rfl (ac arg (ac (ad _ _ _) an)))) e1) (wp_at (xr n w l made t (.fz (.int i)) (.fz (bD c)) (.fz (LG R))) rfl ?_)
    cases R with
    |none=>
     refine uy (β1:=0) rfl (l4 (.inr ⟨λi' e' h' c' hc' hf' col hco hft=>?_,_,_,rfl,rfl,_,_,_,rfl⟩))
     simp only[PyData.tuple.injEq,List.cons.injEq,int.injEq] at h'
     have:i'=i:=by omega
     subst this
     rw[hc] at hc'
     cases hc'
     exact e3 col hco hft rfl
    |some res=>
     obtain⟨g1,g2⟩:=e2 res rfl
     exact LB (β1:=0) rfl (EU rfl (.inl ⟨_,_,_,rfl,rfl,res,rfl,g1,g2⟩))
  ·intro d b β ⟨hb,res,hd,g1,g2⟩
   subst hb hd
   exact⟨some res,false,rfl,(λr e=>by cases e;exact⟨g1,g2⟩),λ_ _ _ z=>by cases z⟩
  ·intro hN env b ⟨hb,s4,s5,s6,he⟩
   subst hb he
   have t3:cB (f2 (f1 (gv 2) bL) (gv 1) (cV false)) (vl (xr n w l made t s4 s5 s6)) 0=.ok (decide ((made.length:Int)=w)) 0:=cF (neg:=false) (by rw[i7 (ds:=made.map bD) rfl,NZ]) rfl
   have own:∀col,DW.Co (Ew l) (du n) w col->Ft col made->(∀c,c∈made->∀a,a∈c->col a≠col t):=λcol hco hft c hc a ha e=>by
    obtain⟨i,hi⟩:=Pw hc
    have same:∀b,b∈c->col b=col t:=λb hb=>((hft c c hc hc b a hb ha).mpr rfl).trans e
    have hf:BV l c t=true:=by
     unfold BV
     rw[Pk,QF]
     intro b hb
     have hbn:=G.inn hc hb
     have:=sY.mpr (hco.cm b t (aV.mpr ⟨hbn.1,by omega⟩) (aV.mpr ⟨by omega,by omega⟩) (same b hb))
     rw[this];decide
    have hgi:(made.map bD)[i]? =some (bD c):=by rw[Oa,hi];rfl
    refine hN (.tuple [.int i,bD c]) (by
     unfold cO
     obtain⟨h1,h2⟩:=N9.mp hgi
     exact List.mem_mapIdx.mpr ⟨i,h1,by rw[h2]⟩) i (bD c) rfl c hi hf col hco ?_
    have hil:=(N9.mp hi).1
    have ndm:=mN G
    have mem:∀d,d∈made.take i ++ [c ++ [(t:Int)]] ++ made.drop (i + 1)->(d∈made/\d≠c)\/d=c ++ [(t:Int)]:=λd hd=>by
     have key:∀j,j≠i->made[j]? =some d->d∈made/\d≠c:=λj hj h=>⟨Ob h,λz=>by
      rw[z] at h
      exact hj ((List.getElem?_inj (N9.mp h).1 ndm).mp (h.trans hi.symm))⟩
     rcases Of.mp hd with hd |hd
     ·rcases Of.mp hd with hd |hd
      ·obtain⟨j,hj⟩:=Pw hd
       have hj1:=(N9.mp hj).1
       rw[OX] at hj1
       rw[QX (by omega)] at hj
       exact .inl (key j (by omega) hj)
      ·exact .inr (N6.mp hd)
     ·obtain⟨j,hj⟩:=Pw hd
      rw[List.getElem?_drop] at hj
      exact .inl (key (i + 1 + j) (by omega) hj)
    have colc:∀a,a∈c ++ [(t:Int)]->col a=col t:=λa ha=>by
     rcases Of.mp ha with ha |ha
     ·exact same a ha
     ·rw[N6] at ha;rw[ha]
    intro d d' hd hd' x y hx hy
    rcases mem d hd with⟨h1,h1'⟩ |h1
    ·rcases mem d' hd' with⟨h2,h2'⟩ |h2
     ·exact hft d d' h1 h2 x y hx hy
     ·subst h2
      refine⟨λe'=>absurd ((hft d c h1 hc x a hx ha).mp (e'.trans ((colc y hy).trans (same a ha).symm))) h1',λe'=>?_⟩
      subst e'
      have:=(G.inn h1 (Ox c (N6.mpr rfl))).2
      omega
    ·subst h1
     rcases mem d' hd' with⟨h2,h2'⟩ |h2
     ·refine⟨λe'=>absurd ((hft d' c h2 hc y a hy ha).mp (e'.symm.trans ((colc x hx).trans (same a ha).symm))) h2',λe'=>?_⟩
      subst e'
      have:=(G.inn h2 (Ox c (N6.mpr rfl))).2
      omega
     ·subst h2
      exact⟨λ_=>rfl,λ_=>(colc x hx).trans (colc y hy).symm⟩
   by_cases hfull:(made.length:Int)=w
   ·rw[N3 hfull] at t3
    refine lT t3 (nv rfl ⟨none,false,rfl,(λr e=>by cases e),λcol hco hft _=>?_⟩)
    have ow:=own col hco hft
    have ndm:=mN G
    have:=L2.ST.a9 (l:=col t :: made.map λc=>col (c.headD 0)) (m:=List.range w) (Ov.mpr ⟨λz=>?_,OP.mpr (OH (λ{x y} hx hy h e=>?_) ndm)⟩) λq hq=>?_
    ·simp at this;omega
    ·obtain⟨c,hc,e⟩:=N7.mp z
     have:c.headD 0∈c:=by
      have:=G.ne c hc
      cases c with
      |nil=>exact absurd rfl this
      |cons a _=>exact N0 ..
     exact ow c hc _ this e
    ·have hdx:∀c,c∈made->c.headD 0∈c:=λc hc=>by
      have:=G.ne c hc
      cases c with
      |nil=>exact absurd rfl this
      |cons a _=>exact N0 ..
     exact h ((hft x y hx hy _ _ (hdx x hx) (hdx y hy)).mp e)
    ·rcases NX.mp hq with rfl |hq
     ·exact Og.mpr (hco.lt' _ (aV.mpr ⟨by omega,by omega⟩))
     ·obtain⟨c,hc,rfl⟩:=N7.mp hq
      have:c.headD 0∈c:=by
       have:=G.ne c hc
       cases c with
       |nil=>exact absurd rfl this
       |cons a _=>exact N0 ..
      have hb:=G.inn hc this
      exact Og.mpr (hco.lt' _ (aV.mpr ⟨hb.1,by omega⟩))
   ·rw[Oe hfull] at t3
    refine gB t3 (wp_at (xr n w l made t s4 s5 s6) rfl ?_)
    obtain⟨R,fr,e1,e2,e3⟩:=ih (t + 1) m _ (by omega) (by omega) G.one (by simp;omega)
    have arg:f2 (gv 2) (bR (aa (bR (aa (gv 3) af)) af)) dH (vl (xr n w l made t s4 s5 s6)) 0=.ok (.list ((made ++ [[(t:Int)]]).map bD)) 0:=by
     rw[OA]
     exact wJ (a:=made.map bD) (b:=[bD [(t:Int)]]) rfl (lp (ac (lp (ac rfl an)) an)) (by rw[NZ];simp;omega)
    refine jw (au (ds:=[aw n l,.int w,.list ((made ++ [[(t:Int)]]).map bD),.int ((t + 1:Nat):Int)]) (ac rfl (ac rfl (ac arg (ac (ad _ _ _) an)))) e1) ⟨R,false,rfl,e2,λcol hco hft=>e3 col hco ?_⟩
    have ow:=own col hco hft
    intro d d' hd hd' x y hx hy
    rcases Of.mp hd with h1 |h1
    ·rcases Of.mp hd' with h2 |h2
     ·exact hft d d' h1 h2 x y hx hy
     ·rw[N6] at h2
      subst h2
      rw[N6] at hy
      subst hy
      exact⟨λe'=>absurd e' (ow d h1 x hx),λe'=>by subst e';have:=(G.inn h1 (N6.mpr rfl)).2;omega⟩
    ·rw[N6] at h1
     subst h1
     rw[N6] at hx
     subst hx
     rcases Of.mp hd' with h2 |h2
     ·exact⟨λe'=>absurd e'.symm (ow d' h2 y hy),λe'=>by subst e';have:=(G.inn h2 (N6.mpr rfl)).2;omega⟩
     ·rw[N6] at h2
      subst h2
      rw[N6] at hy
      subst hy
      exact⟨λ_=>rfl,λ_=>rfl⟩
noncomputable def wO:List D->FR:=aZ 2 2 (xy fm MR MU)
def J1 (l:List Pr)(p:Pr):Bool:=((l.filter λq=>decide (q.2=p.1)).all λq=>decide ((q.1,p.2)∈l)) && ((l.filter λq=>decide (q.1=p.2)).all λq=>decide ((p.1,q.2)∈l))
def ux :mL l p=true↔p.1≠p.2/\(p.1,p.2)∉l/\(p.2,p.1)∉l:=by
 unfold mL
 simp only[Om,Pk,Pt,ne_eq]
def LH (O:OM.Ord n l)(hz:rs.length<=1000)(hne:rs≠ [])(hr:∀r,r∈rs->Row n l r):MR [.list (rs.map tupI),aw n l]=.ok (.bool true) false:=by
 have h8:=O.hi
 show fin (j3 L7 [.fz (.list (rs.map tupI)),.fz (aw n l)] 0)=_
 refine fS ?_
 unfold j3
 have t2:cB (f2 (f1 (gv 0) bL) (cst (.int 0)) (cV false)) (vl [.fz (.list (rs.map tupI)),.fz (aw n l)]) 0=.ok (decide (((rs.map tupI).length:Int)=0)) 0:=cF (neg:=false) (i7 rfl) rfl
 rw[Oe (by have:=List.length_pos_iff.mpr hne;rw[NZ];omega)] at t2
 refine gB (kO (cQ (a:=true) (fF (c:=true) (cK (x:=.list (rs.map tupI)) rfl rfl))) t2) ?_
 have ea:=uQ (l:=rs) (f:=λ_=>true) (fa:=aP 1 [1] (.nm 0) (bq (gv 0)) kL (aq L7 (aa (gv 0) (aa (gv 1) af)))) (vs:=vl [.fz (.list (rs.map tupI)),.fz (aw n l)]) (β:=0) (bI (l:=rs) (e:=tupI) (λ_=>PyData.bool true) rfl (by omega) λr hm=>⟨[.da (tupI r),.da (aw n l)],rfl,au (ds:=[tupI r,aw n l]) rfl (by
  obtain⟨hl,hrb⟩:=LQ h8 (hr r hm).1
  rw[MQ O (HS (by omega) hrb).1,zg (hr r hm)])⟩)
 rw[Ot.mpr λ_ _=>rfl] at ea
 exact jw ea rfl
def EO (O:OM.Ord n l)(hz:rs.length<=1000)(hne:rs≠ [])(hr:∀r,r∈rs->Row n l r):wO [.list (rs.map tupI),aw n l]=.ok (.bool (decide ((OM.dI n).filter (Gz rs)=l))) false:=by
 show fin (xy fm MR MU [.fz (.list (rs.map tupI)),.fz (aw n l)] 0)=_
 exact fS (lQ (au (ds:=[aw n l]) rfl (lD O)) (jw (Hm (au (ds:=[.list (rs.map tupI),aw n l]) rfl (LH O hz hne hr)) (aI (au (ds:=[.int n,.list (rs.map tupI)]) (ac (Eo (n:=n) (l:=l) rfl) (ac rfl an)) (HY O.lo O.hi hz λr h=>(hr r h).1)) (LN (n:=n) (l:=l) rfl) (wK false _ _))) rfl))
def Bx (O:OM.Ord n l)(h1:rs≠ [])(h:∀r,r∈rs->Row n l r):(OM.dI n).filter (Gz rs)=l↔∀p,p∈M7 n l->∃r,r∈rs/\r.idxOf p.2 < r.idxOf p.1:=by
 have sh:∀p,Gz rs p=true↔∀r,r∈rs->r.idxOf p.1 < r.idxOf p.2:=λp=>by
  unfold Gz
  rw[Ot]
  exact⟨λh r hr=>OS (h r hr),λh r hr=>N3 (h r hr)⟩
 have fit:∀{a b:Int} {r:List Int},r∈rs->(a,b)∈l->r.idxOf a < r.idxOf b:=λ{a b r} hr hm=>OS (Ot.mp (h r hr).2 (a,b) hm)
 constructor
 ·intro e p hp
  obtain⟨hg,ha⟩:=tR.mp hp
  obtain⟨a1,a2,a3⟩:=ux.mp ha
  have hn:¬Gz rs p=true:=λhs=>a2 (by rw[<-e];exact Oi.mpr ⟨OM.cJ.mpr hg,hs⟩)
  rw[sh] at hn
  obtain⟨r,hr⟩:=Classical.not_forall.mp hn
  obtain⟨hr1,hr2⟩:=Classical.not_imp.mp hr
  refine⟨r,hr1,Nat.lt_of_le_of_ne (Nat.le_of_not_lt hr2) λz=>a1 ?_⟩
  have pm:=(h r hr1).1
  exact (FT (pm.mem_iff.mpr (aV.mpr hg.2)) (pm.mem_iff.mpr (aV.mpr hg.1)) z).symm
 ·intro ht
  refine OM.gN (OM.mr _ (OM.nk n)) O.ris λp=>?_
  rw[Oi,sh]
  constructor
  ·rintro⟨hg,hs⟩
   by_cases c:p∈l
   ·exact c
   ·obtain⟨r,rs',rfl⟩:∃r rs',rs=r :: rs':=by
     cases rs with
     |nil=>exact absurd rfl h1
     |cons r rs'=>exact⟨r,rs',rfl⟩
    have hr:r∈r :: rs':=N0 ..
    have l1:=hs r hr
    obtain⟨q,hq1,hq2⟩:=ht p (tR.mpr ⟨OM.cJ.mp hg,ux.mpr ⟨λe=>by rw[e] at l1;omega,c,λz=>by have:=fit hr z;omega⟩⟩)
    have:=hs q hq1
    omega
  ·intro hm
   exact⟨OM.cJ.mpr (O.wn p hm),λr hr=>fit hr hm⟩
noncomputable def JR:List D->FR:=aZ 1 1 (qy fm)
def Ds (n:Nat)(l:List Pr):List Pr:=(OM.dI n).filter λp=>decide ((p.2,p.1)∈l)
def j9 (O:OM.Ord n l):p∈Ds n l↔(p.2,p.1)∈l:=by
 unfold Ds
 rw[Oi,OM.cJ,Oq]
 exact⟨λh=>h.2,λh=>⟨⟨(O.wn _ h).2,(O.wn _ h).1⟩,h⟩⟩
def DM (O:OM.Ord n l):OM.Ord n (Ds n l):=
 ⟨O.lo,O.hi,λp hp=>⟨(O.wn _ ((j9 O).mp hp)).2,(O.wn _ ((j9 O).mp hp)).1⟩,OM.mr _ (OM.nk n),λa h=>O.irr a ((j9 O).mp h),λa b c h1 h2=>(j9 O).mpr (O.tr c b a ((j9 (p:=(b,c)) O).mp h2) ((j9 (p:=(a,b)) O).mp h1))⟩
def Mu (O:OM.Ord n l):JR [aw n l]=.ok (aw n (Ds n l)) false:=by
 have hl:=jZ O
 show fin (qy fm [.fz (aw n l)] 0)=_
 have hm:∀q:Pr,q∈l.map (λp=>(p.2,p.1))↔(q.2,q.1)∈l:=λq=>by
  rw[N7]
  constructor
  ·rintro⟨p,hp,rfl⟩;exact hp
  ·exact λh=>⟨_,h,rfl⟩
 have hs:nU (.list (l.map λp=>aU (p.2,p.1)))=some (.list ((Ds n l).map aU)):=by
  have e:(l.map λp=>aU (p.2,p.1))=(l.map λp=>(p.2,p.1)).map aU:=by rw[O1];rfl
  rw[e,AB (N:=n) O.lo O.hi (λq hq=>by have:=O.wn _ ((hm q).mp hq);exact⟨this.2,this.1⟩) (List.Pairwise.map _ (λa b h z=>h (Prod.ext (congrArg Prod.snd z) (congrArg Prod.fst z))) (OM.iE O.ris)) (λa ha=>O.irr a ((hm _).mp ha))]
  congr 3
  refine OM.gN (OM.cX _ _) (DM O).ris λq=>?_
  rw[OM.bo,j9 O]
  show (_/\q∈l.map λp=>(p.2,p.1))↔_
  rw[hm q]
  have h8:=O.hi
  exact⟨λh=>h.2,λh=>by have:=O.wn _ h;dsimp only at this;exact⟨⟨⟨this.2.1,by omega⟩,this.1.1,by omega⟩,h⟩⟩
 refine fS (lQ (au (ds:=[aw n l]) rfl (lD O)) (jw (β1:=0) (tp (ds:=[.int n,.tuple ((Ds n l).map aU)]) (ac (Eo (n:=n) (l:=l) rfl) (ac (cK (x:=.list ((Ds n l).map aU)) (cK (bI (l:=l) (e:=aU) (λp=>aU (p.2,p.1)) ?_ (by omega) λp hp=>⟨[.da (.int p.1),.da (.int p.2)],rfl,kZ rfl rfl⟩) hs) rfl) an))) rfl))
 unfold bq
 rw[LN (n:=n) (l:=l) rfl];rfl
noncomputable def ye:List D->FR:=aZ 2 2 (bN fm df)
def Eg (O:OM.Ord n l)(hd:dq d=false)(hb:eQ d n=true):ye [aw n l,d]=.ok .none false:=by
 show fin (bN fm df [.fz (aw n l),.fz d] 0)=_
 refine fS ?_
 unfold bN
 refine lQ (au (ds:=[aw n l]) (ac rfl an) (lD O)) (wp_at [.fz (aw n l),.fz d] rfl ?_)
 have t:kU (aq df (aa (gv 1) (aa (f2 (gv 0) (cst (.int 0)) cn) af))) (vl [.fz (aw n l),.fz d]) 0=.ok true 0:=fF (by rw[<-hb];exact au (ds:=[d,.int n]) (ac rfl (ac (Eo (n:=n) (l:=l) rfl) an)) (pF hd))
 exact uy (cQ t) (l4 rfl)
def zr (l:List Pr)(i:Int):List Int:=(l.filter λq=>decide (q.2=i)).map (·.1)
def BS (l:List Pr)(i:Int):List Int:=(l.filter λq=>decide (q.1=i)).map (·.2)
noncomputable def uP:List D->FR:=aZ 2 2 (pH ye)
noncomputable def pz:List D->FR:=aZ 2 2 (nq ye)
def om (h:0<=i/\i < n):eQ (.int i) n=true:=N3 h
def EZ {n:Nat}{l:List Pr}(O:OM.Ord n l){i:Int}(h:0<=i/\i < n):uP [aw n l,.int i]=.ok (.list ((zr l i).map int)) true:=by
 have hl:=jZ O
 show fin (pH ye [.fz (aw n l),.fz (.int i)] 0)=_
 unfold pH
 rw[aF (env':=[.fz (aw n l),.fz (.int i)]) (β':=0) ?g1]
 case g1=>rw[nE,au (ds:=[aw n l,.int i]) (d:=.none) (b:=false) (β1:=0) rfl (Eg O rfl (om h))];rfl
 have e:aP 2 [1] (.two 0 1) (bq (f2 (gv 0) (cst (.int 1)) cn)) (cB (f2 (gv 1) (gv 2) (cV false))) (gv 0) (vl [.fz (aw n l),.fz (.int i)]) 0=.ok (.list ((zr l i).map int)) 0:=by
  unfold zr
  rw[O1]
  exact dF (l:=l) (e:=aU) (λq=>decide (q.2=i)) (λq=>int q.1) rfl (by omega) λq hq=>⟨_,rfl,cF (neg:=false) (i:=q.2) (j:=i) rfl rfl,λ_=>rfl⟩
 rw[ny,e];rfl
def B5 {n:Nat}{l:List Pr}(O:OM.Ord n l){i:Int}(h:0<=i/\i < n):pz [aw n l,.int i]=.ok (.list ((BS l i).map int)) true:=by
 have hl:=jZ O
 show fin (nq ye [.fz (aw n l),.fz (.int i)] 0)=_
 unfold nq
 rw[aF (env':=[.fz (aw n l),.fz (.int i)]) (β':=0) ?g1]
 case g1=>rw[nE,au (ds:=[aw n l,.int i]) (d:=.none) (b:=false) (β1:=0) rfl (Eg O rfl (om h))];rfl
 have e:aP 2 [1] (.two 0 1) (bq (f2 (gv 0) (cst (.int 1)) cn)) (cB (f2 (gv 0) (gv 2) (cV false))) (gv 1) (vl [.fz (aw n l),.fz (.int i)]) 0=.ok (.list ((BS l i).map int)) 0:=by
  unfold BS
  rw[O1]
  exact dF (l:=l) (e:=aU) (λq=>decide (q.1=i)) (λq=>int q.2) rfl (by omega) λq hq=>⟨_,rfl,cF (neg:=false) (i:=q.1) (j:=i) rfl rfl,λ_=>rfl⟩
 rw[ny,e];rfl
noncomputable def ou:List D->FR:=aZ 3 2 (pB ye uP pz)
def zN (n:Nat)(l:List Pr)(i:Int):List Int:=(du n).filter λc=> !decide (c∈zr l i ++ [i] ++ BS l i)
def HW (l:List Pr)(i:Int):(zr l i).length<=l.length:=by unfold zr;rw[NZ];exact O5 _ _
def HF (l:List Pr)(i:Int):(BS l i).length<=l.length:=by unfold BS;rw[NZ];exact O5 _ _
def Ao {n:Nat}{l:List Pr}(O:OM.Ord n l){i:Int}(h:0<=i/\i < n):ou [aw n l,.int i]=.ok (.list ((zN n l i).map int)) true:=by
 have hl:=jZ O
 have h8:=O.hi
 have h1:=HW l i
 have h2:=HF l i
 show fin (pB ye uP pz [.fz (aw n l),.fz (.int i),.no] 0)=_
 unfold pB
 rw[aF (env':=[.fz (aw n l),.fz (.int i),.no]) (β':=0) ?g1]
 case g1=>rw[nE,au (ds:=[aw n l,.int i]) (d:=.none) (b:=false) (β1:=0) rfl (Eg O rfl (om h))];rfl
 have e2:f2 (f2 (aq uP (aa (gv 0) (aa (gv 1) af))) (bR (aa (gv 1) af)) dH) (aq pz (aa (gv 0) (aa (gv 1) af))) dH (vl [.fz (aw n l),.fz (.int i),.no]) 0=.ok (.list ((zr l i ++ [i] ++ BS l i).map int)) 0:=by
  refine aI (x:=.list ((zr l i ++ [i]).map int)) (aI (au (ds:=[aw n l,.int i]) rfl (EZ O h)) (iu (ds:=[.int i]) rfl (by simp)) ?_) (au (ds:=[aw n l,.int i]) rfl (B5 O h)) ?_
  ·rw[kn (by rw[NZ];simp;omega),OA];rfl
  ·rw[kn (by rw[NZ,NZ,Ow];simp;omega),OA (l₁:=zr l i ++ [i])]
 rw[aF (env':=[.fz (aw n l),.fz (.int i),.fz (.list ((zr l i ++ [i] ++ BS l i).map int))]) (β':=0) ?g2]
 case g2=>rw[ij,e2];rfl
 have e:aP 1 [2] (.nm 0) (i6 (f2 (gv 0) (cst (.int 0)) cn)) (cB (f2 (gv 0) (gv 1) (rV true))) (gv 0) (vl [.fz (aw n l),.fz (.int i),.fz (.list ((zr l i ++ [i] ++ BS l i).map int))]) 0=.ok (.list ((zN n l i).map int)) 0:=by
  refine dF (l:=du n) (e:=int) (λc=> !decide (c∈zr l i ++ [i] ++ BS l i)) int ?_ (by rw[bY];omega) λc hc=>⟨_,rfl,dA _ _ _ _ (aI (x:=.int c) rfl rfl (nJ true c _)),λ_=>rfl⟩
  rw[<-tx]
  exact lj (n:=n) (Eo (n:=n) (l:=l) rfl) (by omega)
 rw[ny,e];rfl
def EL :c∈zr l j ++ [j] ++ BS l j↔(c,j)∈l\/c=j\/(j,c)∈l:=by
 unfold zr BS
 simp only[Of,N7,Oi,Oq,N6]
 constructor
 ·rintro ((⟨⟨a,b⟩,⟨h,rfl⟩,rfl⟩ |h) | ⟨⟨a,b⟩,⟨h,rfl⟩,rfl⟩)
  ·exact .inl h
  ·exact .inr (.inl h)
  ·exact .inr (.inr h)
 ·rintro (h |h |h)
  ·exact .inl (.inl ⟨_,⟨h,rfl⟩,rfl⟩)
  ·exact .inl (.inr h)
  ·exact .inr ⟨_,⟨h,rfl⟩,rfl⟩
def oj (n:Nat)(l:List Pr)(j:Int):((du n).filter λc=>mL l (j,c))=zN n l j:=by
 unfold zN mL
 refine List.filter_congr λc _=>?_
 rw[Pc]
 simp only[Om,Pk,Oq,Pt,EL]
 constructor
 ·rintro⟨h1,h2,h3⟩ (h |h |h)
  ·exact h3 h
  ·exact h1 h.symm
  ·exact h2 h
 ·intro h
  exact⟨λz=>h (.inr (.inl z.symm)),λz=>h (.inr (.inr z)),λz=>h (.inl z)⟩
def xD (ds:List D)(h:fm ds≠.bad):aZ 1 1 (hJ iZ) ds=fm ds:=by
 unfold fm at h
 split at h
 ·obtain⟨n,l,rfl,O⟩:=ve h
  rw[lD O]
  show fin (hJ iZ [.fz (aw n l)] 0)=_
  exact fS (uy (cQ (fF (au (ds:=[aw n l]) rfl (tm O)))) (l4 rfl))
 ·exact absurd rfl h
noncomputable def IB:List D->FR:=aZ 1 1 (m8 fm (x8 Km 40) EW)
def Gd.mem (G:Gd l t made)(h:0<=a/\a < (t:Int)):∃c,c∈made/\a∈c:=by
 obtain⟨c,hc,ha⟩:=List.mem_flatten.mp (G.perm.mem_iff.mpr (aV.mpr h))
 exact⟨c,hc,ha⟩
noncomputable def Me (made:List (List Int))(a:Int):Nat:=made.findIdx λc=>decide (a∈c)
def tQ (G:Gd l t made)(h:0<=a/\a < (t:Int)):∃c,made[Me made a]? =some c/\a∈c:=by
 obtain⟨c,hc,ha⟩:=G.mem h
 have lt:Me made a < made.length:=List.findIdx_lt_length.mpr ⟨c,hc,N3 ha⟩
 exact⟨made[Me made a],NW lt,OS (List.findIdx_getElem (w:=lt))⟩
def CQ (G:Gd l n made):DW.Co (Ew l) (du n) made.length (Me made):=by
 refine⟨λx hx=>?_,λx y hx hy e=>?_⟩
 ·obtain⟨c,hc,_⟩:=tQ G (aV.mp hx)
  exact (N9.mp hc).1
 ·obtain⟨c,hc,h1⟩:=tQ G (aV.mp hx)
  obtain⟨c',hc',h2⟩:=tQ G (aV.mp hy)
  rw[e,hc'] at hc
  cases hc
  exact sY.mp (G.ap _ (Ob hc') x y h1 h2)
def GO (h:OM.Lv (dD l) n k g):DW.An (Ew l) (du n) g:=by
 obtain⟨h1,h2,h3,h4⟩:=h
 refine⟨h2.imp λh e=>by omega,λx hx=>aV.mpr (h3 x hx),λx y hx hy hc=>?_⟩
 have:=sY.mpr hc
 rcases Int.lt_trichotomy x y with h |h |h
 ·exfalso
  obtain⟨i,hi⟩:=Pw hx
  obtain⟨j,hj⟩:=Pw hy
  obtain⟨i1,i2⟩:=N9.mp hi
  obtain⟨j1,j2⟩:=N9.mp hj
  rcases P9 i j with q |q |q
  ·have:=O2.mp h4 i j i1 j1 q
   rw[i2,j2] at this
   unfold dD at this
   simp_all
  ·subst q;omega
  ·have:=O2.mp h2 j i j1 i1 q
   rw[i2,j2] at this;omega
 ·exact h
 ·exfalso
  obtain⟨i,hi⟩:=Pw hx
  obtain⟨j,hj⟩:=Pw hy
  obtain⟨i1,i2⟩:=N9.mp hi
  obtain⟨j1,j2⟩:=N9.mp hj
  rcases P9 j i with q |q |q
  ·have:=O2.mp h4 j i j1 i1 q
   rw[i2,j2] at this
   unfold dD at this
   rw[Cc] at this
   simp_all
  ·subst q;omega
  ·have:=O2.mp h2 i j i1 j1 q
   rw[i2,j2] at this;omega
def Ka (h:DW.An (Ew l) (du n) A)(hk:k<=A.length):OM.Lv (dD l) n k ((sortI A).take k):=by
 have mm:∀a,a∈sortI A↔a∈A:=λa=>(sortI_perm A).mem_iff
 have up:=K4 h.nd
 have pw:(sortI A).Pairwise λa b=>dD l a b=true:=OH (λ{a b} ha hb hlt=>by
  unfold dD
  cases e:mL l (a,b) with
  |true=>rfl
  |false=>have:=h.ap a b ((mm a).mp ha) ((mm b).mp hb) (sY.mp e);omega) up
 refine⟨by rw[OX,(sortI_perm A).length_eq];omega,up.sublist (Qn ..),λx hx=>aV.mp (h.sub x ((mm x).mp (PJ hx))),pw.sublist (Qn ..)⟩
theorem KH (O:OM.Ord n l):∃(res:List (List Int)) (g:List Int) (k:Nat) (fr:Bool),IB [aw n l]=.ok (.list (res.map bD)) fr/\Gd l n res/\res.length=g.length/\EW [aw n l]=.ok (bD g) false/\OM.Lv (dD l) n (k + 1) g/\(∀g',¬OM.Lv (dD l) n (k + 2) g')/\(∀g',OM.Lv (dD l) n (k + 1) g'->g'=g\/L2.HM.lexLt g g'=true):=by
 have h8:=O.hi
 obtain⟨g,k,eg,lv,nlv,lx⟩:=Ms O h8
 have gl:g.length=k + 1:=lv.1
 have ag:=GO lv
 have g8:g.length<=8:=by
  have:=L2.ST.a9 ag.nd (m:=du n) ag.sub
  rw[bY] at this;omega
 have G0:Gd l 0 []:=⟨by simp[du],(λc h=>by cases h),(λc h=>by cases h),(λc h=>by cases h)⟩
 obtain⟨R,fr,e1,e2,e3⟩:=MM O g8 n 0 40 [] (by omega) (by omega) G0 (by simp)
 obtain⟨w,col,A,hco,hA,hAl⟩:=DW.DK (lt:=Ew l) (λx h=>O.irr x h) (λx y z h1 h2=>O.tr x y z h1 h2) n (du n) (by rw[bY];omega) (fX n)
 have wle:w<=g.length:=by
  rcases OW (k + 1) w with h |h
  ·exact absurd (Ka hA (k:=k + 2) (by omega)) (nlv _)
  ·omega
 have hR:=e3 col ⟨λx hx=>by have:=hco.lt' x hx;omega,hco.cm⟩ (λc c' hc=>by cases hc)
 cases R with
 |none=>exact absurd rfl hR
 |some res=>
  obtain⟨G,rl⟩:=e2 res rfl
  have:=ag.len (CQ G)
  refine⟨res,g,k,false,?_,G,by omega,eg,lv,nlv,lx⟩
  show fin (m8 fm (x8 Km 40) EW [.fz (aw n l)] 0)=_
  refine fS ?_
  unfold m8
  refine lQ (au (ds:=[aw n l]) (ac rfl an) (lD O)) (wp_at [.fz (aw n l)] rfl ?_)
  have el:f1 (aq EW (aa (gv 0) af)) bL (vl [.fz (aw n l)]) 0=.ok (.int (g.length:Nat)) 0:=by
   rw[i7 (ds:=g.map int) (au (ds:=[aw n l]) (ac rfl an) eg),NZ]
  exact jw (au (ds:=[aw n l,.int (g.length:Nat),.list (([]:List (List Int)).map bD),.int ((0:Nat):Int)]) (ac rfl (ac el (ac (lp an) (ac rfl an)))) e1) rfl
noncomputable def Jc:List D->FR:=aZ 4 2 (ik fm HZ)
def Gd.va (h8:n<=8)(G:Gd l n res)(hc:c∈res):va n l (bD c)=true:=K0 h8 (G.ne c hc) (λk hk=>G.inn hc hk) (G.up c hc) (G.ap c hc)
def NN (h:ns.length<=100):Gc (bD ns):=⟨rfl,λds e=>by
  cases e
  exact⟨by rw[NZ];exact h,λe he=>by obtain⟨k,_,rfl⟩:=N7.mp he;rfl⟩⟩
def Gd.lens (G:Gd l n res):res.flatten.length=n/\∀c,c∈res->c.length<=n:=by
 have h:=G.perm.length_eq
 rw[bY] at h
 refine⟨h,λc hc=>?_⟩
 have:=(List.sublist_flatten_of_mem hc).length_le
 omega
def Ht (hi:env[i]? =some (.ow (.list ds)))(hf:f (vl env) β=.ok (.list es) β')(hL:(bp L env)[i]? =some (.ow (.list ds)))(hz:ds.length + es.length<=1000):Du i L f env β=.nx ((bp L env).set i (.ow (.list (ds ++ es)))) β':=by
 unfold Du
 rw[hi,N1 (show o9 (some (.ow (.list ds)))=true from rfl),hf]
 dsimp only[toS]
 rw[uV hL (es:=ds ++ es)]
 rw[N1 (by rw[Oo];omega)]
def KS {n:Nat}{l:List Pr}{cs:List (List Int)}(O:OM.Ord n l)(hc:∀c,c∈cs->va n l (bD c)=true/\c.length<=8)(hz:cs.flatten.length<=8)(hl:cs.length<=8):Jc [.list (cs.map bD),aw n l]=.ok (.bool (decide (sortI cs.flatten=du n))) false:=by
 show fin (ik fm HZ [.fz (.list (cs.map bD)),.fz (aw n l),.no,.no] 0)=_
 refine fS ?_
 unfold ik
 have h8:=O.hi
 refine lQ (au (ds:=[aw n l]) (ac rfl an) (lD O)) (wp_at [.fz (.list (cs.map bD)),.fz (aw n l),.no,.no] rfl ?_)
 have ec:aP 1 [1] (.nm 0) (bq (gv 0)) kL (aq HZ (aa (gv 0) (aa (gv 1) af))) (vl [.fz (.list (cs.map bD)),.fz (aw n l),.no,.no]) 0=.ok (.list (cs.map λc=>PyData.bool true)) 0:=
  bI (l:=cs) (e:=bD) (λc=>PyData.bool true) rfl (by omega) λc hc'=>⟨_,rfl,au (ds:=[bD c,aw n l]) rfl (by rw[Kj h8 (NN (by have:=(hc c hc').2;omega)),(hc c hc').1])⟩
 have ea:=zq (f:=λ_=>true) ec
 rw[Ot.mpr λ_ _=>rfl] at ea
 refine gB (kO (cQ (a:=true) (fF (c:=true) (cK (x:=.list (cs.map bD)) rfl rfl))) (cQ (fF ea))) (wp_at [.fz (.list (cs.map bD)),.fz (aw n l),.no,.no] rfl ?_)
 refine Gw (d:=.list []) (β1:=0) (lp an) (wp_at [.fz (.list (cs.map bD)),.fz (aw n l),.ow (.list []),.no] rfl ?_)
 refine mD (ds:=cs.map bD) (β1:=0) (λi env b=>b=0/\∃s3,env= [.fz (.list (cs.map bD)),.fz (aw n l),.ow (.list ((cs.take i).flatten.map int)),s3]) rfl ⟨rfl,_,rfl⟩ ?_ ?_
 ·intro i d env b hd ⟨hb,s3,he⟩
  subst hb he
  rw[Oa] at hd
  obtain⟨c,hc',rfl⟩:=PQ.mp hd
  refine⟨[.fz (.list (cs.map bD)),.fz (aw n l),.ow (.list ((cs.take i).flatten.map int)),.fz (bD c)],rfl,⟨_,_,Ht (i:=2) (ds:=(cs.take i).flatten.map int) (es:=c.map int) rfl rfl rfl ?_,rfl,.fz (bD c),?_⟩⟩
  ·have h1:(cs.take i).flatten.length<=cs.flatten.length:=by
    have:cs.flatten=(cs.take i).flatten ++ (cs.drop i).flatten:=by rw[<-List.flatten_append,PB]
    rw[this,Ow];omega
   have h2:=(hc c (Ob hc')).2
   rw[NZ,NZ];omega
  ·show [Sl.fz (.list (cs.map bD)),.fz (aw n l),.ow (.list ((cs.take i).flatten.map int ++ c.map int)),.fz (bD c)]=_
   rw[Pj,hc',<-OA]
   simp
 ·intro env b ⟨hb,s3,he⟩
  subst hb he
  rw[NZ,List.take_length]
  exact jw (aI (cK (x:=.list (cs.flatten.map int)) rfl (JU (by omega))) (cK (Eo (n:=n) (l:=l) rfl) (oN (by omega))) (ly false _ _)) rfl
noncomputable def rowOf (n:Nat)(l:List Pr)(c:List Int):List Int:=(match E9 [aw n l,bD c] with
 | .ok (.tuple ds) _=>(fw ds).getD []
 |_=>[])
def vc (O:OM.Ord n l)(hz:c.length<=8)(h:va n l (bD c)=true):E9 [aw n l,bD c]=.ok (tupI (rowOf n l c)) false/\Row n l (rowOf n l c)/\Et n l c (rowOf n l c):=by
 obtain⟨r,e,R,L⟩:=Lk O (by omega) h
 have e:E9 [aw n l,bD c]=.ok (tupI r) false:=e
 have:rowOf n l c=r:=by
  unfold rowOf tupI at *
  rw[e]
  dsimp only
  rw[c6];rfl
 rw[this]
 exact⟨e,R,L⟩
noncomputable def Jk:List D->FR:=aZ 1 1 (hV IB E9)
def K1 (O:OM.Ord n l)(G:Gd l n res)(e:IB [aw n l]=.ok (.list (res.map bD)) fr)(hl:res.length<=8):Jk [aw n l]=.ok (.list ((res.map (rowOf n l)).map tupI)) true:=by
 show fin (hV IB E9 [.fz (aw n l)] 0)=_
 refine fS ?_
 unfold hV
 have h8:=O.hi
 refine Gy (d:=.list ((res.map (rowOf n l)).map tupI)) (β1:=0) ?_ rfl
 rw[O1]
 refine bI (l:=res) (e:=bD) (tupI ∘ rowOf n l) ?_ (by omega) λc hc=>⟨_,rfl,au (ds:=[aw n l,bD c]) rfl (vc O (by have:=G.lens.2 c hc;omega) (G.va h8 hc)).1⟩
 unfold bq
 rw[au (ds:=[aw n l]) rfl e];rfl
def wj (O:OM.Ord n l)(G:Gd l n res)(hc:c∈res)(hx:x∈c)(hy:0<=y/\y < (n:Int))(ha:mL l (x,y)=true):(rowOf n l c).idxOf y < (rowOf n l c).idxOf x:=by
 have h8:=O.hi
 obtain⟨_,R,L⟩:=vc O (by have:=G.lens.2 c hc;omega) (G.va h8 hc)
 exact FI O R L (G.ap c hc) hx (G.inn hc hx) hy ha
noncomputable def K8:List D->FR:=aZ 5 3 (dm ou)
abbrev Jh (n:Nat)(l:List Pr)(r c:List Int)(s3 s4:Sl):En:=[.fz (tupI r),.fz (aw n l),.fz (bD c),s3,s4]
def Ls (O:OM.Ord n l)(G:Gd l n res)(hc:c∈res):K8 [tupI (rowOf n l c),aw n l,bD c]=.ok (.bool true) false:=by
 have h8:=O.hi
 obtain⟨_,R,_⟩:=vc O (by have:=G.lens.2 c hc;omega) (G.va h8 hc)
 show fin (dm ou (Jh n l (rowOf n l c) c .no .no) 0)=_
 refine fS ?_
 unfold dm
 refine mD (ds:=c.map int) (β1:=0) (λ_ env b=>b=0/\∃s3 s4,env=Jh n l (rowOf n l c) c s3 s4) rfl ⟨rfl,_,_,rfl⟩ ?_ λenv b ⟨hb,s3,s4,he⟩=>by subst hb he;exact jw rfl rfl
 intro i d env b hd ⟨hb,s3,s4,he⟩
 subst hb he
 rw[Oa] at hd
 obtain⟨x,hx,rfl⟩:=PQ.mp hd
 have mx:=Ob hx
 have hxn:=G.inn hc mx
 refine⟨Jh n l (rowOf n l c) c (.fz (.int x)) s4,rfl,Jp ?_⟩
 have ei:bq (aq ou (aa (gv 1) (aa (gv 3) af))) (vl (Jh n l (rowOf n l c) c (.fz (.int x)) s4)) 0=.ok ((zN n l x).map int) 0:=by
  unfold bq
  rw[au (ds:=[aw n l,.int x]) rfl (Ao O hxn)];rfl
 refine mD (ds:=(zN n l x).map int) (β1:=0) (λ_ env b=>b=0/\∃s4,env=Jh n l (rowOf n l c) c (.fz (.int x)) s4) ei ⟨rfl,_,rfl⟩ ?_ λenv b ⟨hb,s4,he⟩=>l4 ⟨env,b,rfl,hb,_,_,he⟩
 intro i d env b hd ⟨hb,s4,he⟩
 subst hb he
 rw[Oa] at hd
 obtain⟨y,hy,rfl⟩:=PQ.mp hd
 have my:=Ob hy
 rw[<-oj,Oi] at my
 have hyn:=aV.mp my.1
 have lt:=wj O G hc mx hyn my.2
 refine⟨Jh n l (rowOf n l c) c (.fz (.int x)) (.fz (.int y)),rfl,?_⟩
 have t4:cB (f2 (xO (gv 0) (gv 4)) (xO (gv 0) (gv 3)) Nd) (vl (Jh n l (rowOf n l c) c (.fz (.int x)) (.fz (.int y)))) 0=.ok (decide ((((rowOf n l c).idxOf y:Nat):Int) > ((rowOf n l c).idxOf x:Nat))) 0:=dA _ _ _ _ (aI (zO (r:=rowOf n l c) (k:=y) rfl rfl (R.1.mem_iff.mpr (aV.mpr hyn))) (zO (r:=rowOf n l c) (k:=x) rfl rfl (R.1.mem_iff.mpr (aV.mpr hxn))) rfl)
 rw[Oe (by omega)] at t4
 exact uy t4 (l4 ⟨_,_,rfl,rfl,_,rfl⟩)
def Bg (O:OM.Ord n l)(G:Gd l n res)(hl:res.length<=8)(ne:res≠ []):wO [.list ((res.map (rowOf n l)).map tupI),aw n l]=.ok (.bool true) false:=by
 have h8:=O.hi
 have hr:∀r,r∈res.map (rowOf n l)->Row n l r:=λr h=>by
  obtain⟨c,hc,rfl⟩:=N7.mp h
  exact (vc O (by have:=G.lens.2 c hc;omega) (G.va h8 hc)).2.1
 have ne':res.map (rowOf n l)≠ []:=λz=>ne (List.map_eq_nil_iff.mp z)
 rw[EO O (by rw[NZ];omega) ne' hr,N3 ((Bx O ne' hr).mpr λp hp=>?_)]
 obtain⟨hg,ha⟩:=tR.mp hp
 obtain⟨c,hc,h1⟩:=G.mem hg.1
 exact⟨rowOf n l c,N7.mpr ⟨c,hc,rfl⟩,wj O G hc h1 hg.2 ha⟩
def KJ (O:OM.Ord n l):dD (Ds n l)=dD l:=by
 funext a b
 unfold dD
 rw[Pc,ux,ux,j9 O,j9 O]
 exact⟨λ⟨h1,h2,h3⟩=>⟨h1,h3,h2⟩,λ⟨h1,h2,h3⟩=>⟨h1,h3,h2⟩⟩
def zH {c:Int->Int->Bool}(h:OM.Lv c n k g)(hj:j<=k):OM.Lv c n j (g.take j):=by
 obtain⟨h1,h2,h3,h4⟩:=h
 exact⟨by rw[OX];omega,h2.sublist (Qn ..),λx hx=>h3 x (PJ hx),h4.sublist (Qn ..)⟩
def JI {n k k':Nat}{c:Int->Int->Bool}(h:OM.Lv c n (k + 1) g)(hn:∀g,¬OM.Lv c n (k + 2) g)(hx:∀g',OM.Lv c n (k + 1) g'->g'=g\/L2.HM.lexLt g g'=true)
  (h':OM.Lv c n (k' + 1) g') (hn':∀g,¬OM.Lv c n (k' + 2) g) (hx':∀g,OM.Lv c n (k' + 1) g->g=g'\/L2.HM.lexLt g' g=true):g'=g:=by
 have e:k'=k:=by
  rcases P9 k' k with q |q |q
  ·exact absurd (zH h (by omega)) (hn' _)
  ·exact q
  ·exact absurd (zH h' (by omega)) (hn _)
 subst e
 rcases hx g' h' with h1 |h1
 ·exact h1
 ·rcases hx' g h with h2 |h2
  ·exact h2.symm
  ·have:=OM.DA h1 h2
   rw[OM.Ad] at this;cases this
theorem vN {α:Type}(f g:α->D):∀cs:List α,vR (cs.map f) (cs.map g)=cs.map λc=>PyData.tuple [f c,g c]
 | []=>rfl
 |c :: cs=>by
  have:=vN f g cs
  unfold vR at *
  rw[OL,OL,List.zipWith_cons_cons,this];rfl
noncomputable def JX:List D->FR:=aZ 10 1 (zu HE IB EW Jk Jc wO K8 E9 ou JR uD)
noncomputable abbrev ml (ns:List Int)(i n:Nat)(l:List Pr)(res:List (List Int))(g:List Int)(s6 s7 s8 s9:Sl):En:=[.fz (dW ns),.fz (.int i),.fz (aw n l),.fz (.list (res.map bD)),.fz (bD g),.fz (.list ((res.map (rowOf n l)).map tupI)),s6,s7,s8,s9]
def KU (ns:List Int):JX [dW ns]=.ok (.bool true) false:=by
 show fin (zu HE IB EW Jk Jc wO K8 E9 ou JR uD [.fz (dW ns),.no,.no,.no,.no,.no,.no,.no,.no,.no] 0)=_
 refine fS ?_
 obtain⟨m0,hm0,em⟩:=CI 3 (by omega) ns (vl [.fz (dW ns),.no,.no,.no,.no,.no,.no,.no,.no,.no]) 0 rfl
 unfold zu
 refine mD (λ_ env b=>b=0/\∃s1 s2 s3 s4 s5 s6 s7 s8 s9,env= [.fz (dW ns),s1,s2,s3,s4,s5,s6,s7,s8,s9]) em ⟨rfl,_,_,_,_,_,_,_,_,_,rfl⟩ ?_ λenv β ⟨_,s1,s2,s3,s4,s5,s6,s7,s8,s9,e⟩=>jw (d:=.bool true) rfl rfl
 rintro i d env β hi ⟨hβ,s1,s2,s3,s4,s5,s6,s7,s8,s9,rfl⟩
 subst hβ
 obtain⟨_,rfl⟩:=qA hi
 rw[Qr]
 refine⟨[.fz (dW ns),.fz (.int i),s2,s3,s4,s5,s6,s7,s8,s9],rfl,?_⟩
 obtain⟨z,ez⟩:=Ke ns i
 obtain⟨n,l,β1,eo,O,h7⟩:=Ei (most:=7) (by omega) (by omega) z
 have h8:=O.hi
 refine nQ (d:=aw n l) (β1:=0) (Jw (z:=z) (DB (ds:=[dW ns,.int i]) rfl ez) eo) (wp_at [.fz (dW ns),.fz (.int i),.fz (aw n l),s3,s4,s5,s6,s7,s8,s9] rfl ?_)
 obtain⟨res,g,k,fr,ec,G,rl,eg,lv,nlv,lx⟩:=KH O
 have ag:=GO lv
 have g8:g.length<=8:=by
  have:=L2.ST.a9 ag.nd (m:=du n) ag.sub
  rw[bY] at this;omega
 have gl:g.length=k + 1:=lv.1
 have rne:res≠ []:=λz=>by rw[z] at rl;simp at rl;omega
 refine nQ (d:=.list (res.map bD)) (β1:=0) (au (ds:=[aw n l]) rfl ec) (wp_at [.fz (dW ns),.fz (.int i),.fz (aw n l),.fz (.list (res.map bD)),s4,s5,s6,s7,s8,s9] rfl ?_)
 refine nQ (d:=bD g) (β1:=0) (au (ds:=[aw n l]) rfl eg) (wp_at [.fz (dW ns),.fz (.int i),.fz (aw n l),.fz (.list (res.map bD)),.fz (bD g),s5,s6,s7,s8,s9] rfl ?_)
 refine nQ (au (ds:=[aw n l]) rfl (K1 O G ec (by omega))) (wp_at (ml ns i n l res g s6 s7 s8 s9) rfl ?_)
 have len3:∀s6 s7 s8 s9,f1 (gv 3) bL (vl (ml ns i n l res g s6 s7 s8 s9)) 0=.ok (.int (res.length:Nat)) 0:=λ_ _ _ _=>by rw[i7 (ds:=res.map bD) rfl,NZ]
 have len4:f1 (gv 4) bL (vl (ml ns i n l res g s6 s7 s8 s9)) 0=.ok (.int (g.length:Nat)) 0:=by rw[i7 (ds:=g.map int) rfl,NZ]
 have len5:f1 (gv 5) bL (vl (ml ns i n l res g s6 s7 s8 s9)) 0=.ok (.int (res.length:Nat)) 0:=by rw[i7 (ds:=(res.map (rowOf n l)).map tupI) rfl,NZ,NZ]
 have fl:=G.lens
 have q1:cB (f2 (f1 (gv 3) bL) (f1 (gv 4) bL) (cV true)) (vl (ml ns i n l res g s6 s7 s8 s9)) 0=.ok false 0:=by
  have:=cF (neg:=true) (len3 s6 s7 s8 s9) len4
  rw[this,N1 rfl,N3 (by omega)];rfl
 have ea:Jc [.list (res.map bD),aw n l]=.ok (.bool true) false:=by
  rw[KS O (λc hc=>⟨G.va h8 hc,by have:=fl.2 c hc;omega⟩) (by omega) (by omega),N3]
  exact (vQ (n:=n)).mpr G.perm
 have q2:cB (f2 (aq Jc (aa (gv 3) (aa (gv 2) af))) (cst (.bool true)) pW) (vl (ml ns i n l res g s6 s7 s8 s9)) 0=.ok false 0:=dA _ _ _ _ (aI (au (ds:=[.list (res.map bD),aw n l]) rfl ea) rfl rfl)
 refine gB (kO q1 q2) (wp_at (ml ns i n l res g s6 s7 s8 s9) rfl ?_)
 have q3:cB (f2 (aq wO (aa (gv 5) (aa (gv 2) af))) (cst (.bool true)) pW) (vl (ml ns i n l res g s6 s7 s8 s9)) 0=.ok false 0:=dA _ _ _ _ (aI (au (ds:=[.list ((res.map (rowOf n l)).map tupI),aw n l]) rfl (Bg O G (by omega) rne)) rfl rfl)
 have q4:cB (f2 (f1 (gv 5) bL) (f1 (gv 3) bL) (cV true)) (vl (ml ns i n l res g s6 s7 s8 s9)) 0=.ok false 0:=by
  have:=cF (neg:=true) len5 (len3 s6 s7 s8 s9)
  rw[this,N1 rfl,N3 rfl];rfl
 refine gB (kO q3 q4) (wp_at (ml ns i n l res g s6 s7 s8 s9) rfl ?_)
 have ez:FH (gv 3) (gv 5) (vl (ml ns i n l res g s6 s7 s8 s9)) 0=.ok (res.map λc=>PyData.tuple [bD c,tupI (rowOf n l c)]) 0:=by
  have e:FH (gv 3) (gv 5) (vl (ml ns i n l res g s6 s7 s8 s9)) 0=.ok (vR (res.map bD) ((res.map (rowOf n l)).map tupI)) 0:=rfl
  rw[e,O1,vN];rfl
 refine mD (ds:=res.map λc=>PyData.tuple [bD c,tupI (rowOf n l c)]) (β1:=0) (λ_ env b=>b=0/\∃s6 s7,env=ml ns i n l res g s6 s7 s8 s9) ez ⟨rfl,_,_,rfl⟩ ?_ ?_
 ·intro j d env b hd ⟨hb,s6,s7,he⟩
  subst hb he
  obtain⟨c,hc,rfl⟩:=N7.mp (Ob hd)
  refine⟨ml ns i n l res g (.fz (bD c)) (.fz (tupI (rowOf n l c))) s8 s9,rfl,?_⟩
  have er:=(vc O (by have:=fl.2 c hc;omega) (G.va h8 hc)).1
  have t1:kU (aq K8 (aa (gv 7) (aa (gv 2) (aa (gv 6) af)))) (vl (ml ns i n l res g (.fz (bD c)) (.fz (tupI (rowOf n l c))) s8 s9)) 0=.ok true 0:=fF (au (ds:=[tupI (rowOf n l c),aw n l,bD c]) rfl (Ls O G hc))
  have t2:kU (aq K8 (aa (aq E9 (aa (gv 2) (aa (gv 6) af))) (aa (gv 2) (aa (gv 6) af)))) (vl (ml ns i n l res g (.fz (bD c)) (.fz (tupI (rowOf n l c))) s8 s9)) 0=.ok true 0:=fF (au (ds:=[tupI (rowOf n l c),aw n l,bD c]) (ac (au (ds:=[aw n l,bD c]) rfl er) (ac rfl (ac rfl an))) (Ls O G hc))
  exact uy (kO (cQ t1) (cQ t2)) (l4 ⟨_,_,rfl,rfl,_,_,rfl⟩)
 intro env b ⟨hb,s6,s7,he⟩
 subst hb he
 refine mD (ds:=res.map bD) (β1:=0) (λ_ env b=>b=0/\∃s6,env=ml ns i n l res g s6 s7 s8 s9) rfl ⟨rfl,_,rfl⟩ ?_ ?_
 ·intro j d env b hd ⟨hb,s6,he⟩
  subst hb he
  obtain⟨c,hc,rfl⟩:=N7.mp (Ob hd)
  refine⟨ml ns i n l res g (.fz (bD c)) s7 s8 s9,rfl,?_⟩
  have el:aP 1 [4] (.nm 0) (bq (gv 6)) (cB (f2 (gv 0) (gv 1) (rV false))) (gv 0) (vl (ml ns i n l res g (.fz (bD c)) s7 s8 s9)) 0=.ok (.list ((c.filter λa=>decide (a∈g)).map int)) 0:=
   dF (l:=c) (e:=int) (λa=>decide (a∈g)) int rfl (by have:=fl.2 c hc;omega) λa _=>⟨_,rfl,dA _ _ _ _ (aI (x:=.int a) rfl rfl (nJ false a g)),λ_=>rfl⟩
  have one:(c.filter λa=>decide (a∈g)).length=1:=by
   have ndc:(c.filter λa=>decide (a∈g)).Nodup:=((G.up c hc).imp λh e=>by omega:c.Nodup).filter _
   obtain⟨j,hj⟩:=Pw hc
   have hj1:=(N9.mp hj).1
   obtain⟨x,hx,ex⟩:=ag.hits (CQ G) rl.symm hj1
   obtain⟨c',hc',hxc⟩:=tQ G (aV.mp (ag.sub x hx))
   rw[ex,hj] at hc'
   cases hc'
   have mx:x∈c.filter λa=>decide (a∈g):=Oi.mpr ⟨hxc,N3 hx⟩
   have:=L2.ST.a9 ndc (m:=[x]) λy hy=>by
    obtain⟨h1,h2⟩:=Oi.mp hy
    have:=ag.ap y x (OS h2) hx (sY.mp (G.ap c hc y x h1 hxc))
    rw[this];exact N6.mpr rfl
   have:=List.length_pos_of_mem mx
   simp only[Ol,Qk] at *
   omega
  have t:cB (f2 (f1 (aP 1 [4] (.nm 0) (bq (gv 6)) (cB (f2 (gv 0) (gv 1) (rV false))) (gv 0)) bL) (cst (.int 1)) (cV true)) (vl (ml ns i n l res g (.fz (bD c)) s7 s8 s9)) 0=.ok false 0:=by
   have:=cF (neg:=true) (i7 el) (show cst (.int 1) _ 0=.ok (.int 1) 0 from rfl)
   rw[this,N1 rfl,NZ,one];rfl
  exact uy t (l4 ⟨_,_,rfl,rfl,_,rfl⟩)
 intro env b ⟨hb,s6,he⟩
 subst hb he
 refine mD (ds:=g.map int) (β1:=0) (λ_ env b=>b=0/\∃s8 s9,env=ml ns i n l res g s6 s7 s8 s9) rfl ⟨rfl,_,_,rfl⟩ ?_ ?_
 ·intro j d env b hd ⟨hb,s8,s9,he⟩
  subst hb he
  obtain⟨x,hx,rfl⟩:=N7.mp (Ob hd)
  have hxn:=aV.mp (ag.sub x hx)
  refine⟨ml ns i n l res g s6 s7 (.fz (.int x)) s9,rfl,?_⟩
  have al:(zN n l x).length<=8:=by
   rw[<-oj]
   have:=O5 (λc=>mL l (x,c)) (du n)
   rw[bY] at this;omega
  refine nQ (d:=.list ((zN n l x ++ [x]).map int)) (β1:=0) (by
   rw[OA]
   exact wJ (au (ds:=[aw n l,.int x]) rfl (Ao O hxn)) (lp (ac rfl an)) (by rw[NZ];simp;omega)) (wp_at (ml ns i n l res g s6 s7 (.fz (.int x)) (.fz (.list ((zN n l x ++ [x]).map int)))) rfl ?_)
  have el:aP 1 [9] (.nm 0) (bq (gv 4)) (cB (f2 (gv 0) (gv 1) (rV true))) (gv 0) (vl (ml ns i n l res g s6 s7 (.fz (.int x)) (.fz (.list ((zN n l x ++ [x]).map int))))) 0=.ok (.list ((g.filter λa=> !decide (a∈zN n l x ++ [x])).map int)) 0:=
   dF (l:=g) (e:=int) (λa=> !decide (a∈zN n l x ++ [x])) int rfl (by omega) λa _=>⟨_,rfl,dA _ _ _ _ (aI (x:=.int a) rfl rfl (nJ true a _)),λ_=>rfl⟩
  have nil:(g.filter λa=> !decide (a∈zN n l x ++ [x]))= []:=by
   rw[List.filter_eq_nil_iff]
   intro a ha
   rw[Bool.not_eq_true,Bool.not_eq_false',QB,Of,N6]
   by_cases e:a=x
   ·exact .inr e
   ·left
    rw[<-oj,Oi]
    refine⟨ag.sub a ha,?_⟩
    cases q:mL l (x,a) with
    |true=>rfl
    |false=>exact absurd (ag.ap x a hx ha (sY.mp q)).symm e
  have t:cB (f2 (aP 1 [9] (.nm 0) (bq (gv 4)) (cB (f2 (gv 0) (gv 1) (rV true))) (gv 0)) (bR af) (cV true)) (vl (ml ns i n l res g s6 s7 (.fz (.int x)) (.fz (.list ((zN n l x ++ [x]).map int))))) 0=.ok false 0:=by
   rw[nil] at el
   exact dA _ _ _ _ (aI el (lp (ds:=([]:List Int).map int) an) (ly true [] []))
  exact uy t (l4 ⟨_,_,rfl,rfl,_,_,rfl⟩)
 intro env b ⟨hb,s8,s9,he⟩
 subst hb he
 have ed:Jc [.list ((res.drop 1).map bD),aw n l]=.ok (.bool false) false:=by
  have h1:(res.drop 1).flatten.length < n:=by
   cases res with
   |nil=>exact absurd rfl rne
   |cons c cs=>
    have hne:=List.length_pos_iff.mpr (G.ne c (N0 ..))
    have:=fl.1
    rw[Pg,Ow] at this
    show cs.flatten.length < n
    omega
  rw[KS O (λc hc=>⟨G.va h8 (List.mem_of_mem_drop hc),by have:=fl.2 c (List.mem_of_mem_drop hc);omega⟩) (by omega) (by rw[length_drop];omega),Oe λe=>?_]
  have:=(vQ (n:=n)).mp e
  have:=this.length_eq
  rw[bY] at this;omega
 have q5:cB (f2 (aq Jc (aa (CA (gv 3) (DL (cst (.int 1))) (λ_ β=>.ok none β)) (aa (gv 2) af))) (cst (.bool false)) pW) (vl (ml ns i n l res g s6 s7 s8 s9)) 0=.ok false 0:=dA _ _ _ _ (aI (au (ds:=[.list ((res.drop 1).map bD),aw n l]) (ac (by rw[map_drop];exact zi (i:=1) rfl rfl) (ac rfl an)) ed) rfl rfl)
 refine gB q5 (wp_at (ml ns i n l res g s6 s7 s8 s9) rfl ?_)
 have O':=DM O
 obtain⟨res',g',k',fr',ec',G',rl',eg',lv',nlv',lx'⟩:=KH O'
 rw[KJ O] at lv' nlv' lx'
 have gg:=JI lv nlv lx lv' nlv' lx'
 subst gg
 have td:aq JR (aa (gv 2) af) (vl (ml ns i n l res g' s6 s7 s8 s9)) 0=.ok (aw n (Ds n l)) 0:=au (ds:=[aw n l]) rfl (Mu O)
 have q6:cB (f2 (f1 (aq IB (aa (aq JR (aa (gv 2) af)) af)) bL) (f1 (gv 3) bL) (cV true)) (vl (ml ns i n l res g' s6 s7 s8 s9)) 0=.ok false 0:=by
  have:=cF (neg:=true) (i7 (au (ds:=[aw n (Ds n l)]) (ac td an) ec')) (len3 s6 s7 s8 s9)
  rw[this,N1 rfl,NZ,N3 (by omega)];rfl
 have q7:cB (f2 (aq EW (aa (aq JR (aa (gv 2) af)) af)) (gv 4) (cV true)) (vl (ml ns i n l res g' s6 s7 s8 s9)) 0=.ok false 0:=by
  have:=dA (fa:=f2 (aq EW (aa (aq JR (aa (gv 2) af)) af)) (gv 4) (cV true)) (vs:=vl (ml ns i n l res g' s6 s7 s8 s9)) (β:=0) _ (aI (au (ds:=[aw n (Ds n l)]) (ac td an) eg') rfl (ly true g' g'))
  rw[this,N1 rfl,N3 rfl];rfl
 exact uy (kO q6 q7) (l4 ⟨_,_,rfl,rfl,_,_,_,_,_,_,_,_,_,rfl⟩)
end RM
namespace RO
open PySem L2
abbrev kE:Stmt:=RQ.fJ
abbrev mV:Stmt:=RQ.top 15
abbrev Fn (K:Frag)(mg:Str->Option Value)(x:Str)(st:Stmt)(ps:List Str)(f:Addr)(fd:FuncData):Prop:=iw K mg x st ps f fd
abbrev Bt (mg:Str->Option Value):Prop:=iY mg
end RO
section
namespace L2
open PySem PySem.Spec PyProof.Rows
section
variable {K:Frag}{H H':Hp}{a:Addr}
theorem aY.snoc (q:fO K H a [.int x,.int y]):∀{vs:List V} {ps:List (Int×Int)},aY K H vs ps->aY K H (vs ++ [.ref a]) (ps ++ [(x,y)])
 |_,_,.nil=>.cons ⟨a,rfl,q⟩ .nil
 |_,_,.cons r t=>.cons r (aY.snoc q t)
def aY.len (h:aY K H vs ps):vs.length=ps.length:=Paired.length h
def aY.same (h:aY K H vs ps)(s:ay H H'):aY K H' vs ps:=h.grow s.grow
def aY.at {vs:List V}{ps:List (Int×Int)}{i:Nat}{v:V}(h:aY K H vs ps)(e:vs[i]? =some v):∃p:Int×Int,ps[i]? =some p/\∃b,v=.ref b/\fO K H b [.int p.1,.int p.2]:=Paired.getP h e
def ay.put (s:ay H H')(h:H a=none)(hf:∀x y,H' a≠some (.bp x y)):ay H (L2.upd H' a o):=λb u e=>k7 (s b u e) (aK e h) hf
def Hi (h:H a=none):∀x y,H a≠some (.bp x y):=λx y z=>by rw[h] at z;cases z
def Lr {xs:List V}(h:H a=some (.lst xs)):∀x y,H a≠some (.bp x y):=λx y z=>by rw[h] at z;cases z
end
end L2
namespace RO
open PySem L2
def B6 (N:List Str)(sc:Scope)(NB:List Str)(own:Nat)(ixs:List Nat)(scope:Scope):Bool:=
 decide (scope.kind=.function) && (scope.names.all λy=>decide (y.2≠.cell)) && (scope.names.all λy=>decide (scope.names.lookup y.1=some y.2)) &&
 (scope.names.all λy=>decide (y.2=.free->(sc.names.lookup y.1=some .cell\/sc.names.lookup y.1=some .free))) && decide NB.Nodup && decide (NB.length=own + ixs.length) &&
 ((List.range ixs.length).all λk=>decide (NB[own + k]? =N[ixs.getD k 0]?) && (match NB[own + k]? with |some x=>decide ((x,NameKind.free)∈scope.names) |none=>true))
def og {X:Cx}{own:Nat}{ixs:List Nat}(h:B6 X.N X.env.scope NB own ixs scope=true):dG X NB own ixs scope:=by
 unfold B6 at h
 simp only[Om,Ot,Oq,Og] at h
 obtain⟨⟨⟨⟨⟨⟨h1,h2⟩,h3⟩,h4⟩,h5⟩,h6⟩,h7⟩:=h
 refine⟨h1,h2,h3,h4,h5,h6,λk hk=>⟨(h7 k hk).1,λx hx=>?_⟩⟩
 have:=(h7 k hk).2
 rw[hx] at this
 simpa using this
section
variable {X:Cx}{tg l:Expr}{tl:TE}{K:Frag}{H H1:Hp}{a:Addr}{xs:List V}{σ:St}
def Ml (K:Frag)(tl:TE):TI:=λσ H R=>tl σ H λx H1=>∃a xs,x=.ref a/\((gf K H1 a xs/\R (AQ K a) H1)\/(fO K H1 a xs/\R (GL K a) H1))
end
def Nu (K:Frag){X:Cx}(h:X.K=K:=by rfl):C2 X (JC K):=by subst h;exact hW
def Jz (K:Frag)(i j:Nat){X:Cx}{px py pos:Pos}{k:Nat}(hN:X.N.Nodup)(hi:X.N[i]? =some x)(hj:X.N[j]? =some y)(hx:X.env.scope.names.lookup x=some .local)(hy:X.env.scope.names.lookup y=some .local)(hc:X.calm=true)(hK:X.K=K) :
  PG X (.Tuple [.Name x px,.Name y py] k pos) (EX K 2 (qm (l8 i) (qm (l8 j) Fc))):=by
 subst hK
 exact rh hc (dY (di hN hi (Or.inl hx) (Or.inr hx)) (dY (di hN hj (Or.inl hy) (Or.inr hy)) nr))
section
open PySem.Spec PyProof.Rows
variable {X:Cx}{tg l:Expr}{tl:TE}
def Hz (hl:PE X l tl):PI X tg l (Ml X.K tl):=by
 intro pins s σ H R I h
 refine cR (hl pins s σ H _ I h) λv s1 ⟨x,H1,I1,r1,q1⟩=>?_
 obtain⟨a,xs,e,q⟩:=q1
 subst e
 cases r1
 rcases q with⟨hq,q⟩ | ⟨hq,q⟩
 ·obtain⟨its,rv,p,hz⟩:=I1.list hq
  refine QE p.isList ?_
  refine⟨s1.heap.objs.size,[s1.heap.objs.size],_,_,H1,rfl,I1.kept (t':=s1.toks) λb o e=>NY _ e,nR a _,⟨_,Od _ rfl,rfl,rfl⟩,λb hb=>?_,q⟩
  have e:b=s1.heap.objs.size:=by simpa using hb
  subst e
  exact I1.fpOk (N4 _) (I1.hok.fresh (N4 _))
 ·obtain⟨its,rv,p,hz⟩:=I1.tuple hq
  refine QA (show s1.heap.IsTuple a its.toArray from p) ?_
  refine⟨s1.heap.objs.size,[s1.heap.objs.size],_,_,H1,rfl,I1.kept (t':=s1.toks) λb o e=>NY _ e,qS a _,⟨_,Od _ rfl,rfl,rfl⟩,λb hb=>?_,q⟩
  have e:b=s1.heap.objs.size:=by simpa using hb
  subst e
  exact I1.fpOk (N4 _) (I1.hok.fresh (N4 _))
end
section
variable {K:Frag}{H H1 H':Hp}{a:Addr}{xs:List V}{σ:St}
abbrev KI (J:It)(g:TG)(tb:TS)(D:Ends)(σ:St)(H:Hp):Prop:=∃W:Nat->Nat->St->Hp->Prop,(∃m,W 0 m σ H)/\∀i m σ H,W i m σ H->
   (J.stop i H/\D.nx σ H)\/(J.go i H/\∃N:St->Hp->Prop,(∀σ' H',N σ' H'->∃m',m' < m/\W (i + 1) m' σ' H')/\∀x H',J.yld i H x H'->g x σ H' λσ2 H2=>tb {D with nx:=N,ct:=N,bk:=D.nx} σ2 H2)
def EI (s:ay H1 H')(hq:gf K H1 a xs\/fO K H1 a xs):gf K H' a xs\/fO K H' a xs:=hq.elim (λq=>.inl (s.seq q)) λq=>.inr (q.grow s.grow)
def Gi {g:TG}{tb:TS}{D:Ends}(hq:gf K H1 a xs\/fO K H1 a xs)(Pv:Nat->St->Hp->Prop)(h0:Pv 0 σ H)(hl:∀i σ H',Pv i σ H'->ay H1 H')
  (hs:∀i x σ H,xs[i]? =some x->Pv i σ H->g x σ H λσ2 H2=>tb {D with nx:=Pv (i + 1),ct:=Pv (i + 1),bk:=D.nx} σ2 H2) (hd:∀σ H,Pv xs.length σ H->D.nx σ H) :
  (gf K H a xs/\KI (AQ K a) g tb D σ H)\/(fO K H a xs/\KI (GL K a) g tb D σ H):=
 hq.elim (λq=>.inl ⟨(hl _ _ _ h0).seq q,vT Pv h0 (λi σ H' _ p=>(hl i σ H' p).seq q) hs hd⟩) λq=>.inr ⟨q.grow (hl _ _ _ h0).grow,Gn Pv h0 (λi σ H' _ p=>q.grow (hl i σ H' p).grow) hs hd⟩
def zv (J:It)(own:Nat)(ixs:List Nat)(g:TG)(tt:TT)(te:TE)(Q:VK)(D:Addr)(σ:St)(H:Hp):Prop:=∃W:Nat->Nat->St->Hp->Prop,(∃m,W 0 m (dS own ixs σ) (upd H D (.lst [])))/\∀i m σ' H',W i m σ' H'->
   (J.stop i H'/\(∃acc,H' D=some (.lst acc))/\Q (.ref D) H')\/
   (J.go i H'/\∃N:St->Hp->Prop,(∀σ2 H2,N σ2 H2->∃m',m' < m/\W (i + 1) m' σ2 H2)/\∀x H2,J.yld i H' x H2->fC g tt te D x σ' H2 N)
structure vA (own:Nat)(ixs:List Nat)(wi:TI)(g:TG)(tt:TT)(te:TE)(σ:St)(H:Hp)(Q:VK):Prop where
 out:wi σ H λJ H1=>∀D,H1 D=none->zv J own ixs g tt te Q D σ H1
def yo {own:Nat}{ixs:List Nat}{g:TG}{tt:TT}{te:TE}{Q:VK}(h:wi σ H λJ H1=>∀D,H1 D=none->zv J own ixs g tt te Q D σ H1):vA own ixs wi g tt te σ H Q:=⟨h⟩
def uT {X:Cx}{own:Nat}{ixs:List Nat}{tg iter elt:Expr}{ifs:List Expr}{g:TG}{tt:TT}{te:TE}{pos:Pos}(hc:X.calm=true)(S:dG X NB own ixs scope)(hi:PI X tg iter wi)
  (hg:∀C ex s3 H3 pn,PG (jE X NB scope C ex s3 H3 pn) tg g) (ht:∀C ex s3 H3 pn,Ec (jE X NB scope C ex s3 H3 pn) ifs tt) (he:∀C ex s3 H3 pn,PE (jE X NB scope C ex s3 H3 pn) elt te)
  (hs:∀x,foldedSetIterable iter X.env x=pure x:=by intro _;rfl):PE X (.ListComp elt [⟨tg,iter,ifs,0⟩] scope pos) (vA own ixs wi g tt te):=
 λpins s σ H Q I h=>wF hc S hi hg ht he hs pins s σ H Q I h.out
section
variable {own:Nat}{ixs:List Nat}{g:TG}{tt:TT}{te:TE}{Q:VK}{D:Addr}
def Fm (Pv:Nat->St->Hp->Prop)(h0:Pv 0 (dS own ixs σ) (upd H D (.lst [])))(hl:∀i σ H,i<=xs.length->Pv i σ H->gf K H a xs)
  (hs:∀i x σ H,xs[i]? =some x->Pv i σ H->fC g tt te D x σ H (Pv (i + 1))) (hd:∀σ H,Pv xs.length σ H->(∃acc,H D=some (.lst acc))/\Q (.ref D) H):zv (AQ K a) own ixs g tt te Q D σ H:=BM Pv h0 hl hs hd
def wq {lo:Int}{n:Nat}(Pv:Nat->St->Hp->Prop)(h0:Pv 0 (dS own ixs σ) (upd H D (.lst [])))
  (hs:∀i σ H,i < n->Pv i σ H->fC g tt te D (.int (lo + i)) σ H (Pv (i + 1))) (hd:∀σ H,Pv n σ H->(∃acc,H D=some (.lst acc))/\Q (.ref D) H):zv (AX lo n) own ixs g tt te Q D σ H:=yU Pv h0 hs hd
end
def v8 {te:TE}{D:Addr}{N:St->Hp->Prop}(h:te (σ.set i (some x)) H λv H5=>∃acc,H5 D=some (.lst acc)/\acc.length < sizeLine/\N (σ.set i (some x)) (upd H5 D (.lst (acc ++ [v])))):fC (l8 i) JP te D x σ H N:=by
 unfold fC l8 JP
 exact wc h
def B9 {Q:St->Hp->Prop}(h:fO K H a [x,y])(q:Q ((σ.set i (some x)).set j (some y)) H):EX K 2 (qm (l8 i) (qm (l8 j) Fc)) (.ref a) σ H Q:=⟨a,_,rfl,h,rfl,x,_,rfl,y,_,rfl,rfl,q⟩
def M4 {c A B:Prop}[Decidable c](h:c)(a:A):if c then A else B:=by rw[N1 h];exact a
def Mn {c A B:Prop}[Decidable c](h:¬c)(b:B):if c then A else B:=by rw[N8 h];exact b
def take_snoc {α:Type}{l:List α}{i:Nat}{x:α}(h:l[i]? =some x):l.take (i + 1)=l.take i ++ [x]:=by
 rw[Pj,h];rfl
def take_all {α:Type}(l:List α):l.take l.length=l:=Py (N4 _)
end
def jG (n:Nat):(OM.dI n).length=n * n:=by unfold OM.dI;simp
def EG (h:i < n * n):(OM.dI n)[i]? =some (((i / n:Nat):Int),((i % n:Nat):Int)):=by
 unfold OM.dI
 rw[Oa,Qf h];rfl
def Nr (h:n<=8):n * n<=64:=PK h h
section
variable {P:Program}{w:World}{K:Frag}{mg:Str->Option Value}{base:Heap}
def Ae (K:Frag):Sp:=λvs H Q _=>∃n:Nat,vs= [.int n]/\1<=n/\n<=8/\∀H' l ws,ay H H'->H l=none->H' l=some (.lst ws)->aY K H' ws (OM.dI n)->Q (.ref l) H'
def FZ:aG ["many"] ["many"] (ar kE):=⟨rfl,rfl,rfl,by decide +kernel,rfl,by decide +kernel,by decide +kernel⟩
def LF:(["number","many"]:List Str).Nodup:=by decide +kernel
def CO {f:Addr}{fd:FuncData}(F:Fn K mg "every_pair" kE ["many"] f fd)(B:Bt mg):fV P w K mg base Jm 1 f fd ["many"] (Ae K):=by
 refine F.F.ok FZ (λvs H Q E h=>?_) (λcdv A outer s H vs Q E hr h=>?_)
 ·obtain⟨n,rfl,_⟩:=h;rfl
 ·obtain⟨n,rfl,h1,h8,k⟩:=h
  refine⟨_,jl (oA (uT (NB:=["number","many"]) (own:=1) (ixs:=[0]) rfl (og (by kernel_rfl)) (lN rfl B.range (aN (sy lE (pv 0) (pv 0)) bu))
   (λC ex s3 H3 pn=>di (i:=0) LF rfl (Or.inl rfl) (hf:=Or.inr rfl)) (λC ex s3 H3 pn=>uv)
   (λC ex s3 H3 pn=>yy (aN (sy mQ (pv 0) (pv 1)) (aN (sy mn (pv 0) (pv 1)) bu))))),?_⟩
  have hn:=Nr h8
  have e0:((n:Int) * (n:Int))=((n * n:Nat):Int):=by rw[Int.natCast_mul]
  refine yo ⟨_,rfl,_,rfl,_,_,rfl,rfl,.inl ⟨by omega,by omega⟩,_,rfl,by rw[e0];omega,by rw[e0];omega,λD hD=>?_⟩
  rw[e0,OB]
  refine wq (λi σ' H'=>(∃v,σ'= [v,some (.int n)])/\ay H H'/\∃vs,H' D=some (.lst vs)/\aY K H' vs ((OM.dI n).take i)) ⟨⟨none,rfl⟩,(ay.refl H).put hD (Hi hD),[],aA,.nil⟩ ?_ ?_
  ·rintro i σ' H' hi ⟨⟨v,rfl⟩,s1,vs,hv,hp⟩
   have hn0:(0:Int) < (n:Int):=by omega
   refine v8 ⟨_,rfl,_,rfl,_,_,rfl,rfl,⟨hn0,by omega⟩,_,rfl,_,rfl,_,_,rfl,rfl,hn0,by show 2<=sizeLine;rw[Oo];omega,λp hp0=>?_⟩
   have hpD:D≠p:=aK hv hp0
   have hl:=hp.len
   refine⟨vs,by rw[aC hpD];exact hv,?_,⟨_,rfl⟩,?_,vs ++ [.ref p],aA,?_⟩
   ·rw[hl,OX,Oo];rw[jG];omega
   ·exact (s1.put (s1.free hp0) (Hi hp0)).put hD (Lr (xs:=vs) (by rw[aC hpD];exact hv))
   ·rw[take_snoc (EG hi)]
    have g1:i3 H' (upd H' p (.tup [.int ((0 + (i:Int)) / n),.int ((0 + (i:Int)) % n)])):=i3.new hp0
    have g2:∀o,i3 (upd H' p (.tup [.int ((0 + (i:Int)) / n),.int ((0 + (i:Int)) % n)])) (upd (upd H' p (.tup [.int ((0 + (i:Int)) / n),.int ((0 + (i:Int)) % n)])) D o):=λo=>i3.list (by rw[aC hpD];exact hv)
    refine aY.snoc ?_ (hp.grow (g1.trans (g2 _)))
    refine (fO.grow ?_ (g2 _))
    refine .inl (.inl ?_)
    rw[aA,Qr];rfl
  ·rintro σ' H' ⟨_,s1,vs,hv,hp⟩
   refine⟨⟨_,hv⟩,k H' D vs s1 hD hv ?_⟩
   rw[<-jG n,take_all] at hp
   exact hp
end
end RO
end
namespace RO
open PySem L2
structure TabAt (n:Nat)(M:OM.Tb)(L:Addr)(r:Nat->Addr)(H:Hp):Prop where
 top:H L=some (.lst ((List.range n).map λi=>V.ref (r i)))
 row:∀i,i < n->H (r i)=some (.lst ((List.range n).map λj=>V.bl (M i j)))
 inj:∀i j,i < n->j < n->r i=r j->i=j
 ne:∀i,i < n->r i≠L
def zE {n x:Nat}(h:x < n):t6 n (x:Int)=some x:=by
 unfold t6;rw[N1 (by omega),N1 (by omega)];simp
def BY {α:Type}{xs:List α}{x:Nat}(h:x < xs.length):kG xs (x:Int)=xs[x]?:=by
 unfold kG;rw[zE h];rfl
def gQ {f:Nat->V}{n x:Nat}(h:x < n):kG ((List.range n).map f) (x:Int)=some (f x):=by
 rw[BY (by simpa using h),Oa,Qf h];rfl
def tD {f:Nat->V}{n x:Nat}(h:x < n):t6 ((List.range n).map f).length (x:Int)=some x:=by
 rw[NZ,O6];exact zE h
def AF {f:Nat->V}{n y:Nat}:((List.range n).map f).set y v=(List.range n).map λj=>if j=y then v else f j:=by
 apply QG
 intro i
 by_cases hi:i < n
 ·by_cases e:y=i
  ·subst e;simp[List.getElem?_set,hi]
  ·have e':¬i=y:=λz=>e z.symm
   simp[List.getElem?_set,hi,e,e']
 ·rw[QL (by simp;omega),QL (by simp;omega)]
section
variable {n:Nat}{M:OM.Tb}{L:Addr}{r:Nat->Addr}{H H':Hp}
def TabAt.set (T:TabAt n M L r H)(hx:x < n):TabAt n (M.set x y) L r (upd H (r x) (.lst (((List.range n).map λj=>V.bl (M x j)).set y (.bl true)))):=by
 refine⟨by rw[aC (T.ne x hx).symm];exact T.top,λi hi=>?_,T.inj,T.ne⟩
 by_cases e:i=x
 ·subst e
  rw[aA,AF]
  refine congrArg _ (congrArg _ (Pf λj _=>?_))
  unfold OM.Tb.set
  by_cases c:j=y
  ·simp[c]
  ·simp[c]
 ·rw[aC (λz=>e (T.inj i x hi hx z)),T.row i hi]
  refine congrArg _ (congrArg _ (Pf λj _=>?_))
  unfold OM.Tb.set;simp[e]
def TabAt.same (T:TabAt n M L r H)(s:ay H H'):TabAt n M L r H':=⟨s _ _ T.top,λi hi=>s _ _ (T.row i hi),T.inj,T.ne⟩
end
def ug {n:Nat}(w:OM.Wn n ps)(h:p∈ps):∃u v:Nat,p=((u:Int),(v:Int))/\u < n/\v < n:=by
 obtain⟨x,y⟩:=p
 have q:=w _ h
 simp only at q
 exact⟨x.toNat,y.toNat,by rw[Qt q.1.1,Qt q.2.1],by omega,by omega⟩
def jq {M0 M:OM.Tb}{D D':Nat->Nat->Prop}(P:OM.Phase M0 M m D)(h:∀a b,D a b↔D' a b):OM.Phase M0 M m D':=λa b=>by rw[P a b,h a b]
def lM {l:List (Int×Int)}{u v a b:Nat}:(((a:Int),(b:Int))∈l\/(a=u/\b=v))↔((a:Int),(b:Int))∈l ++ [((u:Int),(v:Int))]:=by
 rw[Of,N6,Prod.mk.injEq]
 constructor
 ·rintro (h | ⟨h1,h2⟩)
  ·exact .inl h
  ·exact .inr ⟨by omega,by omega⟩
 ·rintro (h | ⟨h1,h2⟩)
  ·exact .inl h
  ·exact .inr ⟨by omega,by omega⟩
def Gg {M:OM.Tb}:M.set u v a b=true↔M a b=true\/(a=u/\b=v):=by
 unfold OM.Tb.set
 by_cases c:a=u/\b=v
 ·simp[c]
 ·rw[N8 c];exact⟨.inl,λh=>h.resolve_right c⟩
def LM (n:Nat)(x:V):(List.replicate n [x]).flatten=(List.range n).map λ_=>x:=by
 rw[List.flatten_replicate_singleton,List.map_const',O6]
section
variable {P:Program}{w:World}{K:Frag}{mg:Str->Option Value}{base:Heap}
def Ee (K:Frag):Sp:=λvs H Q _=>∃(n:Nat) (a:Addr) (xs:List V) (ps:List (Int×Int)),vs= [.int n,.ref a]/\1<=n/\n<=8/\(gf K H a xs\/fO K H a xs)/\aY K H xs ps/\OM.Wn n ps/\
 ∀H' t ws,ay H H'->H t=none->H' t=some (.tup ws)->aY K H' ws (OM.cw n (OM.Tr (OM.Mem ps)))->Q (.ref t) H'
def gR:aG ["many","pairs","corners","leads","a","b","middle"] ["many","pairs"] (ar mV):=⟨rfl,rfl,rfl,by decide +kernel,rfl,by decide +kernel,by decide +kernel⟩
def KG:(["start","many"]:List Str).Nodup:=by decide +kernel
def IG:(["a","b","leads"]:List Str).Nodup:=by decide +kernel
set_option maxHeartbeats 1000000 in
theorem Bz {f g:Addr}{fd gd:FuncData}(F:Fn K mg "closed" mV ["many","pairs"] f fd)(G:Fn K mg "every_pair" kE ["many"] g gd)(GE:fV P w K mg base Jm 1 g gd ["many"] (Ae K))(B:Bt mg):fV P w K mg base Jm 2 f fd ["many","pairs"] (Ee K):=by
 refine F.F.ok gR (λvs H Q E h=>?_) (λcdv A outer s H vs Q E hr h=>?_)
 ·obtain⟨n,a,xs,ps,rfl,_⟩:=h;rfl
 ·obtain⟨n,a,xs,ps,rfl,h1,h8,hq,hp,wn,k⟩:=h
  refine⟨_,iL (uL (i:=2) gR.nd rfl (Or.inl rfl) (nH GE hr rfl G.mg G.F.kp G.b .nil Lu (aN (pv 0) bu)))
   (iL (uL (i:=3) gR.nd rfl (Or.inr rfl) (uT (NB:=["start","many"]) (own:=1) (ixs:=[0]) rfl (og (by kernel_rfl)) (lN rfl B.range (aN (pv 0) bu))
    (λC ex s3 H3 pn=>di (i:=0) KG rfl (Or.inl rfl) (hf:=Or.inr rfl)) (λC ex s3 H3 pn=>uv) (λC ex s3 H3 pn=>sy Dm (DG (aN zm bu)) (pv 1))))
   (iL (tZ PassesOwn.never rfl (Hz (pv 1)) (rh rfl (dY (di (i:=4) gR.nd rfl (Or.inl rfl)) (dY (di (i:=5) gR.nd rfl (Or.inl rfl)) nr)))
    (jl (qZ zm (uF (l5 hW (pv 3) (pv 4) (λ_ _=>rfl)) (pv 5) set_list))))
   (iL (tZ PassesOwn.never rfl (lN rfl B.range (aN (pv 0) bu)) (di (i:=6) gR.nd rfl (Or.inl rfl))
    (jl (tZ PassesOwn.never rfl (y2 (pv 2)) (rh rfl (dY (di (i:=4) gR.nd rfl (Or.inl rfl)) (dY (di (i:=5) gR.nd rfl (Or.inl rfl)) nr)))
     (jl (G8 (PW.pt (D3 (x9 (l5 hW (l5 hW (pv 3) (pv 4) (λ_ _=>rfl)) (pv 6) (λ_ _=>rfl))) (Ab (x9 (l5 hW (l5 hW (pv 3) (pv 6) (λ_ _=>rfl)) (pv 5) (λ_ _=>rfl))))))
      (jl (qZ zm (uF (l5 hW (pv 3) (pv 4) (λ_ _=>rfl)) (pv 5) set_list))) zk)))))
   (jl (oA (fZ eG rfl B.tuple (by decide +kernel) (aN (uT (NB:=["a","b","leads"]) (own:=2) (ixs:=[3]) rfl (og (by kernel_rfl)) (y2 (pv 2))
    (λC ex s3 H3 pn=>Jz K 0 1 IG rfl rfl rfl rfl rfl rfl)
    (λC ex s3 H3 pn=>zL (x9 (l5 (Nu K) (l5 (Nu K) (pv 2) (pv 0) (λ_ _=>rfl)) (pv 1) (λ_ _=>rfl)))) (λC ex s3 H3 pn=>yy (aN (pv 0) (aN (pv 1) bu)))) bu))))))),?_⟩
  have hn:=Nr h8
  have hn0:(0:Int)<=(n:Int):=by omega
  refine⟨_,rfl,n,rfl,h1,h8,λH1 c ws s1 hc0 hc hw=>?_⟩
  have hwl:ws.length=n * n:=by rw[hw.len,jG]
  have gw:OM.Wn n (OM.dI n):=λp hp=>OM.cJ.mp hp
  refine yo ?_
  refine⟨_,rfl,n,rfl,by omega,by omega,λD hD=>?_⟩
  rw[OB]
  refine wq (λi σ' H'=>(∃v,σ'= [v,some (.int n)])/\ay H1 H'/\∃r:Nat->Addr,H' D=some (.lst ((List.range i).map λk=>V.ref (r k)))/\
   (∀k,k < i->H' (r k)=some (.lst ((List.range n).map λ_=>V.bl false))/\H1 (r k)=none/\r k≠D)/\∀j k,j < i->k < i->r j=r k->j=k)
   ?_ ?_ ?_
  ·exact⟨⟨none,rfl⟩,(ay.refl H1).put hD (Hi hD),λ_=>0,aA,λk hk=>absurd hk (Nat.not_lt_zero _),λj k hj=>absurd hj (Nat.not_lt_zero _)⟩
  ·rintro i σ' H' hi ⟨⟨v,rfl⟩,s2,r,hr0,hr1,hr2⟩
   refine v8 ⟨by show 1<=sizeLine;rw[Oo];omega,λp hp0=>⟨_,rfl,p,n,[.bl false],rfl,rfl,aA,by omega,by omega,by show 1 * (n:Int).toNat<=sizeLine;rw[Oo];omega,λq hq0=>?_⟩⟩
   have hqp:q≠p:=by intro e;subst e;rw[aA] at hq0;cases hq0
   have hq1:H' q=none:=by rw[aC hqp] at hq0;exact hq0
   have hDp:D≠p:=aK hr0 hp0
   have hDq:D≠q:=aK hr0 hq1
   rw[OB,LM]
   refine⟨_,by rw[aC hDq,aC hDp];exact hr0,by rw[NZ,O6,Oo];omega,⟨_,rfl⟩,((s2.put (s2.free hp0) (Hi hp0)).put (s2.free hq1) (Hi hq0)).put hD (Lr (by rw[aC hDq,aC hDp];exact hr0)),λk=>if k=i then q else r k,?_,λk hk=>?_,λj k hj hk e=>?_⟩
   ·have e:(List.range i).map (λk=>V.ref (r k))=(List.range i).map (λk=>V.ref (if k=i then q else r k)):=Pf λk hk=>by
     have:=Og.mp hk
     rw[N8 (by omega)]
    rw[aA,List.range_succ,OA,e]
    simp
   ·dsimp only
    by_cases e:k=i
    ·rw[N1 e]
     exact⟨by rw[aC hDq.symm,aA],s2.free hq1,hDq.symm⟩
    ·rw[N8 e]
     obtain⟨a1,a2,a3⟩:=hr1 k (by omega)
     exact⟨by rw[aC a3,aC (aK a1 hq1),aC (aK a1 hp0)];exact a1,a2,a3⟩
   ·dsimp only at e
    by_cases ej:j=i
    ·by_cases ek:k=i
     ·omega
     ·rw[N1 ej,N8 ek] at e
      exact absurd e.symm (aK (hr1 k (by omega)).1 hq1)
    ·by_cases ek:k=i
     ·rw[N8 ej,N1 ek] at e
      exact absurd e (aK (hr1 j (by omega)).1 hq1)
     ·rw[N8 ej,N8 ek] at e
      exact hr2 j k (by omega) (by omega) e
  rintro σ2 H2 ⟨_,s2,r,hr0,hr1,hr2⟩
  refine⟨⟨_,hr0⟩,?_⟩
  have sep:∀i,i < n->H1 (r i)=none:=λi hi=>(hr1 i hi).2.1
  have T0:TabAt n (λ_ _=>false) D r H2:=⟨hr0,λi hi=>(hr1 i hi).1,hr2,λi hi=>(hr1 i hi).2.2⟩
  refine⟨_,rfl,a,xs,rfl,Gi (H1:=H1) (EI s1 hq) (λi σ' H'=>(∃x y,σ'= [some (.int n),some (.ref a),some (.ref c),some (.ref D),x,y,none])/\ay H1 H'/\∃M,TabAt n M D r H'/\∀u v:Nat,M u v=true↔((u:Int),(v:Int))∈ps.take i)
   ⟨⟨none,none,rfl⟩,s2,_,T0,λu v=>by simp⟩ (λi σ' H' q=>q.2.1) ?_ ?_⟩
  ·rintro i x σ' H' hx ⟨⟨_,_,rfl⟩,s3,M,T,hM⟩
   obtain⟨p,hpi,b,rfl,hb⟩:=(hp.same (s1.trans s3)).at hx
   obtain⟨u,v,rfl,hu,hv⟩:=ug wn (Ob hpi)
   refine B9 hb ?_
   refine⟨_,rfl,_,rfl,D,_,u,_,rfl,rfl,.inl (.inl T.top),gQ hu,_,rfl,r u,_,v,v,rfl,rfl,T.row u hu,tD hv,⟨_,_,rfl⟩,s3.put (sep u hu) (Lr (T.row u hu)),_,T.set hu,λx y=>?_⟩
   rw[take_snoc hpi,<-lM,Gg,hM]
  rintro σ3 H3 ⟨⟨x3,y3,rfl⟩,s3,M3,T3,hM3⟩
  rw[hp.len,take_all] at hM3
  refine⟨_,rfl,n,rfl,by omega,by omega,?_⟩
  rw[OB]
  refine Bn (λm σ' H'=>(∃x y z,σ'= [some (.int n),some (.ref a),some (.ref c),some (.ref D),x,y,z])/\ay H1 H'/\∃M,TabAt n M D r H'/\OM.Tab n ps M/\OM.E3 M m)
   ⟨⟨_,_,_,rfl⟩,s3,M3,T3,⟨λa b h=>by have:=wn _ ((hM3 a b).mp h);simp only at this;omega,λa b h=>(hM3 a b).mpr h,λa b h=>.one ((hM3 a b).mp h)⟩,λk a b hk=>absurd hk (Nat.not_lt_zero _)⟩ ?_ ?_
  ·rintro m σ' H' hm ⟨⟨_,_,_,rfl⟩,s4,M,T,TT,Th⟩
   rw[Qr]
   refine⟨_,rfl,c,rfl,⟨ws,.inl (.inl (s4 _ _ hc))⟩,vT (xs:=ws) (λi σ' H'=>(∃x y,σ'= [some (.int n),some (.ref a),some (.ref c),some (.ref D),x,y,some (.int m)])/\ay H1 H'/\∃M',TabAt n M' D r H'/\OM.Phase M M' m λu v=>((u:Int),(v:Int))∈(OM.dI n).take i)
    ⟨⟨_,_,rfl⟩,s4,M,T,jq (OM.Phase.start M m) λa b=>by simp⟩ (λi σ' H' _ q=>.inl (.inl (q.2.1 _ _ hc))) ?_ ?_⟩
   ·rintro i x σ' H' hx ⟨⟨_,_,rfl⟩,s5,M',T',Ph⟩
    obtain⟨p,hpi,b,rfl,hb⟩:=(hw.same s5).at hx
    obtain⟨u,v,rfl,hu,hv⟩:=ug gw (Ob hpi)
    refine B9 hb ?_
    have st:=Ph.step u v
    refine⟨_,rfl,_,rfl,D,_,u,_,rfl,rfl,.inl (.inl T'.top),gQ hu,_,rfl,r u,_,m,_,rfl,rfl,.inl (.inl (T'.row u hu)),gQ hm,_,rfl,?_⟩
    by_cases c1:M' u m=true
    ·refine M4 c1 ?_
     refine⟨_,rfl,_,rfl,D,_,m,_,rfl,rfl,.inl (.inl T'.top),gQ hm,_,rfl,r m,_,v,_,rfl,rfl,.inl (.inl (T'.row m hm)),gQ hv,_,rfl,?_⟩
     by_cases c2:M' m v=true
     ·refine M4 c2 ?_
      rw[N1 ⟨c1,c2⟩] at st
      refine⟨_,rfl,_,rfl,D,_,u,_,rfl,rfl,.inl (.inl T'.top),gQ hu,_,rfl,r u,_,v,v,rfl,rfl,T'.row u hu,tD hv,⟨_,_,rfl⟩,s5.put (sep u hu) (Lr (T'.row u hu)),_,T'.set hu,jq st λa b=>?_⟩
      rw[take_snoc hpi];exact lM
     ·refine Mn c2 ?_
      rw[N8 λz=>c2 z.2] at st
      refine⟨⟨_,_,rfl⟩,s5,_,T',jq st λa b=>?_⟩
      rw[take_snoc hpi];exact lM
    ·refine Mn c1 ?_
     rw[N8 λz=>c1 z.1] at st
     refine wC ⟨⟨_,_,rfl⟩,s5,_,T',jq st λa b=>?_⟩
     rw[take_snoc hpi];exact lM
   ·rintro σ' H' ⟨⟨_,_,rfl⟩,s5,M',T',Ph⟩
    rw[hw.len,take_all] at Ph
    have dn:=Ph.done (n:=n) (λa b ha hb=>OM.cJ.mpr ⟨⟨by simp,by simp;omega⟩,by simp,by simp;omega⟩) TT.inn Th
    exact⟨⟨_,_,_,rfl⟩,s5,M',T',TT.phase Ph,dn.1⟩
  rintro σ4 H4 ⟨⟨x4,y4,z4,rfl⟩,s4,M,T,TT,Th⟩
  refine yo ⟨_,rfl,c,rfl,⟨ws,.inl (.inl (s4 _ _ hc))⟩,λD' hD'=>Fm (xs:=ws) (λi σ' H'=>(∃x y,σ'= [x,y,some (.ref D)])/\ay H4 H'/\∃vs,H' D'=some (.lst vs)/\aY K H' vs (((OM.dI n).take i).filter λp=>M p.1.toNat p.2.toNat))
   ⟨⟨_,_,rfl⟩,(ay.refl H4).put hD' (Hi hD'),[],aA,.nil⟩ (λi σ' H' _ q=>.inl (.inl (q.2.1 _ _ (s4 _ _ hc)))) ?_ ?_⟩
  ·rintro i x σ' H' hx ⟨⟨_,_,rfl⟩,s5,vs,hv,hpv⟩
   obtain⟨p,hpi,b,rfl,hb⟩:=(hw.same (s4.trans s5)).at hx
   obtain⟨u,v,rfl,hu,hv'⟩:=ug gw (Ob hpi)
   refine B9 hb ?_
   have T':=T.same s5
   refine⟨_,rfl,_,rfl,D,_,u,_,rfl,rfl,.inl (.inl T'.top),gQ hu,_,rfl,r u,_,v,_,rfl,rfl,.inl (.inl (T'.row u hu)),gQ hv',_,rfl,?_⟩
   by_cases c1:M u v=true
   ·refine M4 c1 ?_
    refine⟨_,rfl,_,rfl,by show 2<=sizeLine;rw[Oo];omega,λp hp0=>?_⟩
    have hpD:D'≠p:=aK hv hp0
    refine⟨vs,by rw[aC hpD];exact hv,?_,⟨_,_,rfl⟩,(s5.put (s5.free hp0) (Hi hp0)).put hD' (Lr (by rw[aC hpD];exact hv)),_,aA,?_⟩
    ·rw[hpv.len]
     refine Rb (O5 ..) ?_
     rw[OX,jG,Oo];omega
    ·rw[take_snoc hpi,Ra,Qb (by simpa using c1),List.filter_nil]
     have g1:i3 H' (upd H' p (.tup [.int u,.int v])):=i3.new hp0
     have g2:∀o,i3 (upd H' p (.tup [.int u,.int v])) (upd (upd H' p (.tup [.int u,.int v])) D' o):=λo=>i3.list (by rw[aC hpD];exact hv)
     refine aY.snoc ?_ (hpv.grow (g1.trans (g2 _)))
     exact fO.grow (.inl (.inl aA)) (g2 _)
   ·refine Mn c1 ?_
    refine⟨⟨_,_,rfl⟩,s5,vs,hv,?_⟩
    rw[take_snoc hpi,Ra,Qc (by simpa using c1),List.filter_nil,Qz]
    exact hpv
  ·rintro σ' H' ⟨_,s5,vs,hv,hpv⟩
   rw[hw.len,take_all] at hpv
   refine⟨⟨_,hv⟩,D',vs,rfl,.inl ⟨.inl (.inl hv),λt ht=>?_⟩⟩
   have sA:ay H H':=(s1.trans s4).trans s5
   refine k _ t vs (sA.put (sA.free ht) (Hi ht)) (sA.free ht) aA ?_
   have e:((OM.dI n).filter λp=>M p.1.toNat p.2.toNat)=OM.cw n (OM.Tr (OM.Mem ps)):=by
    unfold OM.cw
    refine List.filter_congr λp hp=>?_
    obtain⟨u,v,rfl,hu,hv⟩:=ug gw hp
    have:=TT.all wn Th u v
    simp only[OB]
    rw[Pc,this]
    simp
   rw[e] at hpv
   exact hpv.grow (i3.new ht)
end
end RO
namespace RO
open PySem L2 RM
section
variable {P:Program}{w:World}{K:Frag}{mg:Str->Option Value}{base:Heap}{ca:Str->Addr}
def NO (F:fV P w K mg base Jm k f fd ps sp):fV P w K mg base (r0 P w) k f fd ps sp:=
 ⟨F.len,λA outer s H args us vs Q E hr he hb hv hs=>P6 (F.run A outer s H args us vs Q E hr he hb hv hs) λr s' h=>by
  cases r with
  |ok x=>cases x <;> exact h
  |error e=>exact h.elim⟩
def yD (s:ay G H)(h:aY K H ws ps):aY K (lZ G H) ws ps:=Paired.mapP h λv p ⟨a,e,q⟩=>⟨a,e,mX s q⟩
def qP (h:dN ds≠.bad):∃(n:Nat) (d:D) (ps:List Pr),ds= [.int n,d]/\hG d=some (ps.map aU)/\1<=n/\n<=8/\OM.Wn n ps/\dN ds=.ok (.tuple ((OM.cw n (OM.Tr (OM.Mem ps))).map aU)) false:=by
 unfold dN at h
 split at h
 ·rename_i n d
  cases q:hG d with
  |none=>rw[q] at h;exact absurd rfl h
  |some es=>
   rw[q] at h
   dsimp only at h
   cases q2:fY es with
   |none=>rw[q2] at h;exact absurd rfl h
   |some ps=>
    rw[q2] at h
    dsimp only at h
    by_cases c:1<=n/\n<=8/\OM.Wn n.toNat ps
    ·have e:((n.toNat:Nat):Int)=n:=by omega
     refine⟨n.toNat,d,ps,by rw[e],by rw[q,jJ q2],by omega,by omega,c.2.2,?_⟩
     unfold dN
     dsimp only
     rw[q]
     dsimp only
     rw[q2]
     dsimp only
     rw[N1 c]
    ·rw[N8 c] at h;exact absurd rfl h
 ·exact absurd rfl h
def yL (F:iw K mg "closed" mV ["many","pairs"] f fd)(E:iw K mg "every_pair" kE ["many"] g gd)(B:iY mg):bP P w K mg base ca "closed" ["many","pairs"] 3 dN:=by
 refine⟨⟨f,fd,F.mg,F.F.kp,F.b,((NO (Bz F E (CO E B) B)).mono (by decide)).imp ?_⟩,λds h=>?_⟩
 ·rintro vs H Q X ⟨G,ds,s,hl,r,h⟩
  have hb:dN ds≠.bad:=λz=>by rw[z] at h;exact h
  obtain⟨n,d,ps,rfl,hd,h1,h8,wn,e⟩:=qP hb
  rw[e] at h
  cases r with
  |cons r1 r=>
   cases r with
   |cons r2 r=>
    cases r
    cases r1
    obtain⟨a,xs,rfl,hq,hr⟩:=(l7.seq (B:=none) (G:=G) (H:=G) (.inl r2) hd (ay.refl _))
    refine⟨n,a,xs,ps,rfl,h1,h8,hq.elim (λq=>.inl (s.seq q)) (λq=>.inr (q.grow s.grow)),(hr.pairs).grow s.grow,wn,λH' t ws hh ht ht' hp=>?_⟩
    have s2:=s.trans hh
    refine h (.ref t) (lZ G H') H' hh sM (wY s2) (λb m hb=>by rw[z0 hh m];exact hb) ?_
    exact .tup (mX s2 (.inl (.inl ht'))) (aY.rps (yD s2 hp))
 ·obtain⟨n,d,ps,rfl,_⟩:=qP h
  rfl
end
end RO
namespace HD
open PySem PySem.W
noncomputable abbrev CM:=@PySem.W.Fast.tw10156331382660048174
noncomputable abbrev Jb:=@PySem.W.Fast.tw11892475500146522536
noncomputable abbrev Mo:=@PySem.W.Fast.tw6613529449190102663
noncomputable abbrev Hw:=@PySem.W.Fast.tw14364793385576792824
noncomputable abbrev Hg:=@PySem.W.Fast.tw17154629097778926822
noncomputable abbrev Dh:=@PySem.W.Fast.tw12822647523644345616
noncomputable def DE (p:Program):Thread:=
 ⟨do
  let code <-Hg p.main
  let frame <-Dh code mainNs mainNs
  let _ <-run (.body (behindTheImports p) {scope:=p.main.scope,locals:=mainNs,globals:=mainNs,cells:=[],code,frame:=some frame})
  ret .none,
  .builtin "claim.caller" {},default,[]⟩
def Cr (p:Program):topStub p=DE p:=by
 unfold topStub DE Hg Dh
 rw[<-PySem.W.Fast.te17154629097778926822,<-PySem.W.Fast.te12822647523644345616]
noncomputable def pK (p:Program)(w:World)(n₀:Nat)(ann:Option Value):Nat->SharedT->Thread->Option SharedT
 | 0,_,_=>none
 |n + 1,s,t=>match through t with
  |true=>some s
  |false=>match Mo n₀ ann t with
   |false=>none
   |true=>match CM (Jb Hw) p w s t with
    |some (s',t')=>pK p w n₀ ann n s' t'
    |none=>none
theorem sZ :∀{n:Nat} {s s':SharedT} {t:Thread},pK p w n₀ ann n s t=some s'->topRun treeTable p w n₀ ann n s.abs t=some s'.abs
 | 0,_,_,_,h=>by cases h
 |n + 1,s,s',t,h=>by
  unfold pK at h
  unfold topRun
  cases ht:through t with
  |true=>rw[ht] at h;cases h;rfl
  |false=>
   rw[ht] at h
   have hq:Mo n₀ ann t=stepOk n₀ ann t:=by unfold Mo;rw[<-PySem.W.Fast.te6613529449190102663]
   dsimp only at h
   rw[hq] at h
   cases hk:stepOk n₀ ann t with
   |false=>rw[hk] at h;cases h
   |true=>
    rw[hk] at h
    have hq:CM (Jb Hw) p w s t=stepT (denote treeTable) p w s t:=by unfold CM Jb Hw;rw[<-PySem.W.Fast.te10156331382660048174,<-PySem.W.Fast.te11892475500146522536,<-PySem.W.Fast.te14364793385576792824]
    dsimp only at h
    rw[hq] at h
    cases hs:stepT (denote treeTable) p w s t with
    |none=>rw[hs] at h;cases h
    |some r=>obtain⟨s₂,t₂⟩:=r;rw[hs] at h;rw[stepT_spec hs];exact sZ h
def treeOf (l:List Obj):BT:=(l.foldl (λ(x:BT×Nat) o=>(x.1.ins x.2 o,x.2 + 1)) (.nil,0)).1
noncomputable def Dc (P:Params):BT:=treeOf (boot_heap P).objs.toList
abbrev vW:Nat:=11
abbrev Dz:Life:={}
def boot_abs (P:Params):absHeap (Dc P) vW Dz=boot_heap P:=by kernel_rfl
def Bb (w:World):((boot_heap w.params).isNs mainGlobals && (Array.mk ([]:List GenState)).size == 0,(boot_heap w.params).objs.size,(boot_heap w.params).nsMap mainGlobals "__annotations__")=(true,vW,some (.ref 6)):=by kernel_rfl
noncomputable def Dg (w:World)(os:OsState):SharedT:=⟨Dc w.params,vW,Dz,Array.mk [],boot_drawn,boot_toks,os⟩
noncomputable def Hd (p:Program)(w:World)(s:Shared):Bool:=staticsOk (importedModules p.main.body) (boot_heap w.params) s.heap && namesBound p s.heap && gensDone s && laidKept (boot_heap w.params) s.heap
def FA {p q:Program}{loose:List Str}{Xt:Shared->Bool}{α:Type}{Yf:Shared->α}{Ya:World->α}{N:Nat}{g0:Bool}
  (e:opening p=plainProg p.main.scope.names) (hN:Nat.ble 600 N=true) (f:∀s,fenceModules? p s=some s)
  (run:∀(w:World) (os:OsState),(pK p w vW (some (.ref 6)) N (Dg w os) (DE p)).map (λs=>(Hd p w s.abs,openSeen q loose (importedModules p.main.body) Xt g0 s.abs,Yf s.abs))=some (true,openGood q loose,Ya w)):LeftO p q loose Xt Yf Ya N g0:=λw=>by
 obtain⟨⟨h,gs,d,k,os⟩,e,e'⟩:=PQ.mp (boot_open e hN f w)
 obtain⟨rfl,rfl,rfl,rfl⟩:h=boot_heap w.params/\gs=Array.mk []/\d=boot_drawn/\k=boot_toks:=by simpa using e'
 obtain⟨z1,z2,z3⟩:_/\_/\_:=by simpa only [Prod.mk.injEq] using Bb w
 obtain⟨s',r,ls⟩:=PQ.mp (run w os)
 obtain⟨l1,l2,l3⟩:_/\_/\_:=by simpa only [Prod.mk.injEq] using ls
 have r:=sZ r
 have ha:(Dg w os).abs=⟨boot_heap w.params,Array.mk [],boot_drawn,boot_toks,os⟩:=by
  show Shared.mk (absHeap (Dc w.params) vW Dz) _ _ _ _=_
  rw[boot_abs]
  rfl
 rw[ha,<-Cr] at r
 have t:topFrom treeTable p w N ⟨boot_heap w.params,Array.mk [],boot_drawn,boot_toks,os⟩=some s'.abs:=by
  unfold topFrom
  dsimp only
  rw[z1,z2,z3,r]
  show (match Hd p w s'.abs with |true=>_ |false=>_)=_
  rw[l1]
 unfold openEnds
 rw[e]
 show (topFrom treeTable p w N _).map _=_
 rw[t]
 exact congrArg some (Prod.ext l2 l3)
end HD
section
namespace RO
open PySem L2 RM
def zF (K:Frag):Sp:=λvs H Q _=>∃(a:Addr) (ns:List Int),vs= [.ref a]/\gf K H a (ns.map V.int)/\∀H',ay H H'->Q (.bl true) H'
def Ih {ca:Str->Addr}(vs:List V)(H:Hp)(Q:VK)(E:XK)(h:zF K vs H Q E):Dd K ca 1 JX vs H Q E:=by
 obtain⟨a,ns,rfl,hS,q⟩:=h
 refine⟨H,[dW ns],ay.refl _,rfl,.cons (.scr hS) .nil,?_⟩
 rw[KU]
 intro v G' H' s1 s2 s3 s4 fv
 have fv:Rp K G' v (.bool true):=fv
 cases fv
 exact q H' s1
def yi:aX "is_whole" RQ.kz ["thing"]:=λ_ _ _ _ _ _=>zY λ_=>rfl
def yf:aX "is_below" RQ.kl ["thing","bound"]:=λ_ _ _ _ _ _=>ln2 λ_ _=>rfl
def Ax:aX "is_many" RQ.lP ["thing"]:=λ_ _ _ _ _ _=>zY λ_=>rfl
def Av:aX "is_pair" RQ.lL ["thing","many"]:=λ_ _ _ _ _ _=>ln2 λ_ _=>rfl
def BF:aX "is_line" RQ.lW ["thing","many"]:=λ_ _ _ _ _ _=>ln2 λ_ _=>rfl
def uX:aX "every_pair" RQ.fJ ["many"]:=λ_ _ _ _ _ _=>zY λ_=>rfl
def Cj:aX "closed" mV ["many","pairs"]:=λ_ _ _ _ _ _=>ln2 λ_ _=>rfl
def xY:aX "has_ring" RQ.kF ["pairs"]:=λ_ _ _ _ _ _=>zY λ_=>rfl
def yF:aX "is_order" RQ.jU ["thing"]:=λ_ _ _ _ _ _=>zY λ_=>rfl
def t7:aX "need_order" RQ.ip ["thing"]:=λ_ _ _ _ _ _=>zY λ_=>rfl
def ku:aX "need_order_and_thing" RQ.b4 ["order","thing"]:=λ_ _ _ _ _ _=>ln2 λ_ _=>rfl
def Gk:aX "ahead" RQ.pO ["order","thing"]:=λ_ _ _ _ _ _=>ln2 λ_ _=>rfl
def CY:aX "behind" RQ.nK ["order","thing"]:=λ_ _ _ _ _ _=>ln2 λ_ _=>rfl
def EY:aX "apart" RQ.pE ["order","thing"]:=λ_ _ _ _ _ _=>ln2 λ_ _=>rfl
def vP:aX "are_apart" RQ.jo ["order","a","b"]:=λ_ _ _ _ _ _=>Mh λ_ _ _=>rfl
def CD:aX "turned" RQ.nA ["order"]:=λ_ _ _ _ _ _=>zY λ_=>rfl
def Dl:aX "places" RQ.ng ["row"]:=λ_ _ _ _ _ _=>zY λ_=>rfl
def rW:aX "keeps_order" RQ.gE ["thing","order"]:=λ_ _ _ _ _ _=>ln2 λ_ _=>rfl
def uY:aX "with_thing" RQ.iq ["placed","thing"]:=λ_ _ _ _ _ _=>ln2 λ_ _=>rfl
def rG:aX "masks_ahead" RQ.gC ["order"]:=λ_ _ _ _ _ _=>zY λ_=>rfl
def rT:aX "free_things" RQ.gM ["masks","placed"]:=λ_ _ _ _ _ _=>ln2 λ_ _=>rfl
def vt:aX "row_along" RQ.jh ["masks","late"]:=λ_ _ _ _ _ _=>ln2 λ_ _=>rfl
def qc:aX "stands_ahead" RQ.fE ["tables","a","b"]:=λ_ _ _ _ _ _=>Mh λ_ _ _=>rfl
def qD:aX "shared_pairs" RQ.fy ["many","rows"]:=λ_ _ _ _ _ _=>ln2 λ_ _=>rfl
def yd:aX "are_rows" RQ.j8 ["thing","order"]:=λ_ _ _ _ _ _=>ln2 λ_ _=>rfl
def Ie:aX "tell" RQ.uh ["thing","order"]:=λ_ _ _ _ _ _=>ln2 λ_ _=>rfl
def ph:aX "longer_groups" RQ.eN ["order","groups"]:=λ_ _ _ _ _ _=>ln2 λ_ _=>rfl
def u7:aX "most_apart" RQ.hZ ["order"]:=λ_ _ _ _ _ _=>zY λ_=>rfl
def Iz:aX "fits" RQ.u6 ["order","chain","thing"]:=λ_ _ _ _ _ _=>Mh λ_ _ _=>rfl
def rX:aX "chains_from" RQ.gL ["order","most","made","thing"]:=λ_ _ _ _ _ _=>NS λ_ _ _ _=>rfl
def DH:aX "chains" RQ.m6 ["order"]:=λ_ _ _ _ _ _=>zY λ_=>rfl
def yJ:aX "is_chain" RQ.kj ["thing","order"]:=λ_ _ _ _ _ _=>ln2 λ_ _=>rfl
def tO:aX "are_chains" RQ.iB ["thing","order"]:=λ_ _ _ _ _ _=>ln2 λ_ _=>rfl
def xo:aX "chain_row" RQ.ji ["order","chain"]:=λ_ _ _ _ _ _=>ln2 λ_ _=>rfl
def tT:aX "chain_rows" RQ.hX ["order"]:=λ_ _ _ _ _ _=>zY λ_=>rfl
def vB:aX "_law_cell" RQ.jb ["script","k"]:=λ_ _ _ _ _ _=>ln2 λ_ _=>rfl
def xN:aX "_law_mix" RQ.fU ["cell","k"]:=λ_ _ _ _ _ _=>ln2 λ_ _=>rfl
def xA:aX "_law_box" RQ.kJ ["script","k"]:=λ_ _ _ _ _ _=>ln2 λ_ _=>rfl
def wx:aX "_law_take" RQ.jm ["box","many"]:=λ_ _ _ _ _ _=>ln2 λ_ _=>rfl
def pf:aX "_law_mixed_up" RQ.eJ ["box","some"]:=λ_ _ _ _ _ _=>ln2 λ_ _=>rfl
def rA:aX "_law_closed" RQ.gJ ["pairs"]:=λ_ _ _ _ _ _=>zY λ_=>rfl
def t9:aX "_law_order" RQ.ie ["box","most"]:=λ_ _ _ _ _ _=>ln2 λ_ _=>rfl
def mR:aX "_law_behind_all" RQ.dr ["row","order","chain"]:=λ_ _ _ _ _ _=>Mh λ_ _ _=>rfl
def all_mk {l:PySem.W.OpenLaw}{w:World}{mg:Str->Option Value}{fa f44:Addr}(X:K.In h)(G:h.Ns mainGlobals mg)(hfa:mg "law"=some (.ref fa))
  {od44 an44:Option Addr} {sl44:Array (Option Value)} {oc44 kV44 dc44 pm44 cd44 ct44:Value} {tMOST_THINGS:Tok}
  (F1:Fo K mg "is_whole" RQ.kz ["thing"])
  (F2:Fo K mg "is_below" RQ.kl ["thing","bound"])
  (F3:Fo K mg "is_many" RQ.lP ["thing"])
  (F4:Fo K mg "is_pair" RQ.lL ["thing","many"])
  (F5:Fo K mg "is_line" RQ.lW ["thing","many"])
  (F6:Fo K mg "every_pair" RQ.fJ ["many"])
  (F7:Fo K mg "closed" mV ["many","pairs"])
  (F8:Fo K mg "has_ring" RQ.kF ["pairs"])
  (F9:Fo K mg "is_order" RQ.jU ["thing"])
  (F10:Fo K mg "need_order" RQ.ip ["thing"])
  (F11:Fo K mg "need_order_and_thing" RQ.b4 ["order","thing"])
  (F12:Fo K mg "ahead" RQ.pO ["order","thing"])
  (F13:Fo K mg "behind" RQ.nK ["order","thing"])
  (F14:Fo K mg "apart" RQ.pE ["order","thing"])
  (F15:Fo K mg "are_apart" RQ.jo ["order","a","b"])
  (F16:Fo K mg "turned" RQ.nA ["order"])
  (F17:Fo K mg "places" RQ.ng ["row"])
  (F18:Fo K mg "keeps_order" RQ.gE ["thing","order"])
  (F19:Fo K mg "with_thing" RQ.iq ["placed","thing"])
  (F20:Fo K mg "masks_ahead" RQ.gC ["order"])
  (F21:Fo K mg "free_things" RQ.gM ["masks","placed"])
  (F22:Fo K mg "row_along" RQ.jh ["masks","late"])
  (F23:Fo K mg "stands_ahead" RQ.fE ["tables","a","b"])
  (F24:Fo K mg "shared_pairs" RQ.fy ["many","rows"])
  (F25:Fo K mg "are_rows" RQ.j8 ["thing","order"])
  (F26:Fo K mg "tell" RQ.uh ["thing","order"])
  (F27:Fo K mg "longer_groups" RQ.eN ["order","groups"])
  (F28:Fo K mg "most_apart" RQ.hZ ["order"])
  (F29:Fo K mg "fits" RQ.u6 ["order","chain","thing"])
  (F30:Fo K mg "chains_from" RQ.gL ["order","most","made","thing"])
  (F31:Fo K mg "chains" RQ.m6 ["order"])
  (F32:Fo K mg "is_chain" RQ.kj ["thing","order"])
  (F33:Fo K mg "are_chains" RQ.iB ["thing","order"])
  (F34:Fo K mg "chain_row" RQ.ji ["order","chain"])
  (F35:Fo K mg "chain_rows" RQ.hX ["order"])
  (F36:Fo K mg "_law_cell" RQ.jb ["script","k"])
  (F37:Fo K mg "_law_mix" RQ.fU ["cell","k"])
  (F38:Fo K mg "_law_box" RQ.kJ ["script","k"])
  (F39:Fo K mg "_law_take" RQ.jm ["box","many"])
  (F40:Fo K mg "_law_mixed_up" RQ.eJ ["box","some"])
  (F41:Fo K mg "_law_closed" RQ.gJ ["pairs"])
  (F42:Fo K mg "_law_order" RQ.ie ["box","most"])
  (F43:Fo K mg "_law_behind_all" RQ.dr ["row","order","chain"])
  (a44:PySem.W.nsIn K mainGlobals "law"=some (some (.ref f44))) (l44:K.lookup f44=some ⟨oc44,od44,.func (PySem.W.fnOf "law" "law" (jj RQ.me) (dg RQ.me) (ar RQ.me) .none kV44 dc44 pm44 an44 cd44 ct44),sl44⟩) (c44:PySem.W.codeIn K cd44 "law"=true) (k44:PySem.W.keepIn K (.ref f44)=true)
  (zB:Mm K=true)
  (yMOST_THINGS:PySem.W.nsIn K mainGlobals "MOST_THINGS"=some (some (.int 8 tMOST_THINGS)))
  :∃fd:FuncData,(∀(s:Shared) (v:Value),BindsTo s fd ⟨[v],[]⟩ [("script",v)])/\∀base:Heap,K.In base->base.Ns mainGlobals mg->fV l.prog w K mg base (r0 l.prog w) 45 fa fd ["script"] (zF K):=by
 have e:=hfa.symm.trans (PySem.W.mg_of X G a44)
 cases e
 have B:iY mg:=Kx X G zB
 have jx:=PySem.W.mg_of X G yMOST_THINGS
 obtain⟨f1,d1,cc⟩:=F1.ex
 obtain⟨f2,d2,aW⟩:=F2.ex
 obtain⟨f3,d3,iC⟩:=F3.ex
 obtain⟨f4,d4,iF⟩:=F4.ex
 obtain⟨f5,d5,iD⟩:=F5.ex
 obtain⟨f6,d6,cP⟩:=F6.ex
 obtain⟨f7,d7,jO⟩:=F7.ex
 obtain⟨f8,d8,gu⟩:=F8.ex
 obtain⟨f9,d9,gx⟩:=F9.ex
 obtain⟨f10,d10,ax⟩:=F10.ex
 obtain⟨f11,d11,aB⟩:=F11.ex
 obtain⟨f12,d12,lY⟩:=F12.ex
 obtain⟨f13,d13,jR⟩:=F13.ex
 obtain⟨f14,d14,fu⟩:=F14.ex
 obtain⟨f15,d15,bX⟩:=F15.ex
 obtain⟨f16,d16,iN⟩:=F16.ex
 obtain⟨f17,d17,dC⟩:=F17.ex
 obtain⟨f18,d18,c8⟩:=F18.ex
 obtain⟨f19,d19,a7⟩:=F19.ex
 obtain⟨f20,d20,c5⟩:=F20.ex
 obtain⟨f21,d21,c7⟩:=F21.ex
 obtain⟨f22,d22,eV⟩:=F22.ex
 obtain⟨f23,d23,cH⟩:=F23.ex
 obtain⟨f24,d24,cL⟩:=F24.ex
 obtain⟨f25,d25,fT⟩:=F25.ex
 obtain⟨f26,d26,oD⟩:=F26.ex
 obtain⟨f27,d27,cj⟩:=F27.ex
 obtain⟨f28,d28,bB⟩:=F28.ex
 obtain⟨f29,d29,iO⟩:=F29.ex
 obtain⟨f30,d30,ba⟩:=F30.ex
 obtain⟨f31,d31,cW⟩:=F31.ex
 obtain⟨f32,d32,b9⟩:=F32.ex
 obtain⟨f33,d33,cT⟩:=F33.ex
 obtain⟨f34,d34,bV⟩:=F34.ex
 obtain⟨f35,d35,dJ⟩:=F35.ex
 obtain⟨f36,d36,eS⟩:=F36.ex
 obtain⟨f37,d37,gj⟩:=F37.ex
 obtain⟨f38,d38,gi⟩:=F38.ex
 obtain⟨f39,d39,bE⟩:=F39.ex
 obtain⟨f40,d40,cq⟩:=F40.ex
 obtain⟨f41,d41,c9⟩:=F41.ex
 obtain⟨f42,d42,dM⟩:=F42.ex
 obtain⟨f43,d43,bH⟩:=F43.ex
 have U44:=yt (st:=RQ.me) l44 c44 k44
 have K2:iw K mg "law" RQ.me ["script"] fa _:=⟨PySem.W.mg_of X G a44,U44,U44.binds (ps:=["script"]) λ_ _ _ _ _ _=>zY λ_=>rfl⟩
 obtain⟨ca,hca⟩:∃ca:Str->Addr,True:=⟨λ_=>0,trivial⟩
 refine⟨PySem.W.fnOf "law" "law" (jj RQ.me) (dg RQ.me) (ar RQ.me) .none kV44 dc44 pm44 an44 cd44 ct44,λs v=>.of_eq rfl,λbase _ _=>?_⟩
 have gk:=(RQ.ua (P:=l.prog) (w:=w) (base:=base) (ca:=ca) cc B).imp EC
 have bQ:=(RQ.uH (P:=l.prog) (w:=w) (base:=base) (ca:=ca) aW B gk).imp Ey
 have oB:=(RQ.vk (P:=l.prog) (w:=w) (base:=base) (ca:=ca) iC B gk jx).imp IQ
 have nV:=(RQ.wU (P:=l.prog) (w:=w) (base:=base) (ca:=ca) iF B bQ).imp IA
 have oz:=RQ.wm (P:=l.prog) (w:=w) (base:=base) (ca:=ca) iD B bQ
 have j4:=RQ.qW (P:=l.prog) (w:=w) (base:=base) (ca:=ca) cP B
 have pQ:=yL (P:=l.prog) (w:=w) (base:=base) (ca:=ca) jO cP B
 have mB:=(RQ.uA (P:=l.prog) (w:=w) (base:=base) (ca:=ca) gu B).imp Iu
 have mz:=(RQ.um (P:=l.prog) (w:=w) (base:=base) (ca:=ca) gx B oB nV pQ mB).imp yh
 have aM:=(RQ.qw (P:=l.prog) (w:=w) (base:=base) (ca:=ca) ax B mz).imp xD
 have aQ:=RQ.js (P:=l.prog) (w:=w) (base:=base) (ca:=ca) aB B aM bQ
 have uZ:=RQ.BA (P:=l.prog) (w:=w) (base:=base) (ca:=ca) lY B aQ
 have p7:=RQ.ym (P:=l.prog) (w:=w) (base:=base) (ca:=ca) jR B aQ
 have lO:=RQ.AG (P:=l.prog) (w:=w) (base:=base) (ca:=ca) fu B aQ uZ p7
 have e8:=RQ.rY (P:=l.prog) (w:=w) (base:=base) (ca:=ca) bX B
 have nC:=RQ.yP (P:=l.prog) (w:=w) (base:=base) (ca:=ca) iN B aM
 have jI:=RQ.yO (P:=l.prog) (w:=w) (base:=base) (ca:=ca) dC B
 have jy:=RQ.pd (P:=l.prog) (w:=w) (base:=base) (ca:=ca) c8 B oz jI
 have b6:=RQ.p5 (P:=l.prog) (w:=w) (base:=base) (ca:=ca) a7 B
 have jC:=RQ.o7 (P:=l.prog) (w:=w) (base:=base) (ca:=ca) c5 B b6
 have jt:=RQ.oY (P:=l.prog) (w:=w) (base:=base) (ca:=ca) c7 B b6
 have lA:=RQ.rF (P:=l.prog) (w:=w) (base:=base) (ca:=ca) eV B jt b6
 have iW:=RQ.oy (P:=l.prog) (w:=w) (base:=base) (ca:=ca) cH B
 have iU:=RQ.nZ (P:=l.prog) (w:=w) (base:=base) (ca:=ca) cL B jI j4 iW
 have mF:=RQ.t8 (P:=l.prog) (w:=w) (base:=base) (ca:=ca) fT B jy
 have yK:=RQ.BZ (P:=l.prog) (w:=w) (base:=base) (ca:=ca) oD B aM mF iU
 have g9:=RQ.nG (P:=l.prog) (w:=w) (base:=base) (ca:=ca) cj B e8
 have cS:=RQ.ql (P:=l.prog) (w:=w) (base:=base) (ca:=ca) bB B aM g9
 have ox:=RQ.B8 (P:=l.prog) (w:=w) (base:=base) (ca:=ca) iO B e8
 have c4:=za (P:=l.prog) (w:=w) (base:=base) (ca:=ca) (j:=2) ba (λk F' hk h=>RQ.oW hk ba B h ox) 40
 have iQ:=RQ.xE (P:=l.prog) (w:=w) (base:=base) (ca:=ca) cW B aM c4 cS
 have gn:=RQ.tY (P:=l.prog) (w:=w) (base:=base) (ca:=ca) b9 B bQ ox
 have ic:=RQ.qG (P:=l.prog) (w:=w) (base:=base) (ca:=ca) cT B aM gn
 have eZ:=RQ.rQ (P:=l.prog) (w:=w) (base:=base) (ca:=ca) bV B aM gn lA jC
 have ke:=RQ.qE (P:=l.prog) (w:=w) (base:=base) (ca:=ca) dJ B iQ eZ
 have lC:=RQ.rZ (P:=l.prog) (w:=w) (base:=base) (ca:=ca) eS B
 have mE:=RQ.ur (P:=l.prog) (w:=w) (base:=base) (ca:=ca) gj B
 have mj:=RQ.uS (P:=l.prog) (w:=w) (base:=base) (ca:=ca) gi B lC mE
 have cN:=RQ.se (P:=l.prog) (w:=w) (base:=base) bE B
 have gZ:=RQ.nz (P:=l.prog) (w:=w) (base:=base) cq B cN
 have jD:=RQ.oX (P:=l.prog) (w:=w) (base:=base) (ca:=ca) c9 B
 have kK:=RQ.rb (P:=l.prog) (w:=w) (base:=base) (ca:=ca) dM B jD cN gZ
 have dk:=RQ.l0 (P:=l.prog) (w:=w) (base:=base) (ca:=ca) bH B lO
 have LO:=RQ.Gq (P:=l.prog) (w:=w) (base:=base) (ca:=ca) K2 B mj iQ cS ke ic yK dk eZ lO nC kK
 exact fV.imp (sp:=Dd K ca 1 JX) LO Ih
def walk {l:PySem.W.OpenLaw}{q:Program}{loose:List Str}{XP:(Str->Option Value)->Heap->Prop}{YP:World->Heap->Prop}{d:DefRec}{K:Params->Frag}(hn:l.most=some 63)(hdf:d.params.defaults= [])(hi:PyProof.Rows.importsNone q=true)
  (hY:∀(w:World) (h:Heap),YP w h->(K w.params).In h)
  (F:∀(w:World) (mg:Str->Option Value) (fa:Addr) (h:Heap),(K w.params).In h->h.Ns mainGlobals mg->mg d.name=some (.ref fa)->
   ∃fd:FuncData,(∀(s:Shared) (u:Value),BindsTo s fd ⟨[u],[]⟩ [("script",u)])/\∀base:Heap,(K w.params).In base->base.Ns mainGlobals mg->fV l.prog w (K w.params) mg base (r0 l.prog w) 45 fa fd ["script"] (zF (K w.params))) :
  PySem.W.WalkO q loose XP YP l.row.toRowW d [] (λf vs=>PySem.call f vs):=
 L2.E7 (n:=63) (k:=45) (x:="script") (CX:=λw=>r0 l.prog w) (sp:=λw=>zF (K w.params)) hn (by decide) hdf hi ⟨rfl,by decide,by decide,rfl⟩ hY F (λ_ _ a ns hl _ hS=>⟨a,ns,rfl,hS,λ_ _=>rfl⟩) λ_ _ _ _ _ z=>by
  obtain⟨_,_,_,_,_,_,_,_,_,z⟩:=z
  exact z
end RO
namespace HD
noncomputable def vw:PySem.Program:=PySem.W.view PySem.Challenge.pw_rowsorder_k21_whole_rows_by_chains [1,2,3,4,5,6,7,9,10,11,12,14,15,16,17,18,19,20,21,22,23,25,26,27,28,29,30,31,32,33,34,36,37,38,39,40,41,42,43,44,46,47,48,49,50,51,52,53,54]
def Lz:PySem.Challenge.rw_rowsorder_k21_whole_rows_by_chains.wellSaid=true:=by kernel_rfl
end HD
local macro_rules | `(tactic|o_head $H)=>`(tactic| (
 refine PySem.W.holds_open (q:=HD.vw) (loose:=[]) (Xt:=λs=>PySem.W.xlAt HD.vw [] s && PySem.W.recOk (PySem.W.RowW.records _) s) (XP:=PySem.W.XL HD.vw []) (Yf:=PySem.W.Hook.obs $H) (Ya:=PySem.W.Hook.val $H) (YP:=PySem.W.Hook.says $H) (N:=4420) ?hl (PySem.W.Hook.of $H) (PySem.W.Hook.keeps $H) (λs e=>PySem.W.xl_of s (Bool.and_eq_true_iff.mp e).1) PySem.W.XL.keeps (by rfl) (by rfl) (by rfl) (λs e=>PySem.W.recFacts_of (Bool.and_eq_true_iff.mp e).2) (by rfl) (by first |assumption |decide +kernel) (by decide +kernel) ⟨rfl,rfl,rfl,rfl,rfl,by decide +kernel⟩ ?hw ?hc
 case hl=>exact HD.FA (by kernel_rfl) (by kernel_rfl) (λs=>by kernel_rfl) (λw os=>by kernel_rfl)))
open PySem PySem.W PyProof.Rows L2
set_option maxRecDepth 100000 in
set_option maxHeartbeats 0 in
theorem PySem.Challenge.cw_rowsorder_k21_whole_rows_by_chains_holds : PySem.Challenge.rw_rowsorder_k21_whole_rows_by_chains.Holds := by
 w_on;(refine holds_law HD.Lz λLz=>?_);k_head;(case hw=>w_witness2)
 k_fill
 refine RO.walk (l:=PySem.Challenge.rw_rowsorder_k21_whole_rows_by_chains) rfl rfl ?hi (λw h Y=>PySem.W.kIn_of Y) ?F
 case hi=>kernel_rfl
 case F=>
  intro w mg fa h KX G hmg
  refine' RO.all_mk KX G hmg ?F1 ?F2 ?F3 ?F4 ?F5 ?F6 ?F7 ?F8 ?F9 ?F10 ?F11 ?F12 ?F13 ?F14 ?F15 ?F16 ?F17 ?F18 ?F19 ?F20 ?F21 ?F22 ?F23 ?F24 ?F25 ?F26 ?F27 ?F28 ?F29 ?F30 ?F31 ?F32 ?F33 ?F34 ?F35 ?F36 ?F37 ?F38 ?F39 ?F40 ?F41 ?F42 ?F43 ?a44 ?l44 ?c44 ?k44 ?zB ?yMOST_THINGS
  case F1=>refine' bz KX G RO.yi ?a ?l ?c ?k;(case a=>k_is);(case l=>k_is);(case c=>k_is);(case k=>k_is)
  case F2=>refine' bz KX G RO.yf ?a ?l ?c ?k;(case a=>k_is);(case l=>k_is);(case c=>k_is);(case k=>k_is)
  case F3=>refine' bz KX G RO.Ax ?a ?l ?c ?k;(case a=>k_is);(case l=>k_is);(case c=>k_is);(case k=>k_is)
  case F4=>refine' bz KX G RO.Av ?a ?l ?c ?k;(case a=>k_is);(case l=>k_is);(case c=>k_is);(case k=>k_is)
  case F5=>refine' bz KX G RO.BF ?a ?l ?c ?k;(case a=>k_is);(case l=>k_is);(case c=>k_is);(case k=>k_is)
  case F6=>refine' bz KX G RO.uX ?a ?l ?c ?k;(case a=>k_is);(case l=>k_is);(case c=>k_is);(case k=>k_is)
  case F7=>refine' bz KX G RO.Cj ?a ?l ?c ?k;(case a=>k_is);(case l=>k_is);(case c=>k_is);(case k=>k_is)
  case F8=>refine' bz KX G RO.xY ?a ?l ?c ?k;(case a=>k_is);(case l=>k_is);(case c=>k_is);(case k=>k_is)
  case F9=>refine' bz KX G RO.yF ?a ?l ?c ?k;(case a=>k_is);(case l=>k_is);(case c=>k_is);(case k=>k_is)
  case F10=>refine' bz KX G RO.t7 ?a ?l ?c ?k;(case a=>k_is);(case l=>k_is);(case c=>k_is);(case k=>k_is)
  case F11=>refine' bz KX G RO.ku ?a ?l ?c ?k;(case a=>k_is);(case l=>k_is);(case c=>k_is);(case k=>k_is)
  case F12=>refine' bz KX G RO.Gk ?a ?l ?c ?k;(case a=>k_is);(case l=>k_is);(case c=>k_is);(case k=>k_is)
  case F13=>refine' bz KX G RO.CY ?a ?l ?c ?k;(case a=>k_is);(case l=>k_is);(case c=>k_is);(case k=>k_is)
  case F14=>refine' bz KX G RO.EY ?a ?l ?c ?k;(case a=>k_is);(case l=>k_is);(case c=>k_is);(case k=>k_is)
  case F15=>refine' bz KX G RO.vP ?a ?l ?c ?k;(case a=>k_is);(case l=>k_is);(case c=>k_is);(case k=>k_is)
  case F16=>refine' bz KX G RO.CD ?a ?l ?c ?k;(case a=>k_is);(case l=>k_is);(case c=>k_is);(case k=>k_is)
  case F17=>refine' bz KX G RO.Dl ?a ?l ?c ?k;(case a=>k_is);(case l=>k_is);(case c=>k_is);(case k=>k_is)
  case F18=>refine' bz KX G RO.rW ?a ?l ?c ?k;(case a=>k_is);(case l=>k_is);(case c=>k_is);(case k=>k_is)
  case F19=>refine' bz KX G RO.uY ?a ?l ?c ?k;(case a=>k_is);(case l=>k_is);(case c=>k_is);(case k=>k_is)
  case F20=>refine' bz KX G RO.rG ?a ?l ?c ?k;(case a=>k_is);(case l=>k_is);(case c=>k_is);(case k=>k_is)
  case F21=>refine' bz KX G RO.rT ?a ?l ?c ?k;(case a=>k_is);(case l=>k_is);(case c=>k_is);(case k=>k_is)
  case F22=>refine' bz KX G RO.vt ?a ?l ?c ?k;(case a=>k_is);(case l=>k_is);(case c=>k_is);(case k=>k_is)
  case F23=>refine' bz KX G RO.qc ?a ?l ?c ?k;(case a=>k_is);(case l=>k_is);(case c=>k_is);(case k=>k_is)
  case F24=>refine' bz KX G RO.qD ?a ?l ?c ?k;(case a=>k_is);(case l=>k_is);(case c=>k_is);(case k=>k_is)
  case F25=>refine' bz KX G RO.yd ?a ?l ?c ?k;(case a=>k_is);(case l=>k_is);(case c=>k_is);(case k=>k_is)
  case F26=>refine' bz KX G RO.Ie ?a ?l ?c ?k;(case a=>k_is);(case l=>k_is);(case c=>k_is);(case k=>k_is)
  case F27=>refine' bz KX G RO.ph ?a ?l ?c ?k;(case a=>k_is);(case l=>k_is);(case c=>k_is);(case k=>k_is)
  case F28=>refine' bz KX G RO.u7 ?a ?l ?c ?k;(case a=>k_is);(case l=>k_is);(case c=>k_is);(case k=>k_is)
  case F29=>refine' bz KX G RO.Iz ?a ?l ?c ?k;(case a=>k_is);(case l=>k_is);(case c=>k_is);(case k=>k_is)
  case F30=>refine' bz KX G RO.rX ?a ?l ?c ?k;(case a=>k_is);(case l=>k_is);(case c=>k_is);(case k=>k_is)
  case F31=>refine' bz KX G RO.DH ?a ?l ?c ?k;(case a=>k_is);(case l=>k_is);(case c=>k_is);(case k=>k_is)
  case F32=>refine' bz KX G RO.yJ ?a ?l ?c ?k;(case a=>k_is);(case l=>k_is);(case c=>k_is);(case k=>k_is)
  case F33=>refine' bz KX G RO.tO ?a ?l ?c ?k;(case a=>k_is);(case l=>k_is);(case c=>k_is);(case k=>k_is)
  case F34=>refine' bz KX G RO.xo ?a ?l ?c ?k;(case a=>k_is);(case l=>k_is);(case c=>k_is);(case k=>k_is)
  case F35=>refine' bz KX G RO.tT ?a ?l ?c ?k;(case a=>k_is);(case l=>k_is);(case c=>k_is);(case k=>k_is)
  case F36=>refine' bz KX G RO.vB ?a ?l ?c ?k;(case a=>k_is);(case l=>k_is);(case c=>k_is);(case k=>k_is)
  case F37=>refine' bz KX G RO.xN ?a ?l ?c ?k;(case a=>k_is);(case l=>k_is);(case c=>k_is);(case k=>k_is)
  case F38=>refine' bz KX G RO.xA ?a ?l ?c ?k;(case a=>k_is);(case l=>k_is);(case c=>k_is);(case k=>k_is)
  case F39=>refine' bz KX G RO.wx ?a ?l ?c ?k;(case a=>k_is);(case l=>k_is);(case c=>k_is);(case k=>k_is)
  case F40=>refine' bz KX G RO.pf ?a ?l ?c ?k;(case a=>k_is);(case l=>k_is);(case c=>k_is);(case k=>k_is)
  case F41=>refine' bz KX G RO.rA ?a ?l ?c ?k;(case a=>k_is);(case l=>k_is);(case c=>k_is);(case k=>k_is)
  case F42=>refine' bz KX G RO.t9 ?a ?l ?c ?k;(case a=>k_is);(case l=>k_is);(case c=>k_is);(case k=>k_is)
  case F43=>refine' bz KX G RO.mR ?a ?l ?c ?k;(case a=>k_is);(case l=>k_is);(case c=>k_is);(case k=>k_is)
  case a44=>k_is
  case l44=>k_is
  case c44=>k_is
  case k44=>k_is
  case zB=>kernel_rfl
  case yMOST_THINGS=>k_is
end
