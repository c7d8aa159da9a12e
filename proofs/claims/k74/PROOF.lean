import PyProof.Rows.All
import Wide.All
import OpenK.AllK
import Wide.FinOn
import Lean
import PyProof.EqAt
import PyProof.EqKinds
import PyProof.TupleCall
import PySem.SetOps
import PyProof.SetKind
import PyProof.TupleKey
import PyProof.DictKinds
import PyProof.Rows.SetFrom
import PyProof.WalksMore
import KE.KSortTup
import PyProof.CollectWalk
import PyProof.ExcArgsOwn
import PyProof.Rows.CountFlat
import PyProof.Rows.SeqMore2
import PyProof.Rows.FStr
import PyProof.Rows.StrWeight2
import PyProof.Rows.StrNews
import PyProof.StrLawsTight
import PyProof.ExcBaseAll.ValueError
import PyProof.ZipIter
import PyProof.CallFns
import PyProof.Draws
import PyProof.EnumMake
import PyProof.SetRoads
import PyProof.Rows.SortWalk
import PyProof.SeqI3
import PyProof.Rows.SortShell
import PyProof.Rows.Range3
import KE.KStateDown
import PyProof.Rows.SumAny
import PyProof.ListRange
import PyProof.MaxThree
import PyProof.IsiH_list
import PyProof.RaisesAny
import KE.KDictOf
import PyProof.Rows.BitMore
import PySem.Challenge.RW_rowsorder_k74_first_lists
set_option Elab.async false
set_option linter.all false
set_option maxRecDepth 100000
set_option maxHeartbeats 1000000
def OI:=@List.mem_filter
def OJ:=@List.getElem?_eq_getElem
def OK:=@List.length_map
def OL:=@PySem.Heap.get?_push_of_some
def ON:=@Nat.le_refl
def OO:=@if_pos
def OP:=@decide_eq_true
def OQ:=@List.getElem?_eq_some_iff
def OR:=@List.mem_cons
def OS:=@List.mem_cons_of_mem
def OT:=@PySem.wpAny_bind
def OU:=@List.mem_cons_self
def OV:=@if_neg
def OW:=@List.getElem?_map
def OX:=@List.length_append
def OY:=@decide_eq_false
def OZ:=@PySem.Heap.lt_size
def O0:=@PySem.Heap.get?_push_size
def O1:=@List.size_toArray
def O2:=@Bool.and_eq_true
def O3:=@List.mem_singleton
def O4:=@List.mem_append
def O5:=@decide_eq_true_eq
def O6:=@List.getElem?_set_ne
def O7:=@List.getElem?_set_self
def O8:=@Bool.false_ne_true
def O9:=@List.all_eq_true
def Pa:=@List.getD_eq_getElem?_getD
def Pb:=@List.mem_of_getElem?
def Pe:=@List.length_singleton
def Pf:=@List.length_cons
def Pg:=@List.getElem?_append_left
def Pj:=@List.getElem?_append_right
def Pk:=@Nat.lt_of_lt_of_le
def Pl:=@PySem.wpAny_pure
def Pn:=@List.mem_append_right
def Po:=@of_decide_eq_true
def Pp:=@List.mem_map
def Pq:=@List.map_append
def Pu:=@Int.toNat_natCast
def Pw:=@Nat.lt_irrefl
def Px:=@Bool.eq_iff_iff
def Py:=@List.replicate_succ
def Pz:=@Nat.le_trans
def PB:=@List.not_mem_nil
def PD:=@List.append_assoc
def PF:=@List.length_filter_le
def PH:=@List.map_cons
def PJ:=@PySem.sizeLine_eq
def PL:=@List.mem_range
def PM:=@PySem.boot_len
def PN:=@Nat.ne_of_lt
def PQ:=@PySem.W.kia_one
def PR:=@List.nodup_cons
def PU:=@List.length_replicate
def PV:=@List.mem_iff_getElem?
def PX:=@Nat.zero_le
def PY:=@PySem.mem_of_lookup
def PZ:=@List.length_take
def P0:=@Nat.zero_add
def P1:=@PySem.Heap.get?_update_other
def P2:=@List.append_nil
def P4:=@decide_eq_decide
def P5:=@List.map_congr_left
def P6:=@List.getElem?_replicate
def P7:=@decide_eq_false_iff_not
def P8:=@List.length_set
def P9:=@PySem.wpAny_mono
def Qa:=@PySem.wpAny_truthy_bool
def Qb:=@List.length_range
def Qc:=@List.idxOf_lt_length_iff
def Qd:=@Bool.or_eq_true
def Qe:=@Int.zero_add
def Qf:=@Nat.mul_le_mul
def Qg:=@PySem.F.plain_min_loop
def Qh:=@List.flatten_cons
def Qi:=@Bool.not_eq_true'
def Qj:=@List.getElem?_range
def Qk:=@List.findSome?_cons
def Ql:=@List.getElem?_eq_none
def Qm:=@List.eq_of_mem_replicate
def Qn:=@List.mem_append_left
def Qo:=@PySem.Heap.size_push
def Qp:=@Nat.eq_of_testBit_eq
def Qq:=@List.idxOf_append
def Qr:=@PyProof.Rows.callWith_type1
def Qs:=@if_true
def Qt:=@PySem.SeqAt.canLay_of_shaped
def Qu:=@List.any_cons
def Qv:=@or_false
def Qw:=@Bool.false_eq_true
def Qx:=@List.drop_eq_getElem_cons
def Qy:=@List.set_eq_of_length_le
def Qz:=@List.filter_congr
def QB:=@PySem.W.mg_of
def QC:=@Array.toList_append
def QD:=@List.ext_getElem
def QE:=@Nat.le_of_lt
def QF:=@List.mem_filterMap
def QG:=@PySem.wpAny_passesOwn
def QH:=@Array.getElem?_eq_some_iff
def QI:=@List.nodup_iff_pairwise_ne
def QJ:=@PySem.wpAny_pyIter_list
def QL:=@PySem.F.called_set
def QM:=@List.filter_sublist
def QN:=@PySem.F.plainAttrs_list
def QO:=@List.length_eq_zero_iff
def QP:=@PySem.wpAny_holding
def QQ:=@Bool.and_self
def QR:=@PySem.wpAny_pyIter_tuple
def QS:=@Int.emod_nonneg
def QT:=@Int.emod_lt_of_pos
def QU:=@List.take_of_length_le
def QV:=@List.reverse_cons
def QW:=@PySem.wpAny_pyIter_enum
def QX:=@List.nodup_append
def QY:=@PySem.Heap.get?_update_self
def QZ:=@List.all_map
def Q0:=@List.map_map
def Q2:=@PySem.wpAny_tryCatch
def Q3:=@List.nodup_nil
def Q4:=@if_false
def Q5:=@PySem.Around.under_plainId
def Q6:=@List.getElem?_mapIdx
def Q7:=@PySem.wpAny_field
def Q8:=@List.nil_append
def Q9:=@PySem.codeAny_builtin
def Ra:=@List.getLast?_eq_getElem?
def Rb:=@PySem.codeAny_mono
def Rf:=@PySem.wpAny_Call_Name_kw
def Rg:=@PySem.F.args_tuple_add_2
def Rh:=@List.length_erase_of_mem
def Ri:=@Nat.lt_or_ge
def Rj:=@Nat.lt_trans
def Rk:=@PySem.Obj.data_mapFields
def Rl:=@List.getElem_idxOf
def Rm:=@PySem.AutoSeq1.wpAny_loadPart'
def Rn:=@PySem.wpAny_setField
open List (length_drop foldl_cons lookup_cons all_cons drop_length set_set)
open PySem.W (Frag)
open PySem.PyData (int)
section
set_option Elab.async false
namespace L2
open PySem PySem.Spec PyProof.Rows
abbrev Key:=Sum Int Str
def HF:Key->Value->Bool
 | .inl k,v=>Value.isInt k v
 | .inr x,v=>Value.isStrOf x v
def Nh (w:World):Key->Int
 | .inl k=>hashInt k
 | .inr x=>hashStr w x
theorem cI:∀{k:Key} {v:Value},HF k v=true->(∃i t,k=Sum.inl i/\v=Value.int i t)\/(∃x t,k=Sum.inr x/\v=Value.str x t)
 | .inl i,v,h=>by
  obtain⟨t,e⟩:=Value.isInt_shape (k:=i) (v:=v) h
  exact .inl ⟨i,t,rfl,e⟩
 | .inr x,v,h=>by
  obtain⟨t,e⟩:=Value.isStrOf_shape (x:=x) (v:=v) h
  exact .inr ⟨x,t,rfl,e⟩
def Ke (a b:Int):decide ((Sum.inl a:Key)=Sum.inl b)=(a == b):=by
 by_cases e:a=b
 ·subst e;simp
 ·have h:¬(Sum.inl a:Key)=Sum.inl b:=λq=>e (Sum.inl.inj q)
  rw[OY h]
  exact (beq_eq_false_iff_ne.mpr e).symm
def Iy (a b:Str):decide ((Sum.inr a:Key)=Sum.inr b)=decide (a=b):=by
 by_cases e:a=b
 ·subst e;simp
 ·have h:¬(Sum.inr a:Key)=Sum.inr b:=λq=>e (Sum.inr.inj q)
  rw[OY h,OY e]
def Kf (a:Int)(b:Str):decide ((Sum.inl a:Key)=Sum.inr b)=false:=OY (λq=>nomatch q)
def IC (a:Str)(b:Int):decide ((Sum.inr a:Key)=Sum.inl b)=false:=OY (λq=>nomatch q)
def vf (prog:Program)(w:World):PySem.KeyKind prog w Key where
 is:=HF
 hash:=Nh w
 inj:=λv a b ha hb=>by
  rcases cI ha with⟨i,t,rfl,rfl⟩ | ⟨x,t,rfl,rfl⟩
  ·rcases cI hb with⟨j,u,rfl,e⟩ | ⟨y,u,rfl,e⟩
   ·injection e with e1 _;rw[e1]
   ·exact nomatch e
  ·rcases cI hb with⟨j,u,rfl,e⟩ | ⟨y,u,rfl,e⟩
   ·exact nomatch e
   ·injection e with e1 _;rw[e1]
 byValue:=λk v h=>by
  rcases cI h with⟨i,t,rfl,rfl⟩ | ⟨x,t,rfl,rfl⟩ <;> rfl
 pyHash:=λhv h=>by
  rcases cI hv with⟨i,t,rfl,rfl⟩ | ⟨x,t,rfl,rfl⟩
  ·exact wpAny_pyHash_int h
  ·exact wpAny_pyHash_str h
 eqBool:=λhu hv h=>by
  rcases cI hu with⟨i,t,rfl,rfl⟩ | ⟨x,t,rfl,rfl⟩
  ·rcases cI hv with⟨j,u,rfl,rfl⟩ | ⟨y,u,rfl,rfl⟩
   ·rw[Ke] at h;exact wpAny_eqBool_int h
   ·rw[Kf] at h;exact SeqAt.EqAt.int_str i t y u _ _ _ _ h
  ·rcases cI hv with⟨j,u,rfl,rfl⟩ | ⟨y,u,rfl,rfl⟩
   ·rw[IC] at h;exact SeqAt.EqAt.str_int x t j u _ _ _ _ h
   ·rw[Iy] at h;exact wpAny_eqBool_str h
 «strs»:=λk x t v h=>by
  rcases cI h with⟨i,u,rfl,e⟩ | ⟨y,u,rfl,e⟩
  ·exact nomatch e
  ·injection e with e1 _
   subst e1
   cases v <;> rfl
inductive V where
 |non |bl (b:Bool) |int (i:Int) |str (x:Str) |byt (b:Array UInt8) |flt (b:UInt64) |ref (a:Addr) |ty (n:String)
 deriving DecidableEq
def RelV:V->Value->Prop
 | .non,u=>u=Value.none
 | .bl b,u=>u=Value.bool b
 | .int i,u=>∃t,u=Value.int i t
 | .str x,u=>∃t,u=Value.str x t
 | .byt b,u=>∃t,u=Value.bytes b t
 | .flt b,u=>∃t,u=Value.float b t
 | .ref a,u=>u=Value.ref a
 | .ty n,u=>u=Value.type n
abbrev Vals:List V->List Value->Prop:=Paired RelV
def Vals.length {xs:List V}{us:List Value}(r:Vals xs us):xs.length=us.length:=Paired.length r
theorem Vals.get:∀{xs:List V} {us:List Value} {i:Nat} {x:V},Vals xs us->xs[i]? =some x->∃u,us[i]? =some u/\RelV x u
 |_,_,_,_,.nil,e=>by simp at e
 |_,_,0,_,.cons r _,e=>by simp at e;subst e;exact⟨_,rfl,r⟩
 |_,_,i + 1,x,.cons _ t,e=>by
  obtain⟨u,h1,h2⟩:=Vals.get (i:=i) (x:=x) t (by simpa using e)
  exact⟨u,by simpa using h1,h2⟩
theorem Vals.set {x:V}{u:Value}(r:RelV x u):∀{xs:List V} {us:List Value} (i:Nat),Vals xs us->Vals (xs.set i x) (us.set i u)
 |_,_,_,.nil=>.nil
 |_,_,0,.cons _ t=>.cons r t
 |_,_,i + 1,.cons q t=>.cons q (Vals.set r i t)
theorem Vals.append:∀{xs ys:List V} {us ws:List Value},Vals xs us->Vals ys ws->Vals (xs ++ ys) (us ++ ws)
 |_,_,_,_,.nil,s=>s
 |_,_,_,_,.cons r t,s=>.cons r (Vals.append t s)
theorem Vals.take:∀{xs:List V} {us:List Value} (n:Nat),Vals xs us->Vals (xs.take n) (us.take n)
 |_,_,0,_=>.nil
 |_,_,_ + 1,.nil=>.nil
 |_,_,n + 1,.cons r t=>.cons r (Vals.take n t)
theorem Vals.drop:∀{xs:List V} {us:List Value} (n:Nat),Vals xs us->Vals (xs.drop n) (us.drop n)
 |_,_,0,r=>r
 |_,_,_ + 1,.nil=>.nil
 |_,_,n + 1,.cons _ t=>Vals.drop n t
def Ey:Option V->Option Value->Prop
 |some v,some u=>RelV v u
 |none,none=>True
 |_,_=>False
def KV {κ:Type}:List (κ×V)->List (κ×Value)->Prop:=Paired λ(p:κ×V) (q:κ×Value)=>p.1=q.1/\RelV p.2 q.2
def kV:Key->V
 | .inl i=>.int i
 | .inr x=>.str x
inductive HO where
 |lst (xs:List V)
 |tup (xs:List V)
 |dK (kvs:List (Key×V)) |dT (kvs:List (List Key×V))
 |set (S:Int->Bool) (n:Nat)
 |ins (C dx:Addr) (fs:List (Str×V))
 |own (x:Addr)
 |xd (fs:List (Str×V))
 |met (f x:Addr)
 |dN (lo hi:Int)
 |a9 (o:Obj) (u:HO)
 |tbl (ps:Array Value)
 |ext (φ:Heap->Prop)
abbrev Hp:=Addr->Option HO
def upd (H:Hp)(a:Addr)(o:HO):Hp:=λb=>if b=a then some o else H b
def aE {H:Hp}{a:Addr}{o:HO}:upd H a o a=some o:=by unfold upd;rw[OO rfl]
def aA {H:Hp}{a b:Addr}{o:HO}(h:b≠a):upd H a o b=H b:=by unfold upd;rw[OV h]
def Hz {H:Hp}{a b:Addr}{o u:HO}(h:H a=some o)(h':H b=some u)(d:o≠u):a≠b:=by
 intro e;subst e;rw[h] at h';exact d (Option.some.inj h')
def aM {H:Hp}{a b:Addr}{o:HO}(h:H a=some o)(h':H b=none):a≠b:=by
 intro e;subst e;rw[h] at h';cases h'
section
variable (P:Program)(w:World)
def rM (h:Heap)(a:Addr)(items:Array Value):Prop:=∃o,h.get? a=some o/\o.cls=.type "tuple"/\∃n,o.data=.seq items n/\o.dict=none
def rM.isTup {h:Heap}{a:Addr}{items:Array Value}(x:rM h a items):IsTup h a items:=let ⟨o,e,c,n,d,_⟩:=x;⟨o,e,c,n,d⟩
def rM.new (h:Heap)(items:Array Value):rM (h.push {cls:=.type "tuple",data:=.seq items}) h.objs.size items:=⟨_,O0 _ rfl,rfl,_,rfl,rfl⟩
def dB (H:Hp)(h:Heap)(a:Addr):HO->Prop
 | .lst xs=>xs.length<=sizeLine/\∃(its:List Value) (n:Nat),Vals xs its/\h.get? a=some {cls:=.type "list",data:=.seq its.toArray n}
 | .tup xs=>xs.length<=sizeLine/\∃its:List Value,Vals xs its/\rM h a its.toArray
 | .dK kvs=>kvs.length<=sizeLine/\(a == sysModules)=false/\∃vs,KV kvs vs/\h.DictOf (vf P w) a vs
 | .dT kvs=>kvs.length<=sizeLine/\(a == sysModules)=false/\∃xs:List (List Key×Addr×Value),
   Paired (λ(p:List Key×V) (q:List Key×Addr×Value)=>p.1=q.1/\(H q.2.1=some (.tup (p.1.map kV))\/∃o,H q.2.1=some (.a9 o (.tup (p.1.map kV))))/\RelV p.2 q.2.2) kvs xs/\
   ∃o es ep,h.get? a=some o/\o.ExactDict/\o.data=.dict es ep/\es.toList=xs.map (entryOfKey (tupleKind (vf P w)))/\(xs.map (·.1)).Nodup
 | .set S n=>h.SetOf (intKind P w) a S n
 | .ins C dx fs=>H dx=some (.own a)/\fs.length<=1000/\dx≠a/\h.get? a=some (PySem.W.instObj C dx)/\
   ∃mA,h.Ns1 dx mA/\(∀f,Ey (fs.lookup f) (mA f))/\PySem.Within mA (fs.map (·.1))
 | .own _=>∃o,h.get? a=some o
 | .xd fs=>∃mA,h.Ns1 a mA/\∀f,Ey (fs.lookup f) (mA f)
 | .dN lo hi=>∃t u v,h.get? a=some {cls:=.type "range",data:=.fields #[.int lo t,.int hi u,.int 1 v]}
 | .a9 o u=>h.get? a=some o/\dB H h a u
 | .tbl ps=>h.get? a=some {cls:=.none,data:=.fields ps}
 | .met f x=>h.get? a=some (PySem.W.methodObj (.ref f) (.ref x))
 | .ext φ=>φ h/\(∃o,h.get? a=some o)/\∀h1 h2:Heap,φ h1->(∀o,h1.get? a=some o->h2.get? a=some o)->φ h2
def nI (H:Hp)(h:Heap):Prop:=∀a o,H a=some o->dB P w H h a o
end
section
variable {P:Program}{w:World}{H H':Hp}{h h':Heap}{a:Addr}{o:HO}
theorem dB.lt (x:dB P w H h a o):a < h.objs.size:=by
 cases o with
 |lst xs=>obtain⟨_,_,_,_,e⟩:=x;exact OZ e
 |tup xs=>obtain⟨_,_,_,p⟩:=x;exact p.isTup.lt
 |dK kvs=>obtain⟨_,_,_,_,o,_,_,e,_⟩:=x;exact OZ e
 |dT kvs=>obtain⟨_,_,_,_,o,_,_,e,_⟩:=x;exact OZ e
 |set S n=>obtain⟨o,_,_,_,e,_⟩:=x;exact OZ e
 |ins C dx fs=>obtain⟨_,_,_,e,_⟩:=x;exact OZ e
 |own y=>obtain⟨_,e⟩:=x;exact OZ e
 |xd fs=>obtain⟨_,⟨_,_,_,e,_⟩,_⟩:=x;exact OZ e
 |dN lo hi=>obtain⟨_,_,_,e⟩:=x;exact OZ e
 |a9 ob u=>obtain⟨e,_⟩:=x;exact OZ e
 |tbl ps=>exact OZ (show h.get? a=some _ from x)
 |met f y=>exact OZ (show h.get? a=some _ from x)
 |ext φ=>obtain⟨_,⟨_,e⟩,_⟩:=x;exact OZ e
theorem Paired.mapP {α β:Type}{F G:α->β->Prop}:∀{l₁:List α} {l₂:List β},Paired F l₁ l₂->(∀a b,F a b->G a b)->Paired G l₁ l₂
 |_,_,.nil,_=>.nil
 |_,_,.cons r t,f=>.cons (f _ _ r) (Paired.mapP t f)
theorem dB.stay (x:dB P w H h a o)(k:∀b u,(b=a\/H b=some (.own a))->h.get? b=some u->h'.get? b=some u)
  (ho:∀b,H b=some (.own a)->H' b=some (.own a)) (ht:∀b xs,(H b=some (.tup xs)\/∃o,H b=some (.a9 o (.tup xs)))->(H' b=some (.tup xs)\/∃o,H' b=some (.a9 o (.tup xs)))):dB P w H' h' a o:=by
 induction o with
 |lst xs=>obtain⟨z,its,n,r,e⟩:=x;exact⟨z,its,n,r,k _ _ (.inl rfl) e⟩
 |tup xs=>obtain⟨z,its,r,ob,e,c⟩:=x;exact⟨z,its,r,ob,k _ _ (.inl rfl) e,c⟩
 |dK kvs=>obtain⟨z,y,vs,r,ob,es,ep,e,c⟩:=x;exact⟨z,y,vs,r,ob,es,ep,k _ _ (.inl rfl) e,c⟩
 |dT kvs=>
  obtain⟨z,y,xs,r,ob,es,ep,e,c⟩:=x
  exact⟨z,y,xs,Paired.mapP r λp q z=>⟨z.1,ht _ _ z.2.1,z.2.2⟩,ob,es,ep,k _ _ (.inl rfl) e,c⟩
 |set S n=>obtain⟨ob,es,ep,t,e,c⟩:=x;exact⟨ob,es,ep,t,k _ _ (.inl rfl) e,c⟩
 |ins C dx fs=>
  obtain⟨d,z,ne,e,mA,⟨od,es,ep,e2,c⟩,r⟩:=x
  exact⟨ho _ d,z,ne,k _ _ (.inl rfl) e,mA,⟨od,es,ep,k _ _ (.inr d) e2,c⟩,r⟩
 |own y=>obtain⟨ob,e⟩:=x;exact⟨ob,k _ _ (.inl rfl) e⟩
 |xd fs=>obtain⟨mA,⟨od,es,ep,e,c⟩,r⟩:=x;exact⟨mA,⟨od,es,ep,k _ _ (.inl rfl) e,c⟩,r⟩
 |dN lo hi=>obtain⟨t,u,v,e⟩:=x;exact⟨t,u,v,k _ _ (.inl rfl) e⟩
 |a9 ob u ih=>obtain⟨e,q⟩:=x;exact⟨k _ _ (.inl rfl) e,ih q⟩
 |tbl ps=>
  have e:h.get? a=some {cls:=.none,data:=.fields ps}:=x
  show h'.get? a=some {cls:=.none,data:=.fields ps}
  exact k a _ (.inl rfl) e
 |met f y=>
  have e:h.get? a=some (PySem.W.methodObj (.ref f) (.ref y)):=x
  show h'.get? a=some (PySem.W.methodObj (.ref f) (.ref y))
  exact k a _ (.inl rfl) e
 |ext φ=>obtain⟨p,⟨o,e⟩,st⟩:=x;exact⟨st _ _ p λo q=>k _ _ (.inl rfl) q,⟨o,k _ _ (.inl rfl) e⟩,st⟩
def nI.lt (x:nI P w H h)(e:H a=some o):a < h.objs.size:=(x a o e).lt
theorem nI.fresh (x:nI P w H h)(e:h.objs.size<=a):H a=none:=by
 cases q:H a with
 |none=>rfl
 |some u=>exact absurd (Pk (x.lt q) e) (Pw _)
def nI.kept (x:nI P w H h)(k:∀b u,h.get? b=some u->h'.get? b=some u):nI P w H h':=λa o e=>
 (x a o e).stay (λb u _ q=>k b u q) (λ_ q=>q) λ_ _ q=>q
def nI.laid (x:nI P w H h)(k:∀b u,h.get? b=some u->h'.get? b=some u)(hp:h.objs.size<=a)(new:dB P w (upd H a o) h' a o):nI P w (upd H a o) h':=λb u e=>by
 have hn:=x.fresh hp
 by_cases hb:b=a
 ·subst hb;rw[aE] at e;cases e;exact new
 ·rw[aA hb] at e
  exact (x b u e).stay (λc v _ q=>k c v q) (λc q=>by rw[aA (aM q hn)];exact q) λc xs q=>q.imp (λq=>by rw[aA (aM q hn)];exact q) λ⟨o,q⟩=>⟨o,by rw[aA (aM q hn)];exact q⟩
end
def Rd (H:Hp)(a:Addr)(u:HO):Prop:=H a=some u\/∃o,H a=some (.a9 o u)
def Rd.ok {P:Program}{w:World}{H:Hp}{h:Heap}{a:Addr}{u:HO}(r:Rd H a u)(x:nI P w H h):dB P w H h a u:=by
 rcases r with r | ⟨o,r⟩
 ·exact x a u r
 ·obtain⟨_,q⟩:=x a _ r
  exact q
def ME:Option HO->Prop
 |some (.lst _)=>True
 |some (.dK _)=>True
 |some (.dT _)=>True
 |some (.set _ _)=>True
 |some (.ins _ _ _)=>True
 |some (.ext _)=>True
 |_=>False
section
variable {P:Program}{w:World}{H:Hp}{h h':Heap}{x e:Addr}{o':HO}
def nI.write (ok:nI P w H h)(mu:ME (H x))(he:e=x\/H e=some (.own x))(k:∀b u,b≠e->h.get? b=some u->h'.get? b=some u)(heo:∃u,h'.get? e=some u)
  (new:dB P w (upd H x o') h' x o'):nI P w (upd H x o') h':=λb u q=>by
 have nown:∀c y,H c=some (.own y)->c≠x:=λc y r z=>by subst z;rw[r] at mu;exact mu
 have ntup:∀c xs,H c=some (.tup xs)->c≠x:=λc xs r z=>by subst z;rw[r] at mu;exact mu
 by_cases hb:b=x
 ·subst hb;rw[aE] at q;cases q;exact new
 ·rw[aA hb] at q
  by_cases hbe:b=e
  ·have q':H b=some (.own x):=by
    rcases he with z |z
    ·exact absurd (hbe.trans z) hb
    ·rw[hbe];exact z
   rw[q] at q';cases q'
   obtain⟨v,hv⟩:=heo
   exact⟨v,by rw[hbe];exact hv⟩
  ·refine (ok b u q).stay (λc v hc r=>k c v ?_ r) (λc r=>by rw[aA (nown c b r)];exact r) λc xs r=>r.imp (λr=>by rw[aA (ntup c xs r)];exact r) λ⟨o,r⟩=>⟨o,by rw[aA (λz=>by subst z;rw[r] at mu;exact mu)];exact r⟩
   rcases hc with rfl |hc
   ·exact hbe
   ·rintro rfl
    rcases he with z |z
    ·exact nown c b hc z
    ·rw[hc] at z;cases z;exact hb rfl
end
structure Un (fs ex:List Addr)(H H':Hp)(h h':Heap):Prop where
 keep:∀b o,h.get? b=some o->H b=none->b∉fs->b∉ex->h'.get? b=some o
 slot:∀b o,h.get? b=some o->H b=none->b∈fs->b∉ex->∃sl,h'.get? b=some {o with slots:=sl}
 free:∀b o,h.get? b=some o->H b=none->b∉ex->H' b=none
 there:∀b o,h.get? b=some o->b∉ex->∃o',h'.get? b=some o'
 tups:∀b xs,H b=some (.tup xs)->H' b=some (.tup xs)
 frzs:∀b o u,H b=some (.a9 o u)->H' b=some (.a9 o u)
 tbls:∀b ps,H b=some (.tbl ps)->∃more,H' b=some (.tbl (ps ++ more))
section
variable {fs fs' ex ex':List Addr}{H H1 H2:Hp}{h h1 h2 h':Heap}{a x e:Addr}{o:HO}
def Un.any (u:Un fs ex H H1 h h1){b:Addr}{ob:Obj}(q:h.get? b=some ob)(n:H b=none)(hx:b∉ex):∃sl,h1.get? b=some {ob with slots:=sl}:=by
 by_cases hb:b∈fs
 ·exact u.slot b ob q n hb hx
 ·exact⟨ob.slots,u.keep b ob q n hb hx⟩
def Un.kept (k:∀b u,h.get? b=some u->h'.get? b=some u):Un fs ex H H h h':=
 ⟨λb ob q _ _ _=>k b ob q,λb ob q _ _ _=>⟨ob.slots,k b ob q⟩,λ_ _ _ n _=>n,λb ob q _=>⟨ob,k b ob q⟩,λ_ _ q=>q,λ_ _ _ q=>q,λ_ ps q=>⟨#[],by rw[q];simp⟩⟩
def Un.refl:Un fs ex H H h h:=Un.kept λ_ _ q=>q
def Un.laid (k:∀b u,h.get? b=some u->h'.get? b=some u)(hp:h.objs.size<=a)(hn:H a=none):Un fs ex H (upd H a o) h h' where
 keep:=λb u q _ _ _=>k b u q
 slot:=λb u q _ _ _=>⟨u.slots,k b u q⟩
 free:=λb u q n _=>by rw[aA (PN (Pk (OZ q) hp))];exact n
 there:=λb u q _=>⟨u,k b u q⟩
 tups:=λb xs q=>by rw[aA (aM q hn)];exact q
 frzs:=λb u xs q=>by rw[aA (aM q hn)];exact q
 tbls:=λb ps q=>⟨#[],by rw[aA (aM q hn),q];simp⟩
def Un.write (mu:ME (H x))(he:e=x\/H e=some (.own x))(k:∀b u,b≠e->h.get? b=some u->h'.get? b=some u)(heo:∃u,h'.get? e=some u):Un fs ex H (upd H x o) h h':=by
 have hx:∀b,H b=none->b≠x:=λb n z=>by subst z;rw[n] at mu;exact mu
 have hb:∀b,H b=none->b≠e:=λb n z=>by
  subst z
  rcases he with r |r
  ·exact hx b n r
  ·rw[n] at r;cases r
 have hm:∀b u,H b=some u->¬ME (some u)->b≠x:=λb u q nm z=>by subst z;rw[q] at mu;exact nm mu
 refine⟨λb u q n _ _=>k b u (hb b n) q,λb u q n _ _=>⟨u.slots,k b u (hb b n) q⟩,λb u q n _=>by rw[aA (hx b n)];exact n,λb u q _=>?_,
  λb xs q=>by rw[aA (hm b _ q λz=>z)];exact q,λb u xs q=>by rw[aA (hm b _ q λz=>z)];exact q,λb ps q=>⟨#[],by rw[aA (hm b _ q λz=>z),q];simp⟩⟩
 by_cases hbe:b=e
 ·subst hbe;exact heo
 ·exact⟨u,k b u hbe q⟩
end
def MA (h:Heap)(H:Hp):List Addr:=(List.range h.objs.size).filter λa=>(H a).isSome
def sy (h:Heap)(H:Hp):Heap:=PySem.W.hideAll h (MA h H)
def Bi (h:Heap)(H:Hp):(sy h H).objs.size=h.objs.size:=PySem.W.hideAll_size _ _
def Cn {h:Heap}{H:Hp}{b:Addr}{o:Obj}(e:h.get? b=some o)(n:H b=none):(sy h H).get? b=some o:=
 PySem.W.hideAll_get _ e λhm=>by
  have q:(H b).isSome=true:=(OI.mp hm).2
  rw[n] at q;simp at q
theorem Fp {h:Heap}{H:Hp}{b:Addr}{o:Obj}(e:(sy h H).get? b=some o):h.get? b=some o/\H b=none:=by
 have e':h.get? b=some o:=PySem.W.of_hideAll (MA h H) e
 refine⟨e',?_⟩
 cases q:H b with
 |none=>rfl
 |some x=>
  have hm:b∈MA h H:=OI.mpr ⟨PL.mpr (OZ e'),by simp[q]⟩
  have z:(sy h H).get? b=none:=PySem.W.hideAll_none (MA h H) hm
  rw[z] at e;cases e
def Gd (g h:Heap)(L:Addr):List (Addr×Obj):=(List.range h.objs.size).filterMap λa=>if a=L\/(g.get? a).isSome=true then none else (h.get? a).map λo=>(a,o)
def rest (g h:Heap)(L d:Addr):List (Addr×Obj):=(Gd g h L).filter λp=>decide (p.1≠d)
structure Mod (K:Frag)(mg:Str->Option Value)(base:Heap):Prop where
 kin:K.In base
 glob:base.Ns mainGlobals mg
 blt:∃mb,base.Ns builtinsNs mb/\∀x:Str,x≠"__name__"->mb x=bootBuiltins x
 nolimit:base.NoLimit
 sys:∃mm,base.Ns sysModules mm
structure Cx where
 prog:Program
 w:World
 K:Frag
 mg:Str->Option Value
 base:Heap
 A:Around
 N:List Str
 s₀:Shared
 H₀:Hp
 env:Env
 outer:List Env
 stack:List Env
 ex:List Addr
 fn:Str->Bool
 calm:Bool
 pn:List (Addr×Obj)
 xe:Value->Shared->Prop
def j8 (l:List Env):List Addr:=l.filterMap (·.frame)
abbrev Cx.fs (X:Cx):List Addr:=j8 X.outer
def zJ (sc:Scope)(x:Str):Prop:=sc.names.lookup x=some .local\/sc.names.lookup x=some .cell\/sc.names.lookup x=some .free
def Loc (sc:Scope)(x:Str):Prop:=sc.names.lookup x=some .local\/sc.names.lookup x=some .cell
def Look (env:Env)(h:Heap)(m:Str->Option Value)(x:Str)(u:Value):Prop:=
 (env.kindOf x=some .local/\m x=some u)\/((env.kindOf x=some .cell\/env.kindOf x=some .free)/\∃c,env.cells.lookup x=some c/\h.IsCell c (some u))
structure Cx.Ok (X:Cx):Prop where
 mod:Mod X.K X.mg X.base
 kind:X.env.scope.kind=.function
 glob:X.env.globals=mainGlobals
 blt:X.env.builtins=builtinsNs
 above:X.s₀.heap.objs.size<=X.env.locals
 inj:∀x y c,X.env.cells.lookup x=some c->X.env.cells.lookup y=some c->x=y
 has:∀x,(X.env.kindOf x=some .cell\/X.env.kindOf x=some .free)->∃c,X.env.cells.lookup x=some c
 cab:∀x c,X.fn x=true->X.env.cells.lookup x=some c->X.s₀.heap.objs.size<=c
 hd:X.calm=true->X.A.handled=none
 frames:X.A.frames=some X.stack
 stk:X.stack=X.outer\/(X.stack=X.env :: X.outer/\X.env.frame=some X.env.locals)
 exf:∀b∈X.ex,b≠X.env.locals/\∀x c,X.env.cells.lookup x=some c->c≠b
 bs:∀b o,X.base.get? b=some o->X.s₀.heap.get? b=some o/\X.H₀ b=none
 bsz:X.base.objs.size<=X.s₀.heap.objs.size
 noex:∀b o,X.base.get? b=some o->b∉X.ex
 exfs:∀b∈X.ex,b∉X.fs
 funs:X.s₀.heap.FunFrames X.base X.outer
 frf:∀b∈X.fs,X.H₀ b=none
structure Inv (X:Cx)(pins:List (Addr×Obj))(σ:List (Option V))(H:Hp)(s:Shared):Prop where
 ok:X.Ok
 os:s.os=X.s₀.os
 bare:AllBare s.gens
 base:Un X.fs X.ex X.H₀ H X.s₀.heap s.heap
 loc:∃m,s.heap.Ns X.env.locals m/\∀(i:Nat) (x:Str) (v:V),X.N[i]? =some x->σ[i]? =some (some v)->zJ X.env.scope x->∃u,RelV v u/\Look X.env s.heap m x u
 cell:∀x c,X.env.cells.lookup x=some c->∃v,s.heap.IsCell c v
 free:H X.env.locals=none
 freeC:∀x c,X.env.cells.lookup x=some c->H c=none
 pin:∀p∈X.pn ++ pins,s.heap.get? p.1=some p.2/\H p.1=none/\p.1≠X.env.locals/\p.1∉X.fs/\∀v,p.2.data≠.cell v
 hok:nI X.prog X.w H s.heap
 len:σ.length=X.N.length
section
variable {X:Cx}{pins:List (Addr×Obj)}{σ:List (Option V)}{H H':Hp}{s:Shared}{h':Heap}
def Cx.Ok.nofr (ok:X.Ok){b:Addr}{o:Obj}(e:X.base.get? b=some o):b∉X.fs:=λhb=>by
 have:=(ok.funs.mem hb).1
 rw[e] at this;cases this
def Inv.bs (I:Inv X pins σ H s):∀b o,X.base.get? b=some o->s.heap.get? b=some o/\H b=none:=λb o e=>
 ⟨I.base.keep b o (I.ok.bs b o e).1 (I.ok.bs b o e).2 (I.ok.nofr e) (I.ok.noex b o e),I.base.free b o (I.ok.bs b o e).1 (I.ok.bs b o e).2 (I.ok.noex b o e)⟩
def Inv.bk (I:Inv X pins σ H s):∀b o,X.base.get? b=some o->s.heap.get? b=some o:=λb o e=>(I.bs b o e).1
def Inv.mod (I:Inv X pins σ H s):Mod X.K X.mg X.base:=I.ok.mod
def Inv.kIn (I:Inv X pins σ H s):X.K.In s.heap:=I.ok.mod.kin.keeps I.bk
def Inv.lt (I:Inv X pins σ H s):X.env.locals < s.heap.objs.size:=let ⟨_,hn,_⟩:=I.loc;hn.lt
def Inv.sz (I:Inv X pins σ H s):X.s₀.heap.objs.size<=s.heap.objs.size:=Pz I.ok.above (QE I.lt)
def Inv.nofs (I:Inv X pins σ H s){a:Addr}(h:s.heap.objs.size<=a):a∉X.fs:=λhb=>by
 obtain⟨_,o,ho,_⟩:=I.ok.funs.mem hb
 exact absurd (Pk (OZ ho) (Pz I.sz h)) (Pw _)
def Inv.cne (I:Inv X pins σ H s):∀x c,X.env.cells.lookup x=some c->c≠X.env.locals:=λx c e z=>by
 obtain⟨v,o,ho,hd⟩:=I.cell x c e
 obtain⟨m,⟨o',es,ep,ho',hd',_⟩,_⟩:=I.loc
 rw[z,ho'] at ho;cases ho;rw[hd'] at hd;cases hd
def Inv.funs (I:Inv X pins σ H s):s.heap.FunFrames X.base X.outer:=by
 have all:∀(l:List Env),(∀b∈j8 l,b∈X.fs)->X.s₀.heap.FunFrames X.base l->s.heap.FunFrames X.base l:=by
  intro l
  induction l with
  |nil=>intro _ _;trivial
  |cons env r ih=>
   intro hs hl
   obtain⟨hk,⟨L,o,hf,hn,ho,hd⟩,hr⟩:=hl
   have hL:L∈X.fs:=hs L (by unfold j8;rw[List.filterMap_cons,hf];exact OU)
   obtain⟨sl,e⟩:=I.base.slot L o ho (I.ok.frf L hL) hL λz=>I.ok.exfs L z hL
   exact⟨hk,⟨L,_,hf,hn,e,hd⟩,ih (λb hb=>hs b (by unfold j8;rw[List.filterMap_cons,hf];exact OS _ hb)) hr⟩
 exact all X.outer (λ_ hb=>hb) I.ok.funs
def Inv.stack (I:Inv X pins σ H s):s.heap.FunFrames X.base X.stack:=by
 rcases I.ok.stk with e | ⟨e,hf⟩
 ·rw[e];exact I.funs
 ·rw[e]
  obtain⟨m,hn,_⟩:=I.loc
  refine .cons (by rw[I.ok.kind];decide) hf hn ?_ I.funs
  exact Heap.get?_none_of_le (Pz I.ok.bsz I.ok.above)
def Inv.stkSub (I:Inv X pins σ H s):∀b∈j8 X.stack,b∈X.env.locals :: X.fs:=λb hb=>by
 rcases I.ok.stk with e | ⟨e,hf⟩
 ·rw[e] at hb;exact OS _ hb
 ·rw[e] at hb
  unfold j8 at hb
  rw[List.filterMap_cons,hf] at hb
  exact hb
def Inv.stkFree (I:Inv X pins σ H s):∀b∈j8 X.stack,H b=none:=λb hb=>by
 rcases OR.mp (I.stkSub b hb) with e |hb
 ·rw[e];exact I.free
 ·obtain⟨_,o,ho,_⟩:=I.ok.funs.mem hb
  exact I.base.free b o ho (I.ok.frf b hb) λz=>I.ok.exfs b z hb
def Inv.step {g':Array GenState}{t':Nat}{d':Drawn}{ch:List Addr}(I:Inv X pins σ H s)
  (hch:∀b∈ch,(b∈X.ex\/X.s₀.heap.objs.size<=b)/\b≠X.env.locals/\(∀x c,X.env.cells.lookup x=some c->c≠b)/\∀p∈X.pn ++ pins,p.1≠b)
  (keep:∀b o,b≠X.env.locals->b∉X.fs->b∉ch->s.heap.get? b=some o->H b=none->h'.get? b=some o)
  (slot:∀b o,b≠X.env.locals->b∈X.fs->b∉ch->s.heap.get? b=some o->H b=none->∃sl,h'.get? b=some {o with slots:=sl}) (free:∀b o,b∉ch->s.heap.get? b=some o->H b=none->H' b=none)
  (there:∀b o,b∉ch->s.heap.get? b=some o->∃o',h'.get? b=some o')
  (tups:∀b xs,H b=some (.tup xs)->H' b=some (.tup xs)) (frzs:∀b o u,H b=some (.a9 o u)->H' b=some (.a9 o u)) (tbls:∀b ps,H b=some (.tbl ps)->∃more,H' b=some (.tbl (ps ++ more)))
  (ns:∀m,s.heap.Ns X.env.locals m->h'.Ns X.env.locals m) (hok:nI X.prog X.w H' h') (hg:AllBare g') :
  Inv X pins σ H' {s with heap:=h',gens:=g',drawn:=d',toks:=t'}:=by
 have neL:∀b o,X.s₀.heap.get? b=some o->b≠X.env.locals:=λb o e=>PN (Pk (OZ e) I.ok.above)
 have neC:∀b o,X.s₀.heap.get? b=some o->b∉X.ex->b∉ch:=λb o e hx hb=>by
  rcases (hch b hb).1 with z |z
  ·exact hx z
  ·exact absurd (Pk (OZ e) z) (Pw _)
 have cellK:∀x c,X.env.cells.lookup x=some c->∀v,s.heap.IsCell c v->h'.IsCell c v:=λx c e v ⟨o,ho,hd⟩=>by
  have nch:c∉ch:=λz=>(hch c z).2.2.1 x c e rfl
  by_cases hc:c∈X.fs
  ·obtain⟨sl,q⟩:=slot c o (I.cne x c e) hc nch ho (I.freeC x c e)
   exact⟨_,q,hd⟩
  ·exact⟨o,keep c o (I.cne x c e) hc nch ho (I.freeC x c e),hd⟩
 refine⟨I.ok,I.os,hg,⟨λb o e n hb hx=>?_,λb o e n hb hx=>?_,λb o e n hx=>?_,λb o e hx=>?_,λb xs e=>tups b xs (I.base.tups b xs e),λb o xs e=>frzs b o xs (I.base.frzs b o xs e),λb ps e=>?_⟩,?_,λx c e=>?_,?_,λx c e=>?_,λp hp=>?_,hok,I.len⟩
 ·exact keep b o (neL b o e) hb (neC b o e hx) (I.base.keep b o e n hb hx) (I.base.free b o e n hx)
 ·obtain⟨sl,e1⟩:=I.base.slot b o e n hb hx
  obtain⟨sl',e2⟩:=slot b _ (neL b o e) hb (neC b o e hx) e1 (I.base.free b o e n hx)
  exact⟨sl',e2⟩
 ·obtain⟨o',e1⟩:=I.base.there b o e hx
  exact free b o' (neC b o e hx) e1 (I.base.free b o e n hx)
 ·obtain⟨o',e1⟩:=I.base.there b o e hx
  exact there b o' (neC b o e hx) e1
 ·obtain⟨m1,e1⟩:=I.base.tbls b ps e
  obtain⟨m2,e2⟩:=tbls b _ e1
  exact⟨m1 ++ m2,by rw[e2,Array.append_assoc]⟩
 ·obtain⟨m,hn,hl⟩:=I.loc
  refine⟨m,ns m hn,λi x v e1 e2 e3=>?_⟩
  obtain⟨u,r,l⟩:=hl i x v e1 e2 e3
  refine⟨u,r,?_⟩
  rcases l with l | ⟨k,c,e,z⟩
  ·exact .inl l
  ·exact .inr ⟨k,c,e,cellK x c e _ z⟩
 ·obtain⟨v,z⟩:=I.cell x c e
  exact⟨v,cellK x c e v z⟩
 ·obtain⟨m,⟨o,_,_,ho,_⟩,_⟩:=I.loc
  exact free _ o (λz=>(hch _ z).2.1 rfl) ho I.free
 ·obtain⟨v,o,ho,hd⟩:=I.cell x c e
  exact free c o (λz=>(hch c z).2.2.1 x c e rfl) ho (I.freeC x c e)
 ·obtain⟨e,n,ne,nf,d⟩:=I.pin p hp
  have nch:p.1∉ch:=λz=>(hch p.1 z).2.2.2 p hp rfl
  exact⟨keep p.1 p.2 ne nf nch e n,free p.1 p.2 nch e n,ne,nf,d⟩
def Inv.un {t':Nat}(I:Inv X pins σ H s)(u:Un X.fs [] H H' s.heap h')(hok:nI X.prog X.w H' h'):Inv X pins σ H' {s with heap:=h',toks:=t'}:=by
 obtain⟨m,⟨o,es,ep,ho,r⟩,_⟩:=id I.loc
 obtain⟨sl,hL⟩:=u.any ho I.free (by simp)
 exact I.step (g':=s.gens) (d':=s.drawn) (ch:=[]) (λ_ z=>nomatch z) (λb o _ hb _ e n=>u.keep b o e n hb (by simp)) (λb o _ hb _ e n=>u.slot b o e n hb (by simp)) (λb o _ e n=>u.free b o e n (by simp)) (λb o _ e=>u.there b o e (by simp)) u.tups u.frzs u.tbls (λm' hm=>by
  obtain⟨o',es',ep',ho',r'⟩:=hm
  rw[ho] at ho';cases ho'
  exact⟨_,es',ep',hL,r'⟩) hok I.bare
def Inv.call {g':Array GenState}{t':Nat}{d':Drawn}{ch:List Addr}(I:Inv X pins σ H s)(u:Un (j8 X.stack) ch H H' s.heap h')(hok:nI X.prog X.w H' h')(hg:AllBare g')
  (hch:∀b∈ch,(b∈X.ex\/X.s₀.heap.objs.size<=b)/\b≠X.env.locals/\(∀x c,X.env.cells.lookup x=some c->c≠b)/\∀p∈X.pn ++ pins,p.1≠b) :
  Inv X pins σ H' {s with heap:=h',gens:=g',drawn:=d',toks:=t'}:=by
 obtain⟨m,⟨o,es,ep,ho,r⟩,_⟩:=id I.loc
 obtain⟨sl,hL⟩:=u.any ho I.free λz=>(hch _ z).2.1 rfl
 exact I.step (ch:=ch) hch (λb o hL hb hc e n=>u.keep b o e n (λz=>(OR.mp (I.stkSub b z)).elim hL hb) hc) (λb o _ _ hc e n=>u.any e n hc) (λb o hc e n=>u.free b o e n hc) (λb o hc e=>u.there b o e hc) u.tups u.frzs u.tbls (λm' hm=>by
  obtain⟨o',es',ep',ho',r'⟩:=hm
  rw[ho] at ho';cases ho'
  exact⟨_,es',ep',hL,r'⟩) hok hg
def Inv.turned {t':Nat}{it:Addr}(I:Inv X pins σ H s)(k:∀b o,b≠it->s.heap.get? b=some o->h'.get? b=some o)(hn:H it=none)(hL:it≠X.env.locals)
  (h1:it∈X.ex\/X.s₀.heap.objs.size<=it) (h2:∀x c,X.env.cells.lookup x=some c->c≠it) (h3:∀p∈X.pn ++ pins,p.1≠it):Inv X pins σ H {s with heap:=h',toks:=t'}:=by
 have nit:∀b u,H b=some u->b≠it:=λb u e z=>by rw[z,hn] at e;cases e
 refine I.step (g':=s.gens) (d':=s.drawn) (ch:=[it]) (λb hb=>?_) (λb o _ _ hc e _=>k b o (λz=>hc (by simp[z])) e) (λb o _ _ hc e _=>⟨o.slots,k b o (λz=>hc (by simp[z])) e⟩) (λ_ _ _ _ n=>n)
  (λb o hc e=>⟨o,k b o (λz=>hc (by simp[z])) e⟩) (λ_ _ e=>e) (λ_ _ _ e=>e) (λb ps e=>⟨#[],by rw[e];simp⟩) (λm hm=>?_) (λb u e=>?_) I.bare
 ·have e:b=it:=by simpa using hb
  subst e
  exact⟨h1,hL,h2,h3⟩
 ·obtain⟨o,es,ep,ho,r⟩:=hm
  exact⟨o,es,ep,k _ o (Ne.symm hL) ho,r⟩
 ·refine (I.hok b u e).stay (λc v hc q=>k c v ?_ q) (λ_ q=>q) λ_ _ q=>q
  rcases hc with z |z
  ·rw[z];exact nit b u e
  ·exact nit c _ z
def Inv.tok (I:Inv X pins σ H s)(t:Nat):Inv X pins σ H {s with toks:=t}:=I.un (h':=s.heap) (t':=t) Un.refl I.hok
def Inv.kept {t':Nat}(I:Inv X pins σ H s)(k:∀b u,s.heap.get? b=some u->h'.get? b=some u):Inv X pins σ H {s with heap:=h',toks:=t'}:=I.un (Un.kept k) (I.hok.kept k)
def Inv.laid {a:Addr}{o:HO}{t':Nat}(I:Inv X pins σ H s)(k:∀b u,s.heap.get? b=some u->h'.get? b=some u)(hp:s.heap.objs.size<=a)(new:dB X.prog X.w (upd H a o) h' a o) :
  Inv X pins σ (upd H a o) {s with heap:=h',toks:=t'}:=I.un (Un.laid k hp (I.hok.fresh hp)) (I.hok.laid k hp new)
def Inv.write {x e:Addr}{o:HO}{t':Nat}(I:Inv X pins σ H s)(mu:ME (H x))(he:e=x\/H e=some (.own x))(k:∀b u,b≠e->s.heap.get? b=some u->h'.get? b=some u)(heo:∃u,h'.get? e=some u)
  (new:dB X.prog X.w (upd H x o) h' x o):Inv X pins σ (upd H x o) {s with heap:=h',toks:=t'}:=I.un (Un.write mu he k heo) (I.hok.write mu he k heo new)
def Inv.pins_of {pins':List (Addr×Obj)}(I:Inv X pins σ H s)(h:∀p∈pins',s.heap.get? p.1=some p.2/\H p.1=none/\p.1≠X.env.locals/\p.1∉X.fs/\∀v,p.2.data≠.cell v):Inv X pins' σ H s:=
 ⟨I.ok,I.os,I.bare,I.base,I.loc,I.cell,I.free,I.freeC,λp hp=>(O4.mp hp).elim (λz=>I.pin p (Qn _ z)) (h p),I.hok,I.len⟩
def wy {N:List Str}(hN:N.Nodup){i j:Nat}{x:Str}(a:N[i]? =some x)(b:N[j]? =some x):i=j:=by
 obtain⟨h1,e1⟩:=OQ.mp a
 obtain⟨h2,e2⟩:=OQ.mp b
 exact (List.getElem_inj hN).mp (e1.trans e2.symm)
def tV {M:Model}{A:Around}{E:Value->Shared->Prop}{i:Nat}{x:Str}{v:V}{u:Value}{Q:Unit->Shared->Prop}(I:Inv X pins σ H s)(hN:X.N.Nodup)(hi:X.N[i]? =some x)(hx:Loc X.env.scope x)(r:RelV v u)
  (h:∀s',Inv X pins (σ.set i (some v)) H s'->(∃a,Heap.SameBut a s.heap s'.heap/\(a=X.env.locals\/X.env.cells.lookup x=some a))->Q () s') (hf:X.fn x=true\/X.env.scope.names.lookup x=some .local:=by first |exact .inl rfl |exact .inr rfl |assumption):wpAny M A (storeName X.env x u) Q E s:=by
 obtain⟨m,hn,hl⟩:=id I.loc
 have hcls:(X.env.scope.kind == .class || (X.env.scope.kind == .module && X.env.locals != X.env.globals))=false:=by rw[I.ok.kind];rfl
 have hiσ:i < σ.length:=by rw[I.len];exact (OQ.mp hi).1
 have cne:=I.cne
 have tracked:∀{a:Addr} {h':Heap},(∃o,s.heap.get? a=some o/\H a=none)->Heap.SameBut a s.heap h'->nI X.prog X.w H h':=λ{a h'} ha hs b ob e=>by
  obtain⟨_,_,hfree⟩:=ha
  refine (I.hok b ob e).stay (λc w' hc q=>(hs.2 c ?_).trans q) (λ_ q=>q) λ_ _ q=>q
  rintro rfl
  rcases hc with rfl |hc
  ·rw[hfree] at e;cases e
  ·rw[hfree] at hc;cases hc
 rcases hx with hk |hk
 ·refine wpAny_storeName_local hk hn (λh' hn' hs=>?_) hcls
  obtain⟨oL,_,_,hoL,_⟩:=id hn
  refine h _ ⟨I.ok,I.os,I.bare,⟨λb o e n hb hx=>?_,λb o e n hb hx=>?_,I.base.free,λb o e hx=>?_,I.base.tups,I.base.frzs,I.base.tbls⟩,⟨_,hn',λj y v' e1 e2 e3=>?_⟩,λy c e=>?_,I.free,I.freeC,λp hp=>?_,tracked ⟨oL,hoL,I.free⟩ hs,by simpa using I.len⟩ ⟨_,hs,.inl rfl⟩
  ·exact (hs.2 b (PN (Pk (OZ e) I.ok.above))).trans (I.base.keep b o e n hb hx)
  ·obtain⟨sl,e1⟩:=I.base.slot b o e n hb hx
   exact⟨sl,(hs.2 b (PN (Pk (OZ e) I.ok.above))).trans e1⟩
  ·obtain⟨o',e1⟩:=I.base.there b o e hx
   exact⟨o',(hs.2 b (PN (Pk (OZ e) I.ok.above))).trans e1⟩
  ·by_cases hj:j=i
   ·subst hj
    rw[hi] at e1;cases e1
    rw[O7 hiσ] at e2
    cases e2
    exact⟨u,r,.inl ⟨hk,by simp⟩⟩
   ·rw[O6 (Ne.symm hj)] at e2
    obtain⟨u',r',q⟩:=hl j y v' e1 e2 e3
    refine⟨u',r',?_⟩
    rcases q with⟨k,e⟩ | ⟨k,c,e,z⟩
    ·refine .inl ⟨k,?_⟩
     have:y≠x:=λe=>hj (wy hN e1 (e▸hi))
     simp[this,e]
    ·exact .inr ⟨k,c,e,z.sameBut hs (cne y c e)⟩
  ·obtain⟨w',z⟩:=I.cell y c e
   exact⟨w',z.sameBut hs (cne y c e)⟩
  ·obtain⟨e,n,ne,nf,d⟩:=I.pin p hp
   exact⟨(hs.2 p.1 ne).trans e,n,ne,nf,d⟩
 ·have hfn:X.fn x=true:=by
   rcases hf with z |z
   ·exact z
   ·rw[z] at hk;cases hk
  obtain⟨c,hc⟩:=I.ok.has x (.inl hk)
  obtain⟨w',z⟩:=I.cell x c hc
  refine wpAny_storeName_cell I.ok.kind hk hc z (λh' hc' hs=>?_)
  obtain⟨oc,hoc,hocd⟩:=id z
  refine h {s with heap:=h'} ⟨I.ok,I.os,I.bare,⟨λb o e n hb hx=>?_,λb o e n hb hx=>?_,I.base.free,λb o e hx=>?_,I.base.tups,I.base.frzs,I.base.tbls⟩,⟨m,hn.sameBut hs (Ne.symm (cne x c hc)),λj y v' e1 e2 e3=>?_⟩,λy c' e=>?_,I.free,I.freeC,λp hp=>?_,tracked ⟨oc,hoc,I.freeC x c hc⟩ hs,by simpa using I.len⟩ ⟨c,hs,.inr hc⟩
  ·exact (hs.2 b (PN (Pk (OZ e) (I.ok.cab x c hfn hc)))).trans (I.base.keep b o e n hb hx)
  ·obtain⟨sl,e1⟩:=I.base.slot b o e n hb hx
   exact⟨sl,(hs.2 b (PN (Pk (OZ e) (I.ok.cab x c hfn hc)))).trans e1⟩
  ·obtain⟨o',e1⟩:=I.base.there b o e hx
   exact⟨o',(hs.2 b (PN (Pk (OZ e) (I.ok.cab x c hfn hc)))).trans e1⟩
  ·by_cases hj:j=i
   ·subst hj
    rw[hi] at e1;cases e1
    rw[O7 hiσ] at e2
    cases e2
    exact⟨u,r,.inr ⟨.inl hk,c,hc,hc'⟩⟩
   ·rw[O6 (Ne.symm hj)] at e2
    obtain⟨u',r',q⟩:=hl j y v' e1 e2 e3
    refine⟨u',r',?_⟩
    rcases q with q | ⟨k,c',e,z'⟩
    ·exact .inl q
    ·refine .inr ⟨k,c',e,z'.sameBut hs ?_⟩
     rintro rfl
     exact hj (wy hN e1 (I.ok.inj _ _ _ e hc▸hi))
  ·by_cases hcc:c'=c
   ·subst hcc;exact⟨_,hc'⟩
   ·obtain⟨w2,z2⟩:=I.cell y c' e
    exact⟨w2,z2.sameBut hs hcc⟩
  ·obtain⟨e,n,ne,nf,d⟩:=I.pin p hp
   refine⟨(hs.2 p.1 ?_).trans e,n,ne,nf,d⟩
   intro q
   rw[q,hoc] at e
   have q':oc=p.2:=Option.some.inj e
   exact d w' (by rw[<-q'];exact hocd)
def xj {M:Model}{A:Around}{E:Value->Shared->Prop}{i:Nat}{x:Str}{v:V}{u:Value}{Q:Unit->Shared->Prop}(I:Inv X pins σ H s)(hN:X.N.Nodup)(hi:X.N[i]? =some x)(hx:Loc X.env.scope x)(r:RelV v u)
  (h:∀s',Inv X pins (σ.set i (some v)) H s'->Q () s') (hf:X.fn x=true\/X.env.scope.names.lookup x=some .local:=by first |exact .inl rfl |exact .inr rfl |assumption):wpAny M A (storeName X.env x u) Q E s:=
 tV I hN hi hx r (λs' I' _=>h s' I') hf
def Inv.call' {s':Shared}{ch:List Addr}(I:Inv X pins σ H s)(ho:s'.os=s.os)(u:Un (j8 X.stack) ch H H' s.heap s'.heap)(hok:nI X.prog X.w H' s'.heap)(hg:AllBare s'.gens)
  (hch:∀b∈ch,(b∈X.ex\/X.s₀.heap.objs.size<=b)/\b≠X.env.locals/\(∀x c,X.env.cells.lookup x=some c->c≠b)/\∀p∈X.pn ++ pins,p.1≠b):Inv X pins σ H' s':=by
 obtain⟨h',g',d',t',o'⟩:=s'
 have e:o'=s.os:=ho
 subst e
 exact I.call (g':=g') (t':=t') (d':=d') u hok hg hch
end
abbrev XK:=Value->Option Addr->Hp->Prop
abbrev St:=List (Option V)
abbrev VK:=V->Hp->Prop
abbrev TE:=St->Hp->VK->Prop
abbrev TT:=St->Hp->(Bool->Hp->Prop)->Prop
abbrev TA:=St->Hp->(List V->Hp->Prop)->Prop
structure Ends where
 nx:St->Hp->Prop
 rt:VK
 bk:St->Hp->Prop:=λ_ _=>False
 ct:St->Hp->Prop:=λ_ _=>False
abbrev TS:=Ends->St->Hp->Prop
def EP (X:Cx)(pins:List (Addr×Obj))(σ:St)(Q:VK)(u:Value)(s':Shared):Prop:=∃v H',Inv X pins σ H' s'/\RelV v u/\Q v H'
def TP (X:Cx)(pins:List (Addr×Obj))(σ:St)(Q:Bool->Hp->Prop)(b:Bool)(s':Shared):Prop:=∃H',Inv X pins σ H' s'/\Q b H'
def AP (X:Cx)(pins:List (Addr×Obj))(σ:St)(Q:List V->Hp->Prop)(us:List Value)(s':Shared):Prop:=∃vs H',Inv X pins σ H' s'/\Vals vs us/\Q vs H'
def SP (X:Cx)(pins:List (Addr×Obj))(D:Ends)(f:Flow)(s':Shared):Prop:=
 match f with
 | .next=>∃σ' H',Inv X pins σ' H' s'/\D.nx σ' H'
 | .brk=>∃σ' H',Inv X pins σ' H' s'/\D.bk σ' H'
 | .cont=>∃σ' H',Inv X pins σ' H' s'/\D.ct σ' H'
 | .ret u=>∃v σ' H',Inv X pins σ' H' s'/\RelV v u/\D.rt v H'
def PE (X:Cx)(e:Expr)(t:TE):Prop:=
 ∀(pins:List (Addr×Obj)) (s:Shared) (σ:St) (H:Hp) (Q:VK),Inv X pins σ H s->t σ H Q->wpAny (model X.prog X.w) X.A (eval e X.env) (EP X pins σ Q) X.xe s
def PT (X:Cx)(e:Expr)(t:TT):Prop:=
 ∀(pins:List (Addr×Obj)) (s:Shared) (σ:St) (H:Hp) (Q:Bool->Hp->Prop),Inv X pins σ H s->t σ H Q->wpAny (model X.prog X.w) X.A (isTrue e X.env (eval e X.env)) (TP X pins σ Q) X.xe s
def PW (X:Cx)(e:Expr)(t:TT):Prop:=
 ∀(whole:Sem Value) (pins:List (Addr×Obj)) (s:Shared) (σ:St) (H:Hp) (Q:Bool->Hp->Prop),Inv X pins σ H s->t σ H Q->wpAny (model X.prog X.w) X.A (isTrue e X.env whole) (TP X pins σ Q) X.xe s
def PW.pt {X:Cx}{e:Expr}{t:TT}(h:PW X e t):PT X e t:=h _
def PA (X:Cx)(es:List Expr)(t:TA):Prop:=
 ∀(pos:Pos) (pins:List (Addr×Obj)) (s:Shared) (σ:St) (H:Hp) (Q:List V->Hp->Prop),Inv X pins σ H s->t σ H Q->wpAny (model X.prog X.w) X.A (spliced (backTo pos (starEach es X.env))) (AP X pins σ Q) X.xe s
def PS (X:Cx)(st:Stmt)(t:TS):Prop:=
 ∀(pins:List (Addr×Obj)) (s:Shared) (σ:St) (H:Hp) (D:Ends),Inv X pins σ H s->t D σ H->wpAny (model X.prog X.w) X.A (exec st X.env) (SP X pins D) X.xe s
def rR (X:Cx)(st:List Stmt)(t:TS):Prop:=
 ∀(pins:List (Addr×Obj)) (s:Shared) (σ:St) (H:Hp) (D:Ends),Inv X pins σ H s->t D σ H->wpAny (model X.prog X.w) X.A (execs st X.env) (SP X pins D) X.xe s
def cO {α:Type}{t:Sem α}{Q Q':α->Shared->Prop}{M:Model}{A:Around}{E:Value->Shared->Prop}{s:Shared}(h:wpAny M A t Q E s)(hQ:∀a s,Q a s->Q' a s):wpAny M A t Q' E s:=P9 h hQ λ_ _ x=>x
section
variable {X:Cx}
def bin {a b:Expr}{ta tb:TE}(ha:PE X a ta)(hb:PE X b tb){pins:List (Addr×Obj)}{s:Shared}{σ:St}{H:Hp}{R:V->V->Hp->Prop}(I:Inv X pins σ H s)(h:ta σ H λx H1=>tb σ H1 λy H2=>R x y H2)
  {α:Type} {Q:α->Shared->Prop} {f:Value->Value->Sem α}
  (hf:∀v u s2 x y H2,Inv X pins σ H2 s2->RelV x v->RelV y u->R x y H2->wpAny (model X.prog X.w) X.A (f v u) Q X.xe s2) :
  wpAny (model X.prog X.w) X.A (eval a X.env) (λv s₁=>wpAny (model X.prog X.w) X.A (eval b X.env) (λu s₂=>wpAny (model X.prog X.w) X.A (f v u) Q X.xe s₂) X.xe s₁) X.xe s:=by
 refine cO (ha pins s σ H _ I h) λv s1 ⟨x,H1,I1,r1,q1⟩=>?_
 refine cO (hb pins s1 σ H1 _ I1 q1) λu s2 ⟨y,H2,I2,r2,q2⟩=>?_
 exact hf v u s2 x y H2 I2 r1 r2 q2
def GV (i:Nat):TE:=λσ H Q=>∃v,σ[i]? =some (some v)/\Q v H
def tC (v:V):TE:=λ_ H Q=>Q v H
def jQ {i:Nat}{x:Str}{pos:Pos}(hN:X.N[i]? =some x)(hv:zJ X.env.scope x)(hd:(x == ("__debug__":Str))=false:=by decide)(hcd:(x == ("__classdict__":Str))=false:=by decide):PE X (.Name x pos) (GV i):=by
 intro pins s σ H Q I h
 obtain⟨v,e,h⟩:=h
 obtain⟨m,hn,hl⟩:=I.loc
 obtain⟨u,r,l⟩:=hl i x v hN e hv
 have fin:EP X pins σ Q u s:=⟨v,H,I,r,h⟩
 rcases l with⟨hk,hm⟩ | ⟨hk,c,hc,hcell⟩
 ·exact wpAny_Name (wpAny_loadName_local I.ok.kind hk hn hm fin) hd
 ·rcases hk with hk |hk
  ·exact wpAny_Name (wpAny_loadName_cell I.ok.kind hk hc hcell fin) hd
  ·exact wpAny_Name (wpAny_loadName_free I.ok.kind hk hc hcell fin hcd) hd
def yB {i j pos}:PE X (.Constant (.int i) j pos) (tC (.int i)):=λ_ _ _ H _ I h=>wpAny_Constant_int ⟨.int i,H,I.tok _,⟨_,rfl⟩,h⟩
def Av {b j pos}:PE X (.Constant (.bool b) j pos) (tC (.bl b)):=λ_ _ _ H _ I h=>Constant_bool ⟨.bl b,H,I,rfl,h⟩
def IE {j pos}:PE X (.Constant .none j pos) (tC .non):=λ_ _ _ H _ I h=>Constant_none ⟨.non,H,I,rfl,h⟩
def JI {x j pos}:PE X (.Constant (.str x) j pos) (tC (.str x)):=λ_ _ _ H _ I h=>Calls.Constant_str ⟨.str x,H,I.tok _,⟨_,rfl⟩,h⟩
def Gl (X:Cx)(x:Str):Prop:=X.env.kindOf x=some .globalImplicit
def va {E:Value->Shared->Prop}{pins:List (Addr×Obj)}{s:Shared}{σ:St}{H:Hp}{x:Str}{u:Value}{pos:Pos}{Q:Value->Shared->Prop}(I:Inv X pins σ H s)(hg:Gl X x)(hm:X.mg x=some u)(h:Q u s)
  (hd:(x == ("__debug__":Str))=false:=by decide):wpAny (model X.prog X.w) X.A (eval (.Name x pos) X.env) Q E s:=
 Calls.Name_function_global I.ok.kind hg (Calls.loadGlobal_global (by rw[I.ok.glob];exact I.mod.glob.keeps I.bk) hm h) hd
def lX {E:Value->Shared->Prop}{pins:List (Addr×Obj)}{s:Shared}{σ:St}{H:Hp}{x:Str}{u:Value}{pos:Pos}{Q:Value->Shared->Prop}(I:Inv X pins σ H s)(hg:Gl X x)(hm:X.mg x=none)(hv:bootBuiltins x=some u)(h:Q u s)
  (hn:x≠"__name__":=by decide) (hd:(x == ("__debug__":Str))=false:=by decide):wpAny (model X.prog X.w) X.A (eval (.Name x pos) X.env) Q E s:=by
 obtain⟨mb,h1,h2⟩:=I.mod.blt
 exact Calls.Name_function_global I.ok.kind hg (Calls.loadGlobal_builtin (by rw[I.ok.glob];exact I.mod.glob.keeps I.bk) hm (by rw[I.ok.blt];exact h1.keeps I.bk) ((h2 x hn).trans hv) h) hd
def Fd {x:Str}{v:V}{u:Value}{pos:Pos}(hg:Gl X x)(hm:X.mg x=some u)(r:RelV v u)(hd:(x == ("__debug__":Str))=false:=by decide):PE X (.Name x pos) (tC v):=
 λ_ _ _ H _ I h=>va I hg hm ⟨v,H,I,r,h⟩ hd
def Gs {x:Str}{v:V}{u:Value}{pos:Pos}(hg:Gl X x)(hm:X.mg x=none)(hv:bootBuiltins x=some u)(r:RelV v u)(hn:x≠"__name__":=by decide)(hd:(x == ("__debug__":Str))=false:=by decide):PE X (.Name x pos) (tC v):=
 λ_ _ _ H _ I h=>lX I hg hm hv ⟨v,H,I,r,h⟩ hn hd
variable {a b:Expr}{ta tb:TE}{pos:Pos}
def PC (X:Cx)(op:CmpOp)(a b:Expr)(t:TE):Prop:=
 ∀(pins:List (Addr×Obj)) (s:Shared) (σ:St) (H:Hp) (Q:VK),Inv X pins σ H s->t σ H Q->
  wpAny (model X.prog X.w) X.A (eval a X.env) (λv s₁=>wpAny (model X.prog X.w) X.A (eval b X.env) (λu s₂=>wpAny (model X.prog X.w) X.A (compareOp op v u) (EP X pins σ Q) X.xe s₂) X.xe s₁) X.xe s
def D8 (b:Expr){op:CmpOp}(h:op≠.In)(h2:op≠.NotIn):behindInMarks op b=false:=by
 have e1:(op == CmpOp.In)=false:=by cases op <;> first |rfl |exact absurd rfl h
 have e2:(op == CmpOp.NotIn)=false:=by cases op <;> first |rfl |exact absurd rfl h2
 cases b <;> simp[behindInMarks,e1,e2]
def LI (ta:TE):TE:=λσ H Q=>ta σ H λx H1=>Q (.bl (!decide (x=.non))) H1
theorem RelV.none_iff {x:V}{v:Value}(r:RelV x v):(v == Value.none)=decide (x=.non):=by
 cases x with
 |non=>cases r;rfl
 |bl _=>cases r;rfl
 |int _=>obtain⟨t,rfl⟩:=r;rfl
 |str _=>obtain⟨t,rfl⟩:=r;rfl
 |byt _=>obtain⟨t,rfl⟩:=r;rfl
 |flt _=>obtain⟨t,rfl⟩:=r;rfl
 |ref _=>cases r;rfl
 |ty _=>cases r;rfl
def EY {j pos'}(ha:PE X a ta):PC X .IsNot a (.Constant .none j pos') (LI ta):=by
 intro pins s σ H Q I h
 refine cO (ha pins s σ H _ I h) λv s1 ⟨x,H1,I1,r1,q1⟩=>?_
 exact Constant_none (isnot_none_gen ⟨.bl _,H1,I1,by rw[r1.none_iff];rfl,q1⟩)
def tB (t:TE):TT:=λσ H Q=>t σ H λx H1=>∃c,x=.bl c/\Q c H1
def J4 {op:CmpOp}{t:TE}(h:PC X op a b t)(h1:behindInMarks op b=false:=by first |exact D8 _ (by decide) (by decide) |rfl):PT X (.Compare a [op] [b] pos) (tB t):=by
 intro pins s σ H Q I hw
 refine wpAny_isTrue_Compare1 (cO (h pins s σ H _ I hw) λv s1 h1=>cO h1 λu s2 h2=>cO h2 λc s3 ⟨x,H1,I1,r1,q1⟩=>?_) h1
 obtain⟨d,rfl,q⟩:=q1
 cases r1
 exact Qa ⟨H1,I1,q⟩
def zi {e:Expr}{t:TE}(h:PE X e t)(he:∀whole,isTrue e X.env whole=(do let v <-whole;standAt e.pos;holding [v] (truthy v)):=by intro _;rfl):PT X e (tB t):=by
 intro pins s σ H Q I hw
 refine isTrue_plain (cO (h pins s σ H _ I hw) λv s1 ⟨x,H1,I1,r1,q1⟩=>?_) (he _)
 obtain⟨d,rfl,q⟩:=q1
 cases r1
 exact Qa ⟨H1,I1,q⟩
variable {tA tB':TT}{rest:List Expr}
def NP (t u:TT):TT:=λσ H Q=>t σ H λc H1=>if c=true then u σ H1 Q else Q false H1
def OG (t u:TT):TT:=λσ H Q=>t σ H λc H1=>if c=true then Q true H1 else u σ H1 Q
def MW (t:TT):TT:=λσ H Q=>t σ H λc H1=>Q (!c) H1
theorem Aj (ha:PT X a tA):PW X (.BoolOp .And [a] pos) tA:=by
 intro wh pins s σ H Q I h
 refine isTrue_and (cO (ha pins s σ H Q I h) λc s1 e=>?_)
 cases c with
 |true=>exact isTrue_and_nil e
 |false=>exact e
theorem Iz (ha:PT X a tA):PW X (.BoolOp .Or [a] pos) tA:=by
 intro wh pins s σ H Q I h
 refine isTrue_or (cO (ha pins s σ H Q I h) λc s1 e=>?_)
 cases c with
 |false=>exact isTrue_or_nil e
 |true=>exact e
theorem CC (ha:PT X a tA)(hb:PW X (.BoolOp .And (b :: rest) pos) tB'):PW X (.BoolOp .And (a :: b :: rest) pos) (NP tA tB'):=by
 intro wh pins s σ H Q I h
 refine isTrue_and (cO (ha pins s σ H _ I h) λc s1 ⟨H1,I1,q1⟩=>?_)
 cases c with
 |true=>exact hb wh pins s1 σ H1 Q I1 q1
 |false=>exact⟨H1,I1,q1⟩
theorem L9 (ha:PT X a tA)(hb:PW X (.BoolOp .Or (b :: rest) pos) tB'):PW X (.BoolOp .Or (a :: b :: rest) pos) (OG tA tB'):=by
 intro wh pins s σ H Q I h
 refine isTrue_or (cO (ha pins s σ H _ I h) λc s1 ⟨H1,I1,q1⟩=>?_)
 cases c with
 |true=>exact⟨H1,I1,q1⟩
 |false=>exact hb wh pins s1 σ H1 Q I1 q1
def JY (ha:PT X a tA):PT X (.UnaryOp .Not a pos) (MW tA):=by
 intro pins s σ H Q I h
 exact isTrue_not (ha pins s σ H (λc H1=>Q (!c) H1) I h)
def Lp (ta tb:TE):TE:=λσ H Q=>ta σ H λx H1=>∃c,x=.bl c/\if c=true then tb σ H1 Q else Q (.bl false) H1
def N3 (ta tb:TE):TE:=λσ H Q=>ta σ H λx H1=>∃c,x=.bl c/\if c=true then Q (.bl true) H1 else tb σ H1 Q
def Ln (ta:TE):TE:=λσ H Q=>ta σ H λx H1=>∃c,x=.bl c/\Q (.bl (!c)) H1
def JV {op}{t:TE}(h:PE X a t):PE X (.BoolOp op [a] pos) t:=λpins s σ H Q I hw=>BoolOp_one (h pins s σ H Q I hw)
theorem IU (ha:PE X a ta)(hb:PE X (.BoolOp .And (b :: rest) pos) tb):PE X (.BoolOp .And (a :: b :: rest) pos) (Lp ta tb):=by
 intro pins s σ H Q I h
 refine BoolOp_and (cO (ha pins s σ H _ I h) λv s1 ⟨x,H1,I1,r1,q1⟩=>?_)
 obtain⟨c,rfl,q1⟩:=q1
 cases r1
 refine Qa ?_
 cases c with
 |true=>exact hb pins s1 σ H1 Q I1 q1
 |false=>exact⟨.bl false,H1,I1,rfl,q1⟩
theorem LQ (ha:PE X a ta)(hb:PE X (.BoolOp .Or (b :: rest) pos) tb):PE X (.BoolOp .Or (a :: b :: rest) pos) (N3 ta tb):=by
 intro pins s σ H Q I h
 refine BoolOp_or (cO (ha pins s σ H _ I h) λv s1 ⟨x,H1,I1,r1,q1⟩=>?_)
 obtain⟨c,rfl,q1⟩:=q1
 cases r1
 refine Qa ?_
 cases c with
 |false=>exact hb pins s1 σ H1 Q I1 q1
 |true=>exact⟨.bl true,H1,I1,rfl,q1⟩
def IX (ha:PE X a ta):PE X (.UnaryOp .Not a pos) (Ln ta):=by
 intro pins s σ H Q I h
 refine UnaryOp_ (cO (ha pins s σ H _ I h) λv s1 ⟨x,H1,I1,r1,q1⟩=>?_)
 obtain⟨c,rfl,q1⟩:=q1
 cases r1
 exact not_of (Qa ⟨.bl (!c),H1,I1,rfl,q1⟩)
def Ot (t:TT)(ta tb:TE):TE:=λσ H Q=>t σ H λc H1=>if c=true then ta σ H1 Q else tb σ H1 Q
theorem Dy {c:Expr}(hc:PT X c tA)(ha:PE X a ta)(hb:PE X b tb):PE X (.IfExp c a b pos) (Ot tA ta tb):=by
 intro pins s σ H Q I h
 refine wpAny_IfExp (cO (hc pins s σ H _ I h) λd s1 ⟨H1,I1,q1⟩=>?_)
 cases d with
 |true=>exact ha pins s1 σ H1 Q I1 q1
 |false=>exact hb pins s1 σ H1 Q I1 q1
end
def iF (K:Frag)(H:Hp)(a:Addr)(xs:List V):Prop:=
 Rd H a (.lst xs)\/
  ∃(o:Obj) (its:Array Value) (n:Nat),K.lookup a=some o/\o.cls=.type "list"/\o.dict=none/\o.data=.seq its n/\its.size<=sizeLine/\Vals xs its.toList
def gA (K:Frag)(H:Hp)(a:Addr)(xs:List V):Prop:=
 Rd H a (.tup xs)\/
  ∃(o:Obj) (its:Array Value) (n:Nat),K.lookup a=some o/\o.cls=.type "tuple"/\o.data=.seq its n/\its.size<=sizeLine/\Vals xs its.toList/\o.dict=none
def NM:Value->Option V
 | .none=>some .non
 | .bool b=>some (.bl b)
 | .int i _=>some (.int i)
 | .str x _=>some (.str x)
 | .bytes b _=>some (.byt b)
 | .float b _=>some (.flt b)
 | .ref a=>some (.ref a)
 | .type n=>some (.ty n)
 |_=>none
theorem RelV.abs {x:V}{u:Value}(r:RelV x u):NM u=some x:=by
 cases x with
 |non=>cases r;rfl
 |bl _=>cases r;rfl
 |int _=>obtain⟨t,rfl⟩:=r;rfl
 |str _=>obtain⟨t,rfl⟩:=r;rfl
 |byt _=>obtain⟨t,rfl⟩:=r;rfl
 |flt _=>obtain⟨t,rfl⟩:=r;rfl
 |ref _=>cases r;rfl
 |ty _=>cases r;rfl
def RelV.inj {x y:V}{u:Value}(r:RelV x u)(q:RelV y u):x=y:=Option.some.inj (r.abs.symm.trans q.abs)
theorem Vals.inj:∀{xs ys:List V} {us:List Value},Vals xs us->Vals ys us->xs=ys
 |_,_,_,.nil,.nil=>rfl
 |_,_,_,.cons r t,.cons r' t'=>by rw[r.inj r',Vals.inj t t']
section
variable {X:Cx}{pins:List (Addr×Obj)}{σ:St}{H:Hp}{s:Shared}{a:Addr}{xs ys:List V}
def Inv.list (I:Inv X pins σ H s)(h:iF X.K H a xs):∃its:List Value,Vals xs its/\PlainL s.heap a its.toArray/\xs.length<=sizeLine:=by
 rcases h with h | ⟨o,its,n,hk,hc,hd,hs,hz,r⟩
 ·obtain⟨z,its,n,r,e⟩:=h.ok I.hok
  exact⟨its,r,⟨_,n,e,rfl,rfl,rfl⟩,z⟩
 ·refine⟨its.toList,r,⟨o,n,I.kIn a o hk,hc,hd,by simpa using hs⟩,?_⟩
  have e:=r.length
  simp only[Array.length_toList] at e
  omega
def Inv.tuple (I:Inv X pins σ H s)(h:gA X.K H a xs):∃its:List Value,Vals xs its/\IsTup s.heap a its.toArray/\xs.length<=sizeLine:=by
 rcases h with h | ⟨o,its,n,hk,hc,hs,hz,r,_⟩
 ·obtain⟨z,its,r,p⟩:=h.ok I.hok
  exact⟨its,r,p.isTup,z⟩
 ·refine⟨its.toList,r,⟨o,I.kIn a o hk,hc,n,by simpa using hs⟩,?_⟩
  have e:=r.length
  simp only[Array.length_toList] at e
  omega
def Inv.list_inj (I:Inv X pins σ H s)(h:iF X.K H a xs)(h':iF X.K H a ys):xs=ys:=by
 obtain⟨its,r,⟨o,n,e,_,_,d⟩,_⟩:=I.list h
 obtain⟨its',r',⟨o',n',e',_,_,d'⟩,_⟩:=I.list h'
 rw[e] at e';cases e'
 rw[d] at d'
 injection d' with d1 _
 have:its=its':=by simpa using congrArg Array.toList d1
 subst this
 exact r.inj r'
def Inv.tuple_inj (I:Inv X pins σ H s)(h:gA X.K H a xs)(h':gA X.K H a ys):xs=ys:=by
 obtain⟨its,r,⟨o,e,_,n,d⟩,_⟩:=I.tuple h
 obtain⟨its',r',⟨o',e',_,n',d'⟩,_⟩:=I.tuple h'
 rw[e] at e';cases e'
 rw[d] at d'
 injection d' with d1 _
 have:its=its':=by simpa using congrArg Array.toList d1
 subst this
 exact r.inj r'
end
abbrev Cx.wish (X:Cx)(E:Value->Shared->Prop):Cx:={X with xe:=E}
abbrev Cx.nox (X:Cx):Cx:=X.wish λ_ _=>False
def Cx.Ok.wish {X:Cx}(ok:X.Ok)(E:Value->Shared->Prop):(X.wish E).Ok:=
 ⟨ok.mod,ok.kind,ok.glob,ok.blt,ok.above,ok.inj,ok.has,ok.cab,ok.hd,ok.frames,ok.stk,ok.exf,ok.bs,ok.bsz,ok.noex,ok.exfs,ok.funs,ok.frf⟩
def Cx.Ok.unwish {X:Cx}{E:Value->Shared->Prop}(ok:(X.wish E).Ok):X.Ok:=
 ⟨ok.mod,ok.kind,ok.glob,ok.blt,ok.above,ok.inj,ok.has,ok.cab,ok.hd,ok.frames,ok.stk,ok.exf,ok.bs,ok.bsz,ok.noex,ok.exfs,ok.funs,ok.frf⟩
section
variable {X:Cx}{pins:List (Addr×Obj)}{σ:St}{H:Hp}{s:Shared}{E:Value->Shared->Prop}
def Inv.wish (I:Inv X pins σ H s)(E:Value->Shared->Prop):Inv (X.wish E) pins σ H s:=⟨I.ok.wish E,I.os,I.bare,I.base,I.loc,I.cell,I.free,I.freeC,I.pin,I.hok,I.len⟩
def Inv.unwish (I:Inv (X.wish E) pins σ H s):Inv X pins σ H s:=⟨I.ok.unwish,I.os,I.bare,I.base,I.loc,I.cell,I.free,I.freeC,I.pin,I.hok,I.len⟩
theorem SP.unwish {D:Ends}{f:Flow}{s':Shared}(h:SP (X.wish E) pins D f s'):SP X pins D f s':=by
 cases f with
 |next=>obtain⟨σ',H',I,q⟩:=h;exact⟨σ',H',I.unwish,q⟩
 |brk=>obtain⟨σ',H',I,q⟩:=h;exact⟨σ',H',I.unwish,q⟩
 |cont=>obtain⟨σ',H',I,q⟩:=h;exact⟨σ',H',I.unwish,q⟩
 |ret u=>obtain⟨v,σ',H',I,r,q⟩:=h;exact⟨v,σ',H',I.unwish,r,q⟩
def rR.nox {st:List Stmt}{t:TS}(h:rR X.nox st t):rR X st t:=λpins s σ H D I hw=>
 P9 (h pins s σ H D (I.wish _) hw) (λ_ _ q=>q.unwish) λ_ _ z=>False.elim z
end
section
variable {X:Cx}{st:Stmt}{rest:List Stmt}{t u:TS}{e:Expr}{te:TE}{pos:Pos}
def Lr:TS:=λD σ H=>D.nx σ H
def MY (t u:TS):TS:=λD σ H=>t {D with nx:=u D} σ H
def zM:rR X [] Lr:=λ_ _ σ H _ I h=>wpAny_execs_nil ⟨σ,H,I,h⟩
theorem jd (h1:PS X st t)(h2:rR X rest u):rR X (st :: rest) (MY t u):=by
 intro pins s σ H D I h
 refine wpAny_execs_cons (cO (h1 pins s σ H {D with nx:=u D} I h) λf s1 q=>?_)
 cases f with
 |next=>
  obtain⟨σ',H',I',q⟩:=q
  exact h2 pins s1 σ' H' D I' q
 |ret v=>exact q
 |brk=>exact q
 |cont=>exact q
theorem jt (h1:PS X st t):rR X [st] t:=by
 intro pins s σ H D I h
 refine wpAny_execs_cons (cO (h1 pins s σ H D I h) λf s1 q=>?_)
 cases f with
 |next=>exact wpAny_execs_nil q
 |ret v=>exact q
 |brk=>exact q
 |cont=>exact q
def Inv.quiet {pins:List (Addr×Obj)}{σ:St}{H:Hp}{s:Shared}(I:Inv X pins σ H s):interactive X.env=false:=by simp[interactive,I.ok.kind]
def Lv (te:TE):TS:=λD σ H=>te σ H λ_ H1=>D.nx σ H1
def pZ (he:PE X e te)(hs:swapsWith e none pos.line X.env=pure false:=by rfl):PS X (.Expr e pos) (Lv te):=by
 intro pins s σ H D I h
 exact wpAny_Expr_any (cO (he pins s σ H _ I h) λv s1 ⟨x,H1,I1,r1,q1⟩=>⟨σ,H1,I1,q1⟩) I.quiet hs
def Nf (te:TE):TS:=λD σ H=>te σ H D.rt
def oP (he:PE X e te):PS X (.Return (some e) pos) (Nf te):=by
 intro pins s σ H D I h
 exact wpAny_Return_some (cO (he pins s σ H _ I h) λv s1 ⟨x,H1,I1,r1,q1⟩=>⟨x,σ,H1,I1,r1,q1⟩)
def Ni (c:TT)(t u:TS):TS:=λD σ H=>c σ H λb H1=>if b=true then t D σ H1 else u D σ H1
theorem HK {c:Expr}{a b:List Stmt}{tc:TT}(hc:PT X c tc)(ha:rR X a t)(hb:rR X b u):PS X (.If c a b pos) (Ni tc t u):=by
 intro pins s σ H D I h
 refine wpAny_If (cO (hc pins s σ H _ I h) λd s1 ⟨H1,I1,q1⟩=>?_)
 cases d with
 |true=>exact ha pins s1 σ H1 D I1 q1
 |false=>exact hb pins s1 σ H1 D I1 q1
end
abbrev TG:=V->St->Hp->(St->Hp->Prop)->Prop
abbrev Jj:=List V->St->Hp->(St->Hp->Prop)->Prop
def PG (X:Cx)(target:Expr)(t:TG):Prop:=
 ∀(pins:List (Addr×Obj)) (s:Shared) (σ:St) (H:Hp) (v:V) (u:Value) (Q:St->Hp->Prop),Inv X pins σ H s->RelV v u->t v σ H Q->
  wpAny (model X.prog X.w) X.A (assign target X.env u) (λ_ s'=>∃σ' H',Inv X pins σ' H' s'/\Q σ' H') X.xe s
def MH (X:Cx)(ts:List Expr)(t:Jj):Prop:=
 ∀(pins:List (Addr×Obj)) (s:Shared) (σ:St) (H:Hp) (vs:List V) (us:List Value) (Q:St->Hp->Prop),Inv X pins σ H s->Vals vs us->t vs σ H Q->
  wpAny (model X.prog X.w) X.A (assignInOrder ((assignEach ts X.env).map (·.2)) us) (λ_ s'=>∃σ' H',Inv X pins σ' H' s'/\Q σ' H') X.xe s
abbrev JZ:=V->V->V->Hp->(Hp->Prop)->Prop
def De (X:Cx)(t:JZ):Prop:=
 ∀(pins:List (Addr×Obj)) (s:Shared) (σ:St) (H:Hp) (o i v:V) (ov iv u:Value) (Q:Hp->Prop),Inv X pins σ H s->RelV o ov->RelV i iv->RelV v u->t o i v H Q->
  wpAny (model X.prog X.w) X.A (setItem ov iv u) (λ_ s'=>∃H',Inv X pins σ H' s'/\Q H') X.xe s
section
variable {X:Cx}{pos:Pos}
def mY (i:Nat):TG:=λv σ H Q=>Q (σ.set i (some v)) H
def dq {i:Nat}{x:Str}(hN:X.N.Nodup)(hi:X.N[i]? =some x)(hx:Loc X.env.scope x)(hf:X.fn x=true\/X.env.scope.names.lookup x=some .local:=by first |exact .inl rfl |exact .inr rfl |assumption):PG X (.Name x pos) (mY i):=by
 intro pins s σ H v u Q I r h
 exact wpAny_assign_Name (xj I hN hi hx r (λs' I'=>⟨_,H,I',h⟩) hf)
def GF:Jj:=λvs σ H Q=>vs= []/\Q σ H
def qX (t:TG)(u:Jj):Jj:=λvs σ H Q=>∃v r,vs=v :: r/\t v σ H λσ' H'=>u r σ' H' Q
def nJ:MH X [] GF:=by
 intro pins s σ H vs us Q I r h
 obtain⟨e,h⟩:=h
 subst e
 cases r
 exact assignInOrder_nil ⟨σ,H,I,h⟩
theorem eO {e:Expr}{es:List Expr}{t:TG}{u:Jj}(h1:PG X e t)(h2:MH X es u)
  (hs:(assignEach (e :: es) X.env).map (·.2)=assign e X.env :: (assignEach es X.env).map (·.2):=by rfl):MH X (e :: es) (qX t u):=by
 intro pins s σ H vs us Q I r h
 obtain⟨v,vr,e1,h⟩:=h
 subst e1
 cases r with
 |cons r rr=>
  rw[hs]
  refine assignInOrder_cons (cO (h1 pins s σ H _ _ _ I r h) λ_ s1 ⟨σ1,H1,I1,q1⟩=>?_)
  exact h2 pins s1 σ1 H1 _ _ Q I1 rr q1
def EM (K:Frag)(n:Nat)(t:Jj):TG:=λv σ H Q=>∃a xs,v=.ref a/\gA K H a xs/\xs.length=n/\t xs σ H Q
def qW {es:List Expr}{k:Nat}{t:Jj}{n:Nat}(hc:X.calm=true)(h:MH X es t)
  (hn:(assignEach es X.env).length=n:=by rfl) (hst:(assignEach es X.env).findIdx? (·.1)=none:=by rfl):PG X (.Tuple es k pos) (EM X.K n t):=by
 intro pins s σ H v u Q I r hw
 obtain⟨a,xs,e1,hq,hl,hw⟩:=hw
 subst e1
 cases r
 obtain⟨its,rv,ht,hz⟩:=I.tuple hq
 refine assign_Tuple_tuple (I.ok.hd hc) ht (by simp[hn,<-hl,rv.length]) hst λh' hx=>?_
 have I1:Inv X pins σ H {s with heap:=h'}:=I.kept (t':=s.toks) λb o e=>hx b o (PN (OZ e)) e
 exact h pins _ σ H xs _ Q I1 (by simpa using rv) hw
def N4 (to ti:TE)(t:JZ):TG:=λv σ H Q=>to σ H λo H1=>ti σ H1 λi H2=>t o i v H2 λH3=>Q σ H3
def uM {o i:Expr}{to ti:TE}{t:JZ}(ho:PE X o to)(hi:PE X i ti)(hs:De X t)
  (ha:∀v,assign (.Subscript o i pos) X.env v=(do
   let ov <-holding [v] (eval o X.env)
   let iv <-holding [v,ov] (eval i X.env)
   standAt pos
   holding [v,ov,iv] (setItem ov iv v)
   release [v,ov,iv] []):=by intro _;rfl):PG X (.Subscript o i pos) (N4 to ti t):=by
 intro pins s σ H v u Q I r h
 rw[ha]
 refine OT (QP (cO (ho pins s σ H _ I h) λov s1 ⟨x,H1,I1,r1,q1⟩=>?_))
 refine OT (QP (cO (hi pins s1 σ H1 _ I1 q1) λiv s2 ⟨y,H2,I2,r2,q2⟩=>?_))
 refine OT (wpAny_standAt (OT (QP (cO (hs pins s2 σ H2 x y v ov iv u _ I2 r1 r2 r q2) λ_ s3 ⟨H3,I3,q3⟩=>?_))))
 exact wpAny_release ⟨σ,H3,I3,q3⟩
def L7 (te:TE)(g:TG):TS:=λD σ H=>te σ H λx H1=>g x σ H1 D.nx
def rg {tg e:Expr}{te:TE}{g:TG}(he:PE X e te)(hg:PG X tg g)(hs:swapsWithSole [tg] e pos.line X.env=pure false:=by rfl)(hw:swappedStores [tg] e X.env=pure none:=by rfl)
  (h1:(assignEach [tg] X.env).map (·.2)= [assign tg X.env]:=by rfl):PS X (.Assign [tg] e pos) (L7 te g):=by
 intro pins s σ H D I h
 refine wpAny_Assign_stores (cO (he pins s σ H _ I h) λv s1 ⟨x,H1,I1,r1,q1⟩=>?_) hs hw
 rw[h1]
 exact cO (hg pins s1 σ H1 x v _ I1 r1 q1) λ_ s2 q=>q
def qq {i:Nat}{x:Str}{e:Expr}{te:TE}{pos':Pos}(hN:X.N.Nodup)(hi:X.N[i]? =some x)(hx:Loc X.env.scope x)(he:PE X e te)(hs:swapsWith e (some (.Name x pos')) pos.line X.env=pure false:=by rfl)(hf:X.fn x=true\/X.env.scope.names.lookup x=some .local:=by first |exact .inl rfl |exact .inr rfl |assumption) :
  PS X (.Assign [.Name x pos'] e pos) (L7 te (mY i)):=by
 intro pins s σ H D I h
 refine wpAny_Assign_Name (cO (he pins s σ H _ I h) λv s1 ⟨y,H1,I1,r1,q1⟩=>?_) hs
 exact xj I1 hN hi hx r1 (λs2 I2=>⟨_,H1,I2,q1⟩) hf
end
section
variable {X:Cx}{pos:Pos}
def J3 (c:TT)(tb:TS):TS:=λD σ H=>∃W:Nat->St->Hp->Prop,(∃m,W m σ H)/\∀m σ H,W m σ H->
 c σ H λb H1=>if b=true then ∃N:St->Hp->Prop,(∀σ' H',N σ' H'->∃m',m' < m/\W m' σ' H')/\tb {D with nx:=N,ct:=N,bk:=D.nx} σ H1 else D.nx σ H1
theorem Dz {c:Expr}{body:List Stmt}{tc:TT}{tb:TS}(hp:PassesOwn (model X.prog X.w) X.A X.env X.xe)(hc:PT X c tc)(hb:rR X body tb):PS X (.While c body [] pos) (J3 tc tb):=by
 intro pins s σ H D I h
 obtain⟨W,⟨m0,w0⟩,turn⟩:=h
 refine wpAny_While (codeAny_whileLoop (λn s'=>∃σ' H',Inv X pins σ' H' s'/\W n σ' H') ?_ m0 ⟨σ,H,I,w0⟩)
 rintro n s1 ⟨σ1,H1,I1,w1⟩
 refine QG hp (cO (hc pins s1 σ1 H1 _ I1 (turn n σ1 H1 w1)) λb s2 ⟨H2,I2,q2⟩=>?_)
 cases b with
 |true=>
  obtain⟨N,hN,q2⟩:=q2
  rw[OO rfl]
  refine QG hp (cO (hb pins s2 σ1 H2 _ I2 q2) λf s3 q3=>?_)
  cases f with
  |next=>
   obtain⟨σ3,H3,I3,n3⟩:=q3
   obtain⟨m',hm,w3⟩:=hN σ3 H3 n3
   exact⟨m',hm,σ3,H3,I3,w3⟩
  |cont=>
   obtain⟨σ3,H3,I3,n3⟩:=q3
   obtain⟨m',hm,w3⟩:=hN σ3 H3 n3
   exact⟨m',hm,σ3,H3,I3,w3⟩
  |brk=>exact q3
  |ret v=>exact q3
 |false=>
  rw[OV O8]
  exact wpAny_execs_nil ⟨σ1,H2,I2,q2⟩
end
structure It where
 go:Nat->Hp->Prop
 yld:Nat->Hp->V->Hp->Prop
 stop:Nat->Hp->Prop
def jU (X:Cx)(pins:List (Addr×Obj))(H:Hp)(b:Addr):Prop:=
 H b=none/\b≠X.env.locals/\b∉X.fs/\(b∈X.ex\/X.s₀.heap.objs.size<=b)/\(∀x c,X.env.cells.lookup x=some c->c≠b)/\∀p∈X.pn ++ pins,p.1≠b
def Inv.fpOk {X:Cx}{pins:List (Addr×Obj)}{σ:St}{H H':Hp}{s:Shared}{b:Addr}(I:Inv X pins σ H s)(hb:s.heap.objs.size<=b)(hn:H' b=none):jU X pins H' b:=by
 refine⟨hn,Nat.ne_of_gt (Pk I.lt hb),I.nofs hb,.inr (Pz I.sz hb),λx c e z=>?_,λp hp z=>?_⟩
 ·obtain⟨v,q⟩:=I.cell x c e
  exact absurd (Pk q.lt (by rw[z];exact hb)) (Pw _)
 ·exact absurd (Pk (OZ (I.pin p hp).1) (by rw[z];exact hb)) (Pw _)
structure Turn (P:Program)(w:World)(K:Frag)(tg:Expr)(J:It)(fp:List Addr)(it:Addr)(tn:Nat->Heap->Prop):Prop where
 mem:it∈fp
 obj:∀i h,tn i h->∀b∈fp,∃o,h.get? b=some o/\∀v,o.data≠.cell v
 keep:∀i h h',tn i h->(∀b∈fp,∀o,h.get? b=some o->h'.get? b=some o)->tn i h'
 item:∀(X:Cx),X.prog=P->X.w=w->X.K=K->X.calm=true->∀(i:Nat) (pins:List (Addr×Obj)) (s:Shared) (σ:St) (H:Hp) (E:Value->Shared->Prop),Inv X pins σ H s->(∀b∈fp,jU X pins H b)->tn i s.heap->J.go i H->
  wpAny (model P w) X.A (pyNext (.ref it)) (λr s1=>∃u,r=some u/\
   wpAny (model P w) X.A (letOwnedTupleGo tg (.ref it) u) (λ_ s2=>∃x H',Inv X pins σ H' s2/\RelV x u/\J.yld i H x H'/\tn (i + 1) s2.heap/\∀b∈fp,H' b=none) E s1) E s
 done:∀(X:Cx),X.prog=P->X.w=w->X.K=K->X.calm=true->∀(i:Nat) (pins:List (Addr×Obj)) (s:Shared) (σ:St) (H:Hp) (E:Value->Shared->Prop),Inv X pins σ H s->(∀b∈fp,jU X pins H b)->tn i s.heap->J.stop i H->
  wpAny (model P w) X.A (pyNext (.ref it)) (λr s1=>r=none/\Inv X pins σ H s1) E s
 self:∀(A:Around) (i:Nat) (s:Shared) (Q:Value->Shared->Prop) (E:Value->Shared->Prop),tn i s.heap->Q (.ref it) s->wpAny (model P w) A (pyIter (.ref it)) Q E s
abbrev TI:=St->Hp->(It->Hp->Prop)->Prop
def NT (X:Cx)(pins:List (Addr×Obj))(σ:St)(tg:Expr)(R:It->Hp->Prop)(itv:Value)(s2:Shared):Prop:=
 ∃(it:Addr) (fp:List Addr) (tn:Nat->Heap->Prop) (J:It) (H':Hp),itv=.ref it/\Inv X pins σ H' s2/\Turn X.prog X.w X.K tg J fp it tn/\tn 0 s2.heap/\(∀b∈fp,jU X pins H' b)/\R J H'
def PI (X:Cx)(tg iter:Expr)(wi:TI):Prop:=
 ∀(pins:List (Addr×Obj)) (s:Shared) (σ:St) (H:Hp) (R:It->Hp->Prop),Inv X pins σ H s->wi σ H R->
  wpAny (model X.prog X.w) X.A (eval iter X.env) (λv s1=>wpAny (model X.prog X.w) X.A (pyIter v) (NT X pins σ tg R) X.xe s1) X.xe s
def zO {M:Model}{A:Around}{E:Value->Shared->Prop}{s:Shared}{tg:Expr}{it:Addr}{u:Value}{o:Obj}{n:String}{vs:Array Value}{Q:Unit->Shared->Prop}(ho:s.heap.get? it=some o)(hc:o.cls=.type n)(hd:o.data=.fields vs)
  (hn: ["enumerate","zip","dict_itemiterator","dict_reverseitemiterator","odict_iterator","itertools.zip_longest","itertools.pairwise"].contains n=false) (hQ:Q () s):wpAny M A (letOwnedTupleGo tg (.ref it) u) Q E s:=by
 unfold letOwnedTupleGo
 cases tg <;> first
  |exact Pl hQ
  | (cases u <;> first
    |exact Pl hQ
    | (refine OT (wpAny_load ho ?_)
       rw[hc,hd]
       show wpAny M A (if (["enumerate","zip","dict_itemiterator","dict_reverseitemiterator","odict_iterator","itertools.zip_longest","itertools.pairwise"].contains n && vs[0]? == some (rawInt _))=true then _ else _) Q E s
       rw[OV (by intro h;rw[hn,Bool.false_and] at h;cases h)]
       exact Pl hQ))
def AX (K:Frag)(a:Addr):It:=
 ⟨λi H=>∃xs x,iF K H a xs/\xs[i]? =some x,λi H x H'=>H'=H/\∀xs,iF K H a xs->xs[i]? =some x,λi H=>∃xs,iF K H a xs/\xs.length<=i⟩
def HA (K:Frag)(a:Addr):It:=
 ⟨λi H=>∃xs x,gA K H a xs/\xs[i]? =some x,λi H x H'=>H'=H/\∀xs,gA K H a xs->xs[i]? =some x,λi H=>∃xs,gA K H a xs/\xs.length<=i⟩
def Ea (lo:Int)(n:Nat):It:=⟨λi _=>i < n,λi H x H'=>H'=H/\x=.int (lo + i),λi _=>n<=i⟩
def oK {P:Program}{w:World}{K:Frag}{tg:Expr}(a it:Addr):Turn P w K tg (AX K a) [it] it (λi h=>h.IsListIter it a i) where
 mem:=by simp
 obj:=λi h st b hb=>by
  have e:b=it:=by simpa using hb
  subst e
  obtain⟨o,e,c,d⟩:=st
  exact⟨o,e,λv z=>by rw[d] at z;cases z⟩
 keep:=λi h h' st k=>st.at λo e=>k it (by simp) o e
 item:=by
  intro X hP hw hK hc i pins s σ H E I hf st hg
  subst hP hw hK
  obtain⟨xs,x,hq,hx⟩:=hg
  obtain⟨its,rv,p,hz⟩:=I.list hq
  obtain⟨u,hu,ru⟩:=rv.get hx
  obtain⟨f0,f1,f2,f3,f4,f5⟩:=hf it (by simp)
  refine wpAny_pyNext_list_item st p.isList (x:=u) (by simpa using hu) λh' st' sb=>?_
  have I1:Inv X pins σ H {s with heap:=h'}:=I.turned (t':=s.toks) (λb o hb e=>(sb.2 b hb).trans e) f0 f1 f3 f4 f5
  obtain⟨o,e,c,d⟩:=id st'
  exact⟨u,rfl,zO (s:={s with heap:=h'}) e c d (by decide) ⟨x,H,I1,ru,⟨rfl,λys hy=>by rw[I.list_inj hy hq];exact hx⟩,st',λb hb=>(hf b hb).1⟩⟩
 done:=by
  intro X hP hw hK hc i pins s σ H E I hf st hg
  subst hP hw hK
  obtain⟨xs,hq,hx⟩:=hg
  obtain⟨its,rv,p,hz⟩:=I.list hq
  obtain⟨f0,f1,f2,f3,f4,f5⟩:=hf it (by simp)
  have hl:=rv.length
  exact wpAny_pyNext_list_end (I.ok.hd hc) st p.isList (by simp;omega) λh' eb=>⟨rfl,I.turned (t':=s.toks) (λb o hb e=>eb b o hb e) f0 f1 f3 f4 f5⟩
 self:=λ_ _ _ _ _ st h=>wpAny_pyIter_listiter st h
def qS {P:Program}{w:World}{K:Frag}{tg:Expr}(a it:Addr):Turn P w K tg (HA K a) [it] it (λi h=>h.IsTupleIter it a i) where
 mem:=by simp
 obj:=λi h st b hb=>by
  have e:b=it:=by simpa using hb
  subst e
  obtain⟨o,e,c,d⟩:=st
  exact⟨o,e,λv z=>by rw[d] at z;cases z⟩
 keep:=λi h h' st k=>st.at λo e=>k it (by simp) o e
 item:=by
  intro X hP hw hK hc i pins s σ H E I hf st hg
  subst hP hw hK
  obtain⟨xs,x,hq,hx⟩:=hg
  obtain⟨its,rv,p,hz⟩:=I.tuple hq
  obtain⟨u,hu,ru⟩:=rv.get hx
  obtain⟨f0,f1,f2,f3,f4,f5⟩:=hf it (by simp)
  refine wpAny_pyNext_tuple_item st (show s.heap.IsTuple a its.toArray from p) (x:=u) (by simpa using hu) λh' st' sb=>?_
  have I1:Inv X pins σ H {s with heap:=h'}:=I.turned (t':=s.toks) (λb o hb e=>(sb.2 b hb).trans e) f0 f1 f3 f4 f5
  obtain⟨o,e,c,d⟩:=id st'
  exact⟨u,rfl,zO (s:={s with heap:=h'}) e c d (by decide) ⟨x,H,I1,ru,⟨rfl,λys hy=>by rw[I.tuple_inj hy hq];exact hx⟩,st',λb hb=>(hf b hb).1⟩⟩
 done:=by
  intro X hP hw hK hc i pins s σ H E I hf st hg
  subst hP hw hK
  obtain⟨xs,hq,hx⟩:=hg
  obtain⟨its,rv,p,hz⟩:=I.tuple hq
  obtain⟨f0,f1,f2,f3,f4,f5⟩:=hf it (by simp)
  have hl:=rv.length
  exact wpAny_pyNext_tuple_end (I.ok.hd hc) st (show s.heap.IsTuple a its.toArray from p) (by simp;omega) λh' eb=>⟨rfl,I.turned (t':=s.toks) (λb o hb e=>eb b o hb e) f0 f1 f3 f4 f5⟩
 self:=λ_ _ _ _ _ st h=>wpAny_pyIter_tupleiter st h
def zk {P:Program}{w:World}{K:Frag}{tg:Expr}(it:Addr)(lo:Int)(n:Nat):Turn P w K tg (Ea lo n) [it] it (λi h=>IsRangeIter h it (lo + (i:Nat) * 1) ((n:Int) - (i:Nat)) 1) where
 mem:=by simp
 obj:=λi h st b hb=>by
  have e:b=it:=by simpa using hb
  subst e
  exact⟨_,st,λv z=>by
   have z':Data.fields _=Data.cell v:=z
   cases z'⟩
 keep:=λi h h' st k=>k it (by simp) _ st
 item:=by
  intro X hP hw hK hc i pins s σ H E I hf st hg
  subst hP hw hK
  obtain⟨f0,f1,f2,f3,f4,f5⟩:=hf it (by simp)
  have W:=Walks.range (prog:=X.prog) (w:=X.w) (I.ok.hd hc) it lo 1 n
  refine W.item i s _ _ hg st λv h' tk hv st' kk=>?_
  obtain⟨t,rfl⟩:=hv
  have I1:Inv X pins σ H {s with heap:=h',toks:=tk}:=I.turned (λb o hb e=>kk b o (by simpa using hb) e) f0 f1 f3 f4 f5
  refine⟨_,rfl,zO (s:={s with heap:=h',toks:=tk}) (n:="range_iterator") st' rfl rfl (by decide) ⟨.int (lo + i),H,I1,⟨t,?_⟩,⟨rfl,rfl⟩,st',λb hb=>(hf b hb).1⟩⟩
  rw[Int.mul_one]
 done:=by
  intro X hP hw hK hc i pins s σ H E I hf st hg
  subst hP hw hK
  obtain⟨f0,f1,f2,f3,f4,f5⟩:=hf it (by simp)
  exact wpAny_pyNext_range_end (I.ok.hd hc) st (by have:n<=i:=hg;omega) λh' eb=>⟨rfl,I.turned (t':=s.toks) (λb o hb e=>eb b o hb e) f0 f1 f3 f4 f5⟩
 self:=λ_ _ _ _ _ st h=>wpAny_pyIter_rangeiter st h
section
variable {X:Cx}{tg:Expr}
def K7 (K:Frag)(tl:TE):TI:=λσ H R=>tl σ H λx H1=>∃a,x=.ref a/\(∃xs,iF K H1 a xs)/\R (AX K a) H1
def zT {l:Expr}{tl:TE}(hl:PE X l tl):PI X tg l (K7 X.K tl):=by
 intro pins s σ H R I h
 refine cO (hl pins s σ H _ I h) λv s1 ⟨x,H1,I1,r1,q1⟩=>?_
 obtain⟨a,e,⟨xs,hq⟩,q⟩:=q1
 subst e
 cases r1
 obtain⟨its,rv,p,hz⟩:=I1.list hq
 refine QJ p.isList ?_
 refine⟨s1.heap.objs.size,[s1.heap.objs.size],_,_,H1,rfl,I1.kept (t':=s1.toks) λb o e=>OL _ e,oK a _,⟨_,O0 _ rfl,rfl,rfl⟩,λb hb=>?_,q⟩
 have e:b=s1.heap.objs.size:=by simpa using hb
 subst e
 exact I1.fpOk (ON _) (I1.hok.fresh (ON _))
def DZ {pins:List (Addr×Obj)}{σ:St}{H:Hp}{s:Shared}{R:It->Hp->Prop}{E:Value->Shared->Prop}{lo hi:Int}{t u v:Tok}{tk:Nat}(I:Inv X pins σ H s)(h1: -(2 ^ 62)<=lo)(h2:lo < 2 ^ 62)(h3: -(2 ^ 62)<=hi)(h4:hi < 2 ^ 62)
  (q:R (Ea lo (hi - lo).toNat) H):wpAny (model X.prog X.w) X.A (pyIter (.ref s.heap.objs.size)) (NT X pins σ tg R) E {s with heap:=s.heap.push {cls:=.type "range",data:=.fields #[.int lo t,.int hi u,.int 1 v]},toks:=tk}:=by
 refine wpAny_pyIter_range (IsRange.new ..) (small_one h1 h2 h3 h4) ?_
 have I1:Inv X pins σ H {s with heap:=s.heap.push {cls:=.type "range",data:=.fields #[.int lo t,.int hi u,.int 1 v]},toks:=tk}:=I.kept λb o e=>OL _ e
 refine⟨(s.heap.push {cls:=.type "range",data:=.fields #[.int lo t,.int hi u,.int 1 v]}).objs.size,[(s.heap.push {cls:=.type "range",data:=.fields #[.int lo t,.int hi u,.int 1 v]}).objs.size],_,_,H,rfl,
  I1.kept (t':=tk) λb o e=>OL _ e,zk _ lo (hi - lo).toNat,?_,λb hb=>?_,q⟩
 ·have e1:lo + ((0:Nat):Int) * 1=lo:=by simp
  have e2:(((hi - lo).toNat:Nat):Int) - ((0:Nat):Int)=Builtin.Range.rangeSize lo hi 1:=by rw[rangeSize_one];split <;> omega
  show IsRangeIter _ _ (lo + ((0:Nat):Int) * 1) ((((hi - lo).toNat:Nat):Int) - ((0:Nat):Int)) 1
  rw[e1,e2]
  exact O0 _ rfl
 ·have e:b=(s.heap.push {cls:=.type "range",data:=.fields #[.int lo t,.int hi u,.int 1 v]}).objs.size:=by simpa using hb
  subst e
  exact I1.fpOk (ON _) (I1.hok.fresh (ON _))
def K8 (ta:TA):TI:=λσ H R=>ta σ H λvs H1=>∃j:Int,vs= [.int j]/\ -(2 ^ 62)<=j/\j < 2 ^ 62/\R (Ea 0 j.toNat) H1
theorem mH {a:Expr}{ta:TA}{p pos:Pos}(hg:Gl X "range")(hm:X.mg "range"=none)(ha:PA X [a] ta)(hs:starEach [a] X.env= [(false,eval a X.env)]:=by rfl):PI X tg (.Call (.Name "range" p) [a] [] pos) (K8 ta):=by
 intro pins s σ H R I h
 refine Call_ (lX I hg hm boot_range (Qr (cO (ha pos pins s σ H _ I h) λus s1 ⟨vs,H1,I1,r1,q1⟩=>?_) hs rfl))
 obtain⟨j,e,q1,q2,q⟩:=q1
 subst e
 cases r1 with
 |cons r rr=>
  cases rr
  obtain⟨t,rfl⟩:=r
  exact call_range_1 (DZ I1 (by omega) (by omega) q1 q2 (by simpa using q))
def Nq (wi:TI)(g:TG)(tb:TS):TS:=λD σ H=>wi σ H λJ H1=>∃W:Nat->Nat->St->Hp->Prop,(∃m,W 0 m σ H1)/\∀i m σ H,W i m σ H->
 (J.stop i H/\D.nx σ H)\/(J.go i H/\∃N:St->Hp->Prop,(∀σ' H',N σ' H'->∃m',m' < m/\W (i + 1) m' σ' H')/\∀x H',J.yld i H x H'->g x σ H' λσ2 H2=>tb {D with nx:=N,ct:=N,bk:=D.nx} σ2 H2)
def qR (fp:List Addr)(h:Heap):List (Addr×Obj):=fp.filterMap λb=>(h.get? b).map λo=>(b,o)
def kH {fp:List Addr}{h:Heap}{b:Addr}{o:Obj}(hb:b∈fp)(e:h.get? b=some o):(b,o)∈qR fp h:=QF.mpr ⟨b,hb,by rw[e];rfl⟩
theorem AS {fp:List Addr}{h:Heap}{p:Addr×Obj}(hp:p∈qR fp h):p.1∈fp/\h.get? p.1=some p.2:=by
 obtain⟨b,hb,e⟩:=QF.mp hp
 cases q:h.get? b with
 |none=>rw[q] at e;cases e
 |some o=>
  rw[q] at e
  have e':(b,o)=p:=Option.some.inj e
  subst e'
  exact⟨hb,q⟩
def Inv.pinned {pins:List (Addr×Obj)}{σ:St}{H:Hp}{s:Shared}{fp:List Addr}(I:Inv X pins σ H s)(hf:∀b∈fp,jU X pins H b)(ho:∀b∈fp,∃o,s.heap.get? b=some o/\∀v,o.data≠.cell v):Inv X (pins ++ qR fp s.heap) σ H s:=
 I.pins_of λp hp=>(O4.mp hp).elim (λz=>I.pin p (Pn _ z)) λz=>by
  obtain⟨hb,e⟩:=AS z
  obtain⟨f0,f1,f2,_⟩:=hf p.1 hb
  obtain⟨o,e',d⟩:=ho p.1 hb
  rw[e] at e';cases e'
  exact⟨e,f0,f1,f2,d⟩
def Inv.unpinned {pins pl:List (Addr×Obj)}{σ:St}{H:Hp}{s:Shared}(I:Inv X (pins ++ pl) σ H s):Inv X pins σ H s:=I.pins_of λp hp=>I.pin p (Pn _ (Qn _ hp))
def vp {iter:Expr}{body:List Stmt}{wi:TI}{g:TG}{tb:TS}{pos:Pos}(hp:PassesOwn (model X.prog X.w) X.A X.env X.xe)(hc:X.calm=true)(hi:PI X tg iter wi)(hg:PG X tg g)(hb:rR X body tb)
  (hs:∀x,foldedSetIterable iter X.env x=pure x:=by intro _;rfl):PS X (.For tg iter body [] pos) (Nq wi g tb):=by
 intro pins s σ H D I h
 refine wpAny_For (cO (hi pins s σ H _ I h) λv s1 h1=>cO h1 λitv s2 h2=>?_) hs
 obtain⟨it,fp,tn,J,H2,e,I2,T,st2,f2,W,⟨m0,w0⟩,turn⟩:=h2
 subst e
 have stat:∀{H':Hp},(∀b∈fp,H' b=none)->∀b∈fp,jU X pins H' b:=λhn b hb=>⟨hn b hb,(f2 b hb).2⟩
 refine codeAny_forLoop_any (λn s'=>∃i σ' H',Inv X pins σ' H' s'/\tn i s'.heap/\(∀b∈fp,H' b=none)/\W i n σ' H') ?_ m0 ⟨0,σ,H2,I2,st2,λb hb=>(f2 b hb).1,w0⟩
 rintro n s3 ⟨i,σ3,H3,I3,st3,fr3,w3⟩
 rcases turn i n σ3 H3 w3 with⟨stop,qn⟩ | ⟨go,N,hN,step⟩
 ·refine QG hp (cO (T.done X rfl rfl rfl hc i pins s3 σ3 H3 X.xe I3 (stat fr3) st3 stop) λr s4 ⟨hr,I4⟩=>?_)
  subst hr
  exact wpAny_execs_nil ⟨σ3,H3,I4,qn⟩
 ·refine QG hp (cO (T.item X rfl rfl rfl hc i pins s3 σ3 H3 X.xe I3 (stat fr3) st3 go) λr s4 ⟨u,hr,h4⟩=>?_)
  subst hr
  refine QG hp (cO h4 λ_ s5 ⟨x,H5,I5,r5,y5,st5,fr5⟩=>?_)
  have I5':=I5.pinned (stat fr5) (T.obj _ _ st5)
  refine QG hp (cO (hg _ s5 σ3 H5 x u _ I5' r5 (step x H5 y5)) λ_ s6 ⟨σ6,H6,I6,q6⟩=>?_)
  refine QG hp (cO (hb _ s6 σ6 H6 _ I6 q6) λf s7 q7=>?_)
  have again:∀{σ7:St} {H7:Hp},Inv X (pins ++ qR fp s5.heap) σ7 H7 s7->N σ7 H7->∃m,m < n/\∃i σ' H',Inv X pins σ' H' s7/\tn i s7.heap/\(∀b∈fp,H' b=none)/\W i m σ' H':=λ{σ7 H7} I7 n7=>by
   obtain⟨m',hm,w7⟩:=hN σ7 H7 n7
   refine⟨m',hm,i + 1,σ7,H7,I7.unpinned,T.keep _ _ _ st5 λb hb o e=>(I7.pin (b,o) (Pn _ (Pn _ (kH hb e)))).1,λb hb=>?_,w7⟩
   obtain⟨o,e,d⟩:=T.obj _ _ st5 b hb
   exact (I7.pin (b,o) (Pn _ (Pn _ (kH hb e)))).2.1
  cases f with
  |next=>obtain⟨σ7,H7,I7,n7⟩:=q7;exact again I7 n7
  |cont=>obtain⟨σ7,H7,I7,n7⟩:=q7;exact again I7 n7
  |brk=>obtain⟨σ7,H7,I7,q7⟩:=q7;exact⟨σ7,H7,I7.unpinned,q7⟩
  |ret v=>obtain⟨x7,σ7,H7,I7,r7,q7⟩:=q7;exact⟨x7,σ7,H7,I7.unpinned,r7,q7⟩
end
def wM {K:Frag}{a:Addr}{xs:List V}{g:TG}{tb:TS}{D:Ends}{σ:St}{H:Hp}(Pv:Nat->St->Hp->Prop)(h0:Pv 0 σ H)(hl:∀i σ H,i<=xs.length->Pv i σ H->iF K H a xs)
  (hs:∀i x σ H,xs[i]? =some x->Pv i σ H->g x σ H λσ2 H2=>tb {D with nx:=Pv (i + 1),ct:=Pv (i + 1),bk:=D.nx} σ2 H2) (hd:∀σ H,Pv xs.length σ H->D.nx σ H) :
  ∃W:Nat->Nat->St->Hp->Prop,(∃m,W 0 m σ H)/\∀i m σ H,W i m σ H->
   ((AX K a).stop i H/\D.nx σ H)\/((AX K a).go i H/\∃N:St->Hp->Prop,(∀σ' H',N σ' H'->∃m',m' < m/\W (i + 1) m' σ' H')/\∀x H',(AX K a).yld i H x H'->g x σ H' λσ2 H2=>tb {D with nx:=N,ct:=N,bk:=D.nx} σ2 H2):=by
 refine⟨λi m σ H=>m=xs.length - i/\i<=xs.length/\Pv i σ H,⟨xs.length,by simp,PX _,h0⟩,?_⟩
 rintro i m σ H ⟨rfl,hi,p⟩
 have q:=hl i σ H hi p
 by_cases hlt:i < xs.length
 ·refine .inr ⟨⟨xs,xs[i],q,by simp[hlt]⟩,Pv (i + 1),λσ' H' p'=>⟨xs.length - (i + 1),by omega,rfl,hlt,p'⟩,λx H' y=>?_⟩
  obtain⟨e,y⟩:=y
  subst e
  exact hs i x σ _ (y xs q) p
 ·have e:i=xs.length:=by omega
  subst e
  exact .inl ⟨⟨xs,q,ON _⟩,hd σ H p⟩
def EJ {K:Frag}{a:Addr}{xs:List V}{g:TG}{tb:TS}{D:Ends}{σ:St}{H:Hp}(Pv:Nat->St->Hp->Prop)(h0:Pv 0 σ H)(hl:∀i σ H,i<=xs.length->Pv i σ H->gA K H a xs)
  (hs:∀i x σ H,xs[i]? =some x->Pv i σ H->g x σ H λσ2 H2=>tb {D with nx:=Pv (i + 1),ct:=Pv (i + 1),bk:=D.nx} σ2 H2) (hd:∀σ H,Pv xs.length σ H->D.nx σ H) :
  ∃W:Nat->Nat->St->Hp->Prop,(∃m,W 0 m σ H)/\∀i m σ H,W i m σ H->
   ((HA K a).stop i H/\D.nx σ H)\/((HA K a).go i H/\∃N:St->Hp->Prop,(∀σ' H',N σ' H'->∃m',m' < m/\W (i + 1) m' σ' H')/\∀x H',(HA K a).yld i H x H'->g x σ H' λσ2 H2=>tb {D with nx:=N,ct:=N,bk:=D.nx} σ2 H2):=by
 refine⟨λi m σ H=>m=xs.length - i/\i<=xs.length/\Pv i σ H,⟨xs.length,by simp,PX _,h0⟩,?_⟩
 rintro i m σ H ⟨rfl,hi,p⟩
 have q:=hl i σ H hi p
 by_cases hlt:i < xs.length
 ·refine .inr ⟨⟨xs,xs[i],q,by simp[hlt]⟩,Pv (i + 1),λσ' H' p'=>⟨xs.length - (i + 1),by omega,rfl,hlt,p'⟩,λx H' y=>?_⟩
  obtain⟨e,y⟩:=y
  subst e
  exact hs i x σ _ (y xs q) p
 ·have e:i=xs.length:=by omega
  subst e
  exact .inl ⟨⟨xs,q,ON _⟩,hd σ H p⟩
def AN {lo:Int}{n:Nat}{g:TG}{tb:TS}{D:Ends}{σ:St}{H:Hp}(Pv:Nat->St->Hp->Prop)(h0:Pv 0 σ H)
  (hs:∀i σ H,i < n->Pv i σ H->g (.int (lo + i)) σ H λσ2 H2=>tb {D with nx:=Pv (i + 1),ct:=Pv (i + 1),bk:=D.nx} σ2 H2) (hd:∀σ H,Pv n σ H->D.nx σ H) :
  ∃W:Nat->Nat->St->Hp->Prop,(∃m,W 0 m σ H)/\∀i m σ H,W i m σ H->
   ((Ea lo n).stop i H/\D.nx σ H)\/((Ea lo n).go i H/\∃N:St->Hp->Prop,(∀σ' H',N σ' H'->∃m',m' < m/\W (i + 1) m' σ' H')/\∀x H',(Ea lo n).yld i H x H'->g x σ H' λσ2 H2=>tb {D with nx:=N,ct:=N,bk:=D.nx} σ2 H2):=by
 refine⟨λi m σ H=>m=n - i/\i<=n/\Pv i σ H,⟨n,by simp,PX _,h0⟩,?_⟩
 rintro i m σ H ⟨rfl,hi,p⟩
 by_cases hlt:i < n
 ·refine .inr ⟨hlt,Pv (i + 1),λσ' H' p'=>⟨n - (i + 1),by omega,rfl,hlt,p'⟩,λx H' y=>?_⟩
  obtain⟨e,y⟩:=y
  subst e y
  exact hs i σ _ hlt p
 ·have e:i=n:=by omega
  subst e
  exact .inl ⟨ON _,hd σ H p⟩
abbrev R2:=V->V->Hp->VK->Prop
def mT (X:Cx)(f:Value->Value->Sem Value)(r:R2):Prop:=
 ∀(pins:List (Addr×Obj)) (s:Shared) (σ:St) (H:Hp) (x y:V) (v u:Value) (Q:VK),Inv X pins σ H s->RelV x v->RelV y u->r x y H Q->
  wpAny (model X.prog X.w) X.A (f v u) (EP X pins σ Q) X.xe s
def Mv (X:Cx)(f:Value->Sem Value)(r:V->Hp->VK->Prop):Prop:=
 ∀(pins:List (Addr×Obj)) (s:Shared) (σ:St) (H:Hp) (x:V) (v:Value) (Q:VK),Inv X pins σ H s->RelV x v->r x H Q->
  wpAny (model X.prog X.w) X.A (f v) (EP X pins σ Q) X.xe s
def fU (X:Cx)(f:Value)(r:List V->Hp->VK->Prop):Prop:=
 ∀(pins:List (Addr×Obj)) (s:Shared) (σ:St) (H:Hp) (xs:List V) (us:List Value) (Q:VK),Inv X pins σ H s->Vals xs us->r xs H Q->
  wpAny (model X.prog X.w) X.A (call f us) (EP X pins σ Q) X.xe s
def MZ (X:Cx)(r:V->Hp->(Bool->Hp->Prop)->Prop):Prop:=
 ∀(pins:List (Addr×Obj)) (s:Shared) (σ:St) (H:Hp) (x:V) (v:Value) (Q:Bool->Hp->Prop),Inv X pins σ H s->RelV x v->r x H Q->
  wpAny (model X.prog X.w) X.A (truthy v) (TP X pins σ Q) X.xe s
def Mn (r:R2)(ta tb:TE):TE:=λσ H Q=>ta σ H λx H1=>tb σ H1 λy H2=>r x y H2 Q
def Ou (r:V->Hp->VK->Prop)(ta:TE):TE:=λσ H Q=>ta σ H λx H1=>r x H1 Q
def rI (C:Int->Int->Prop)(g:Int->Int->V):R2:=λx y H Q=>∃i j,x=.int i/\y=.int j/\C i j/\Q (g i j) H
def vV (g:Int->Int->V):R2:=λx y H Q=>∃i j,x=.int i/\y=.int j/\Q (g i j) H
def rU (g:Int->V):V->Hp->VK->Prop:=λx H Q=>∃i,x=.int i/\Q (g i) H
section
variable {X:Cx}{a b c:Expr}{ta tb tc:TE}{pos:Pos}
def JD (ha:PE X a ta)(hb:PE X b tb){pins:List (Addr×Obj)}{s:Shared}{σ:St}{H:Hp}{R:V->V->Hp->Prop}(I:Inv X pins σ H s)
  (h:ta σ H λx H1=>tb σ H1 λy H2=>R x y H2) {Q:Value->Shared->Prop} {f:Value->Value->Sem Value}
  (hf:∀v u s2 x y H2,Inv X pins σ H2 s2->RelV x v->RelV y u->R x y H2->wpAny (model X.prog X.w) X.A (f v u) Q X.xe s2) :
  wpAny (model X.prog X.w) X.A (eval a X.env) (λv s₁=>wpAny (model X.prog X.w) X.A (eval b X.env) (λu s₂=>wpAny (model X.prog X.w) X.A (f v u) Q X.xe s₂) X.xe s₁) X.xe s:=by
 refine cO (ha pins s σ H _ I h) λv s1 ⟨x,H1,I1,r1,q1⟩=>?_
 refine cO (hb pins s1 σ H1 _ I1 q1) λu s2 ⟨y,H2,I2,r2,q2⟩=>?_
 exact hf v u s2 x y H2 I2 r1 r2 q2
def tT {op:Operator}{r:R2}(ho:mT X (binaryOp op) r)(ha:PE X a ta)(hb:PE X b tb):PE X (.BinOp a op b pos) (Mn r ta tb):=by
 intro pins s σ H Q I h
 exact wpAny_BinOp (JD ha hb I h λv u s2 x y H2 I2 rx ry q=>ho pins s2 σ H2 x y v u Q I2 rx ry q)
def LO {op:UnaryOp}{r:V->Hp->VK->Prop}(ho:Mv X (unaryOp op) r)(ha:PE X a ta):PE X (.UnaryOp op a pos) (Ou r ta):=by
 intro pins s σ H Q I h
 exact UnaryOp_ (cO (ha pins s σ H _ I h) λv s1 ⟨x,H1,I1,r1,q1⟩=>ho pins s1 σ H1 x v Q I1 r1 q1)
def My {f:Value->Value->Sem Value}{C:Int->Int->Prop}{g:Int->Int->Int}
  (rule:∀(i j:Int) (t u:Tok) (s:Shared) (Q:Value->Shared->Prop) (E:Value->Shared->Prop),C i j->Q (.int (g i j) s.toks) {s with toks:=s.toks + 1}->wpAny (model X.prog X.w) X.A (f (.int i t) (.int j u)) Q E s) :
  mT X f (rI C λi j=>.int (g i j)):=by
 intro pins s σ H x y v u Q I rx ry h
 obtain⟨i,j,rfl,rfl,hc,q⟩:=h
 obtain⟨t,rfl⟩:=rx
 obtain⟨t',rfl⟩:=ry
 exact rule i j t t' s _ _ hc ⟨.int (g i j),H,I.tok _,⟨_,rfl⟩,q⟩
def FD {f:Value->Value->Sem Value}{g:Int->Int->Int}
  (rule:∀(i j:Int) (t u:Tok) (s:Shared) (Q:Value->Shared->Prop) (E:Value->Shared->Prop),Q (.int (g i j) s.toks) {s with toks:=s.toks + 1}->wpAny (model X.prog X.w) X.A (f (.int i t) (.int j u)) Q E s) :
  mT X f (vV λi j=>.int (g i j)):=by
 intro pins s σ H x y v u Q I rx ry h
 obtain⟨i,j,rfl,rfl,q⟩:=h
 obtain⟨t,rfl⟩:=rx
 obtain⟨t',rfl⟩:=ry
 exact rule i j t t' s _ _ ⟨.int (g i j),H,I.tok _,⟨_,rfl⟩,q⟩
def FX {f:Value->Value->Sem Value}{g:Int->Int->Bool}
  (rule:∀(i j:Int) (t u:Tok) (s:Shared) (Q:Value->Shared->Prop) (E:Value->Shared->Prop),Q (.bool (g i j)) s->wpAny (model X.prog X.w) X.A (f (.int i t) (.int j u)) Q E s) :
  mT X f (vV λi j=>.bl (g i j)):=by
 intro pins s σ H x y v u Q I rx ry h
 obtain⟨i,j,rfl,rfl,q⟩:=h
 obtain⟨t,rfl⟩:=rx
 obtain⟨t',rfl⟩:=ry
 exact rule i j t t' s _ _ ⟨.bl (g i j),H,I,rfl,q⟩
def FN (i j:Int):Prop:=0 < j/\j < 1073741824
def Kc (i j:Int):Prop:=0<=j/\j<=1000000/\i.natAbs < 2 ^ 64
def Ei (i j:Int):Prop:=(-(2 ^ 64) < i/\i < 2 ^ 64)\/(-(2 ^ 64) < j/\j < 2 ^ 64)
def Ei.ok {i j:Int}(h:Ei i j):IntMulOk i j:=by
 rcases h with⟨h1,h2⟩ | ⟨h1,h2⟩
 ·exact .of_left (intBits_le_64 h1 h2)
 ·exact .of_right (intBits_le_64 h1 h2)
def j5:mT X (binaryOp .Add) (vV λi j=>.int (i + j)):=FD λ_ _ _ _ _ _ _ q=>add_int q
def y9:mT X (binaryOp .Sub) (vV λi j=>.int (i - j)):=FD λ_ _ _ _ _ _ _ q=>sub_int q
def l5:mT X (binaryOp .Mult) (rI Ei λi j=>.int (i * j)):=My λ_ _ _ _ _ _ _ hc q=>mul_int q hc.ok
def uY:mT X (binaryOp .FloorDiv) (rI FN λi j=>.int (i / j)):=My λi j _ _ _ _ _ hc q=>by
 have h1:(0:Int) < j:=hc.1
 have h2:j < 1073741824:=hc.2
 exact floordiv_int (by omega) (by rw[Int.fdiv_eq_ediv_of_nonneg i (by omega)];exact q) (.inl (PyProof.noPylong_small (by omega)))
def nC:mT X (binaryOp .Mod) (rI (λ_ j=>0 < j) λi j=>.int (i % j)):=My λi j _ _ _ _ _ hc q=>by
 have h1:(0:Int) < j:=hc
 exact mod_int' (by omega) (by rw[Int.fmod_eq_emod_of_nonneg i (by omega)];exact q)
def CS:mT X (binaryOp .LShift) (rI Kc λi j=>.int (i * 2 ^ j.toNat)):=My λ_ _ _ _ _ _ _ hc q=>lshift_int_small hc.1 hc.2.1 hc.2.2 q
def Ik:mT X (binaryOp .BitAnd) (vV λi j=>.int (Builtin.bitAnd i j)):=FD λ_ _ _ _ _ _ _ q=>and_int q
def HI:mT X (binaryOp .BitOr) (vV λi j=>.int (Builtin.bitOr i j)):=FD λ_ _ _ _ _ _ _ q=>or_int q
def OA {f:Value->Sem Value}{g:Int->Int}
  (rule:∀(i:Int) (t:Tok) (s:Shared) (Q:Value->Shared->Prop) (E:Value->Shared->Prop),Q (.int (g i) s.toks) {s with toks:=s.toks + 1}->wpAny (model X.prog X.w) X.A (f (.int i t)) Q E s) :
  Mv X f (rU λi=>.int (g i)):=by
 intro pins s σ H x v Q I rx h
 obtain⟨i,rfl,q⟩:=h
 obtain⟨t,rfl⟩:=rx
 exact rule i t s _ _ ⟨.int (g i),H,I.tok _,⟨_,rfl⟩,q⟩
def qi:Mv X (unaryOp .USub) (rU λi=>.int (-i)):=OA λ_ _ _ _ _ q=>neg_int q
end
section
variable {X:Cx}{a b c:Expr}{ta tb tc:TE}{pos:Pos}
def tX:mT X (compareOp .Lt) (vV λi j=>.bl (decide (i < j))):=FX λ_ _ _ _ _ _ _ q=>lt_int q
def C4:mT X (compareOp .LtE) (vV λi j=>.bl (decide (i<=j))):=FX λ_ _ _ _ _ _ _ q=>le_int q
def LR:mT X (compareOp .Gt) (vV λi j=>.bl (decide (j < i))):=FX λ_ _ _ _ _ _ _ q=>gt_int q
def KZ:mT X (compareOp .GtE) (vV λi j=>.bl (decide (j<=i))):=FX λ_ _ _ _ _ _ _ q=>ge_int q
def bw (b:Expr){op:CmpOp}(h:op≠.In:=by decide)(h2:op≠.NotIn:=by decide):behindInMarks op b=false:=by
 have e1:(op == CmpOp.In)=false:=by cases op <;> first |rfl |exact absurd rfl h
 have e2:(op == CmpOp.NotIn)=false:=by cases op <;> first |rfl |exact absurd rfl h2
 cases b <;> simp[behindInMarks,e1,e2]
def Gq {op:CmpOp}{r:R2}(ho:mT X (compareOp op) r)(ha:PE X a ta)(hb:PE X b tb)(hm:behindInMarks op b=false):PE X (.Compare a [op] [b] pos) (Mn r ta tb):=by
 intro pins s σ H Q I h
 exact wpAny_Compare1 (JD ha hb I h λv u s2 x y H2 I2 rx ry q=>ho pins s2 σ H2 x y v u Q I2 rx ry q) hm
def KA (t:TE):TT:=λσ H Q=>t σ H λx H'=>∃k,x=.bl k/\Q k H'
def GJ {op:CmpOp}{r:R2}(ho:mT X (compareOp op) r)(ha:PE X a ta)(hb:PE X b tb)(hm:behindInMarks op b=false):PT X (.Compare a [op] [b] pos) (KA (Mn r ta tb)):=by
 intro pins s σ H Q I h
 refine wpAny_isTrue_Compare1 (cO (ha pins s σ H _ I h) λv s1 ⟨x,H1,I1,r1,q1⟩=>cO (hb pins s1 σ H1 _ I1 q1) λu s2 ⟨y,H2,I2,r2,q2⟩=>
  cO (ho pins s2 σ H2 x y v u _ I2 r1 r2 q2) λc s3 ⟨z,H3,I3,r3,k,e,q3⟩=>?_) hm
 subst e
 cases r3
 exact Qa ⟨H3,I3,q3⟩
def J6 (r r':R2)(ta tb tc:TE):TE:=λσ H Q=>ta σ H λx H1=>tb σ H1 λy H2=>r x y H2 λz H3=>∃k,z=.bl k/\
 (if k=true then tc σ H3 λw' H4=>r' y w' H4 Q else Q (.bl false) H3)
theorem CF {op op':CmpOp}{r r':R2}(ho:mT X (compareOp op) r)(ho':mT X (compareOp op') r')(ha:PE X a ta)(hb:PE X b tb)(hc:PE X c tc)
  (hm:lastMarks [op,op'] [b,c]=false:=by with_unfolding_all rfl):PE X (.Compare a [op,op'] [b,c] pos) (J6 r r' ta tb tc):=by
 intro pins s σ H Q I h
 refine Compare_chain (cO (ha pins s σ H _ I h) λv s1 ⟨x,H1,I1,r1,q1⟩=>chain_link (cO (hb pins s1 σ H1 _ I1 q1) λu s2 ⟨y,H2,I2,r2,q2⟩=>
  cO (ho pins s2 σ H2 x y v u _ I2 r1 r2 q2) λd s3 ⟨z,H3,I3,r3,k,e,q3⟩=>?_)) hm
 subst e
 cases r3
 refine Qa ?_
 cases k with
 |false=>exact ite_ff ⟨.bl false,H3,I3,rfl,q3⟩
 |true=>exact ite_tt (chain_last (cO (hc pins s3 σ H3 _ I3 q3) λw' s4 ⟨z',H4,I4,r4,q4⟩=>ho' pins s4 σ H4 y z' u w' Q I4 r2 r4 q4))
def L1 (K:Frag)(x:V)(H:Hp)(k:Bool):Prop:=
 match x with
 | .non=>k=false
 | .bl b=>k=b
 | .int i=>k=(i != 0)
 | .str y=>y.length<=sizeLine/\k=((y.length:Int) != 0)
 | .byt y=>y.size<=sizeLine/\k=((y.size:Int) != 0)
 | .ref p=>(∃xs,iF K H p xs/\k= !xs.isEmpty)\/(∃xs,gA K H p xs/\k= !xs.isEmpty)\/∃kvs,H p=some (.dK kvs)/\k= !kvs.isEmpty
 |_=>False
def yg {κ:Type}{kvs:List (κ×V)}{vs:List (κ×Value)}(r:KV kvs vs):(!vs.isEmpty)= !kvs.isEmpty:=by
 cases r <;> rfl
def rB {xs:List V}{its:List Value}(r:Vals xs its):(!its.toArray.isEmpty)= !xs.isEmpty:=by
 cases r <;> simp
def oG:(sizeLine:Nat) < 2 ^ 63:=by rw[PJ];decide
theorem Iq:MZ X (λx H Q=>∃k,L1 X.K x H k/\Q k H):=by
 intro pins s σ H x v Q I rx h
 obtain⟨k,e,q⟩:=h
 have hl:=oG
 have hs:sizeLine=16777216:=PJ
 cases x with
 |non=>
  cases rx
  have e':k=false:=e
  subst e'
  exact truthy_none ⟨H,I,q⟩
 |bl b=>
  cases rx
  have e':k=b:=e
  subst e'
  exact Qa ⟨H,I,q⟩
 |int i=>
  obtain⟨t,rfl⟩:=rx
  have e':k=(i != 0):=e
  subst e'
  exact PySem.P.truthy_int ⟨H,I,q⟩
 |str y=>
  obtain⟨t,rfl⟩:=rx
  obtain⟨hy,e'⟩:y.length<=sizeLine/\k=((y.length:Int) != 0):=e
  subst e'
  exact PySem.P.truthy_str (by omega) ⟨H,I.tok _,q⟩
 |byt y=>
  obtain⟨t,rfl⟩:=rx
  obtain⟨hy,e'⟩:y.size<=sizeLine/\k=((y.size:Int) != 0):=e
  subst e'
  exact PySem.W.truthy_bytes (by omega) ⟨H,I.tok _,q⟩
 |ref p=>
  cases rx
  have e':(∃xs,iF X.K H p xs/\k= !xs.isEmpty)\/(∃xs,gA X.K H p xs/\k= !xs.isEmpty)\/∃kvs,H p=some (.dK kvs)/\k= !kvs.isEmpty:=e
  rcases e' with⟨xs,hx,e'⟩ | ⟨xs,hx,e'⟩ | ⟨kvs,hx,e'⟩
  ·subst e'
   obtain⟨its,r,pl,hz⟩:=I.list hx
   have hlen:=r.length
   exact wpAny_truthy_list pl.isList (by simp only[O1];omega) ⟨H,I.tok _,by rw[rB r];exact q⟩
  ·subst e'
   obtain⟨its,r,pl,hz⟩:=I.tuple hx
   have hlen:=r.length
   exact truthy_tuple pl (by simp only[O1];omega) ⟨H,I.tok _,by rw[rB r];exact q⟩
  ·subst e'
   obtain⟨hz,hS,vs,r,m⟩:kvs.length<=sizeLine/\(p == sysModules)=false/\∃vs,KV kvs vs/\s.heap.DictOf (vf X.prog X.w) p vs:=I.hok p _ hx
   have hlen:kvs.length=vs.length:=Paired.length r
   exact wpAny_truthy_dict hS m (by omega) ⟨H,I.tok _,by rw[yg r];exact q⟩
 |_=>exact (show False from e).elim
def CK (ha:PE X a ta)(he:∀whole,isTrue a X.env whole=(do let v <-whole;standAt a.pos;holding [v] (truthy v))) :
  PT X a (λσ H Q=>ta σ H λx H'=>∃k,L1 X.K x H' k/\Q k H'):=by
 intro pins s σ H Q I h
 exact isTrue_plain (cO (ha pins s σ H _ I h) λv s1 ⟨x,H1,I1,r1,q1⟩=>Iq pins s1 σ H1 x v Q I1 r1 q1) (he _)
theorem vals1 {x:V}{us:List Value}(r:Vals [x] us):∃u,us= [u]/\RelV x u:=by
 cases r with
 |cons r1 r2=>cases r2;exact⟨_,rfl,r1⟩
theorem vals2 {x y:V}{us:List Value}(r:Vals [x,y] us):∃u w',us= [u,w']/\RelV x u/\RelV y w':=by
 cases r with
 |cons r1 r2=>
  cases r2 with
  |cons r3 r4=>cases r4;exact⟨_,_,rfl,r1,r3⟩
def AU (hc:X.calm=true):fU X (.builtin "max") (λxs H Q=>∃i j,xs= [.int i,.int j]/\Q (.int (if j > i then j else i)) H):=by
 intro pins s σ H xs us Q I r h
 obtain⟨i,j,rfl,q⟩:=h
 obtain⟨u,w',rfl,⟨t,rfl⟩,⟨t',rfl⟩⟩:=vals2 r
 refine max_two_ints (I.ok.hd hc) λh' tk k=>⟨_,H,I.kept k,?_,q⟩
 by_cases hj:j > i
 ·rw[OO hj,OO hj];exact⟨_,rfl⟩
 ·rw[OV hj,OV hj];exact⟨_,rfl⟩
def BE (hc:X.calm=true):fU X (.builtin "min") (λxs H Q=>∃i j,xs= [.int i,.int j]/\Q (.int (if j < i then j else i)) H):=by
 intro pins s σ H xs us Q I r h
 obtain⟨i,j,rfl,q⟩:=h
 obtain⟨u,w',rfl,⟨t,rfl⟩,⟨t',rfl⟩⟩:=vals2 r
 refine min_two_ints (I.ok.hd hc) λh' tk k=>⟨_,H,I.kept k,?_,q⟩
 by_cases hj:j < i
 ·rw[OO hj,OO hj];exact⟨_,rfl⟩
 ·rw[OV hj,OV hj];exact⟨_,rfl⟩
def KS (K:Frag)(x:V)(H:Hp)(n:Nat):Prop:=
 match x with
 | .str y=>y.length<=sizeLine/\n=y.length
 | .byt y=>y.size<=sizeLine/\n=y.size
 | .ref p=>(∃xs,iF K H p xs/\n=xs.length)\/∃xs,gA K H p xs/\n=xs.length
 |_=>False
theorem cc:fU X (.builtin "len") (λxs H Q=>∃x n,xs= [x]/\KS X.K x H n/\Q (.int n) H):=by
 intro pins s σ H xs us Q I r h
 obtain⟨x,n,rfl,e,q⟩:=h
 obtain⟨u,rfl,rx⟩:=vals1 r
 have hl:=oG
 have hs:sizeLine=16777216:=PJ
 cases x with
 |str y=>
  obtain⟨t,rfl⟩:=rx
  obtain⟨hy,e'⟩:y.length<=sizeLine/\n=y.length:=e
  subst e'
  exact len_str (by omega) ⟨.int _,H,I.tok _,⟨_,rfl⟩,q⟩
 |byt y=>
  obtain⟨t,rfl⟩:=rx
  obtain⟨hy,e'⟩:y.size<=sizeLine/\n=y.size:=e
  subst e'
  exact PySem.W.len_bytes (by omega) ⟨.int _,H,I.tok _,⟨_,rfl⟩,q⟩
 |ref p=>
  cases rx
  have e':(∃xs,iF X.K H p xs/\n=xs.length)\/∃xs,gA X.K H p xs/\n=xs.length:=e
  rcases e' with⟨xs,hx,e'⟩ | ⟨xs,hx,e'⟩
  ·subst e'
   obtain⟨its,r',pl,hz⟩:=I.list hx
   have hlen:=r'.length
   exact Calls.call_len_list pl.isList (by simp only[O1];omega) ⟨.int xs.length,H,I.tok _,⟨_,by simp only[O1];rw[hlen]⟩,q⟩
  ·subst e'
   obtain⟨its,r',pl,hz⟩:=I.tuple hx
   have hlen:=r'.length
   exact len_tuple pl (by simp only[O1];omega) ⟨.int xs.length,H,I.tok _,⟨_,by simp only[O1];rw[hlen]⟩,q⟩
 |_=>exact (show False from e).elim
def xO:fU X (.builtin "divmod") (λxs H Q=>∃i j,xs= [.int i,.int j]/\FN i j/\∀p,H p=none->Q (.ref p) (upd H p (.tup [.int (i / j),.int (i % j)]))):=by
 intro pins s σ H xs us Q I r h
 obtain⟨i,j,rfl,⟨h1,h2⟩,q⟩:=h
 obtain⟨u,w',rfl,⟨t,rfl⟩,⟨t',rfl⟩⟩:=vals2 r
 refine divmod_int (by omega) ?_ (.inl (PyProof.noPylong_small (by omega)))
 rw[Int.fdiv_eq_ediv_of_nonneg i (by omega),Int.fmod_eq_emod_of_nonneg i (by omega)]
 have hn:H s.heap.objs.size=none:=I.hok.fresh (ON _)
 refine⟨.ref s.heap.objs.size,_,?_,rfl,q _ hn⟩
 refine I.laid (λb o e=>OL _ e) (ON _) ⟨by simp only[Pf,List.length_nil];rw[PJ];decide,[.int (i / j) s.toks,.int (i % j) (s.toks + 1)],.cons ⟨_,rfl⟩ (.cons ⟨_,rfl⟩ .nil),?_⟩
 exact⟨_,O0 s.heap rfl,rfl,0,rfl,rfl⟩
end
structure JW (h:Heap)(x dx C:Addr)(mA:Str->Option Value):Prop where
 obj:h.get? x=some (PySem.W.instObj C dx)
 ns:h.Ns1 dx mA
 ne:dx≠x
def Bk {h:Heap}{dx:Addr}{mA:Str->Option Value}(n:h.Ns1 dx mA):∃od,h.get? dx=some od/\∀name,PySem.W.lookIn name od=some (mA name):=by
 obtain⟨o,es,ep,ho,hd,hk,_,hm⟩:=n
 refine⟨o,ho,λname=>?_⟩
 have e:=hm name
 unfold nsFind findBy at e
 rw[<-Array.find?_toList] at e
 unfold PySem.W.lookIn
 rw[hd]
 dsimp only
 split
 ·rename_i y q
  rw[q] at e
  exact congrArg some e
 ·rename_i q
  rw[q] at e
  have a:es.toList.any (·.refKey)=false:=by
   rw[List.any_eq_false]
   intro y hy
   obtain⟨z,t,hkey⟩:=hk y (Array.mem_toList_iff.mp hy)
   simp[DictEntry.refKey,hkey]
  have a':¬es.toList.any (·.refKey)=true:=by rw[a];exact O8
  rw[OV a']
  exact congrArg some e
def JW.look {h:Heap}{x dx C:Addr}{mA:Str->Option Value}(I:JW h x dx C mA):∃od,PySem.W.InstAt h x (PySem.W.instObj C dx) C (some od)/\∀name,PySem.W.lookIn name od=some (mA name):=
 let ⟨od,ho,hl⟩:=Bk I.ns
 ⟨od,⟨I.obj,rfl,rfl,ho⟩,hl⟩
section
variable {P:Program}{w:World}{H H':Hp}{h h':Heap}{a C dx:Addr}{fs fs':List (Str×V)}
def Ga (hok:nI P w H h)(e:H a=some (.ins C dx fs)):∃mA,JW h a dx C mA/\(∀f,Ey (fs.lookup f) (mA f))/\PySem.Within mA (fs.map (·.1))/\fs.length<=1000/\H dx=some (.own a):=by
 obtain⟨d,z,ne,ob,mA,n,r,q⟩:=(show dB P w H h a (.ins C dx fs) from hok a _ e)
 exact⟨mA,⟨ob,n,ne⟩,r,q,z,d⟩
end
structure NU (K:Frag)(C:Addr):Prop where
 pg:PySem.W.plainGet K C Str.empty=true
 hd:PySem.W.hasDictIn K C=true
 po:PySem.W.plainOver K C=true
 sa:PySem.W.findIn K (.ref C) "__setattr__"=some (some (.builtin "object.__setattr__"))
def NU.get {K:Frag}{C:Addr}(c:NU K C)(f:Str):PySem.W.plainGet K C f=true:=c.pg
section
variable {X:Cx}{pins:List (Addr×Obj)}{σ:St}{H:Hp}{s:Shared}{A:Around}{E:Value->Shared->Prop}{Q:Value->Shared->Prop}{c:Value}{b:Bool}
inductive pC (K:Frag)(H:Hp):V->Value->Prop where
 |non:pC K H .non (.type "NoneType")
 |bl (x:Bool):pC K H (.bl x) (.type "bool")
 |int (i:Int):pC K H (.int i) (.type "int")
 |str (x:Str):pC K H (.str x) (.type "str")
 |flt (x:UInt64):pC K H (.flt x) (.type "float")
 |lst {a:Addr} {xs:List V} (e:H a=some (.lst xs)):pC K H (.ref a) (.type "list")
 |a9 {a:Addr} {o:Obj} {xs:List V} (e:H a=some (.a9 o (.lst xs))):pC K H (.ref a) (.type "list")
 |tup {a:Addr} {xs:List V} (e:H a=some (.tup xs)):pC K H (.ref a) (.type "tuple")
 |dK {a:Addr} {kvs:List (Key×V)} (e:H a=some (.dK kvs)):pC K H (.ref a) (.type "dict")
 |dT {a:Addr} {kvs:List (List Key×V)} (e:H a=some (.dT kvs)):pC K H (.ref a) (.type "dict")
 |ins {a C dx:Addr} {fs:List (Str×V)} (e:H a=some (.ins C dx fs)) (cl:NU K C) (ha:PySem.W.findIn K (.ref C) "__class__"=some (some (.builtin "object.__class__")))
   (hn:PySem.W.specialIn K (.builtin "object.__class__") "__get__"=some (some (.builtin "getset_descriptor.__get__"))) (htk:PySem.W.takesIn K (.builtin "object.__class__")=some true)
   (hm:PySem.W.mroIn K C (.type "object")=some true):pC K H (.ref a) (.ref C)
theorem kc {x:V}{u t:Value}(I:Inv X pins σ H s)(rx:RelV x u)(ty:pC X.K H x t)(e:PySem.W.kitOne X.K t c=some b)(h:∀tk,Q (.bool b) {s with toks:=tk}) :
  wpAny (model X.prog X.w) A (call (.builtin "isinstance") [u,c]) Q E s:=by
 cases ty with
 |non=>cases (show u=Value.none from rx);exact PQ PySem.W.kitx_none I.kIn True.intro e (λz=>nomatch z) h
 |bl y=>cases (show u=Value.bool y from rx);exact PQ PySem.W.kitx_bool I.kIn True.intro e (λz=>nomatch z) h
 |int i=>obtain⟨t,q⟩:=(show ∃t,u=Value.int i t from rx);cases q;exact PQ PySem.W.kitx_int I.kIn True.intro e (λz=>nomatch z) h
 |str y=>obtain⟨t,q⟩:=(show ∃t,u=Value.str y t from rx);cases q;exact PQ PySem.W.kitx_str I.kIn True.intro e (λz=>nomatch z) h
 |flt y=>obtain⟨t,q⟩:=(show ∃t,u=Value.float y t from rx);cases q;exact PQ PySem.W.kitx_float I.kIn True.intro e (λz=>nomatch z) h
 | @lst a xs ea=>
  cases (show u=Value.ref a from rx)
  obtain⟨_,_,n,_,h1⟩:=(show dB X.prog X.w H s.heap a (.lst xs) from I.hok a _ ea)
  exact PQ PySem.W.kitx_list I.kIn ⟨_,h1,rfl⟩ e (λz=>nomatch z) h
 | @a9 a ob xs ea=>
  cases (show u=Value.ref a from rx)
  obtain⟨_,_,_,n,_,h1⟩:=(show dB X.prog X.w H s.heap a (.a9 ob (.lst xs)) from I.hok a _ ea)
  exact PQ PySem.W.kitx_list I.kIn ⟨_,h1,rfl⟩ e (λz=>nomatch z) h
 | @tup a xs ea=>
  cases (show u=Value.ref a from rx)
  obtain⟨_,_,_,p⟩:=(show dB X.prog X.w H s.heap a (.tup xs) from I.hok a _ ea)
  obtain⟨o,h1,h2,_⟩:=p
  exact PQ PySem.W.kitx_tuple I.kIn ⟨o,h1,h2⟩ e (λz=>nomatch z) h
 | @dK a kvs ea=>
  cases (show u=Value.ref a from rx)
  obtain⟨_,_,vs,_,p⟩:=(show dB X.prog X.w H s.heap a (.dK kvs) from I.hok a _ ea)
  obtain⟨o,es,ep,h1,h2,_⟩:=p
  exact PQ PySem.W.kitx_dict I.kIn ⟨o,h1,h2.1⟩ e (λz=>nomatch z) h
 | @dT a kvs ea=>
  cases (show u=Value.ref a from rx)
  obtain⟨_,_,xs,_,o,es,ep,h1,h2,_⟩:=(show dB X.prog X.w H s.heap a (.dT kvs) from I.hok a _ ea)
  exact PQ PySem.W.kitx_dict I.kIn ⟨o,h1,h2.1⟩ e (λz=>nomatch z) h
 | @ins a C dx fs ea cl ha hn htk hm=>
  cases (show u=Value.ref a from rx)
  obtain⟨mA,O,_⟩:=Ga I.hok ea
  obtain⟨od,J,_⟩:=O.look
  exact PQ (PySem.W.kitx_own (cl.get _) cl.hd ha hn htk hm) I.kIn J e (λz=>nomatch z) h
end
structure dW (k:Nat)(A:Around):Prop where
 hd:A.handled=none
 dp:A.depth + 3 * k + 5 < recursionLimit
 un:A.units + 16 * k + 200 < cLine
 gd:A.guards=some []
def dW.mono {j k:Nat}{A:Around}(r:dW k A)(h:j<=k):dW j A:=⟨r.hd,by have:=r.dp;omega,by have:=r.un;omega,r.gd⟩
def dW.deeper {k:Nat}{A:Around}(r:dW (k + 1) A)(env:Env):dW k (A.deeper env):=
 ⟨r.hd,by have:=r.dp;show A.depth + 1 + 3 * k + 5 < _;omega,by have:=r.un;show A.units + 3 + 16 * k + 200 < _;omega,r.gd⟩
def dW.in1 {k:Nat}{A:Around}(r:dW (k + 1) A):dW k A.in1:=
 ⟨r.hd,by have:=r.dp;show A.depth + 3 * k + 5 < _;omega,by have:=r.un;show A.units + 1 + 16 * k + 200 < _;omega,r.gd⟩
def dW.depth {k:Nat}{A:Around}(r:dW k A):A.depth < recursionLimit:=by have:=r.dp;omega
def dW.units {k:Nat}{A:Around}(r:dW k A):A.units + 64 < cLine:=by have:=r.un;omega
def Fu:TA:=λ_ H Q=>Q [] H
def Ae (ta:TE)(tr:TA):TA:=λσ H Q=>ta σ H λx H1=>tr σ H1 λxs H2=>Q (x :: xs) H2
section
variable {X:Cx}{e:Expr}{es:List Expr}{te:TE}{t:TA}{pos:Pos}
def bV:PA X [] Fu:=λ_ _ _ _ H Q I h=>Calls.spliced_nil ⟨[],H,I,.nil,h⟩
def a8 (ha:PE X e te)(hr:PA X es t)(hs:starEach (e :: es) X.env=(false,eval e X.env) :: starEach es X.env:=by rfl):PA X (e :: es) (Ae te t):=by
 intro pos pins s σ H Q I h
 rw[hs]
 show wpAny _ _ (spliced ((false,eval e X.env) :: backTo pos (starEach es X.env))) _ _ s
 refine Calls.spliced_cons (cO (ha pins s σ H _ I h) λu s1 ⟨x,H1,I1,r1,q1⟩=>?_)
 exact cO (hr pos pins s1 σ H1 _ I1 q1) λus s2 ⟨xs,H2,I2,r2,q2⟩=>⟨x :: xs,H2,I2,.cons r1 r2,q2⟩
def NR (t:TA):TE:=λσ H Q=>t σ H λxs H1=>xs.length<=sizeLine/\∀p,H1 p=none->Q (.ref p) (upd H1 p (.tup xs))
def NX (t:TA):TE:=λσ H Q=>t σ H λxs H1=>xs.length<=sizeLine/\∀p,H1 p=none->Q (.ref p) (upd H1 p (.lst xs))
def yH {x1}(h:PA X es t):PE X (.Tuple es x1 pos) (NR t):=by
 intro pins s σ H Q I hq
 refine wpAny_Tuple_spliced (cO (h pos pins s σ H _ I hq) λus s1 ⟨xs,H1,I1,r,z,q⟩=>⟨by rw[<-r.length];exact z,?_⟩)
 have hf:H1 s1.heap.objs.size=none:=I1.hok.fresh (ON _)
 refine⟨.ref s1.heap.objs.size,upd H1 s1.heap.objs.size (.tup xs),I1.laid (t':=s1.toks) (λb u e=>OL _ e) (ON _) ?_,rfl,q _ hf⟩
 exact⟨z,us,r,rM.new _ _⟩
def C1 (h:PA X es t):PE X (.List es pos) (NX t):=by
 intro pins s σ H Q I hq
 refine wpAny_List_spliced (cO (h pos pins s σ H _ I hq) λus s1 ⟨xs,H1,I1,r,z,q⟩=>⟨by rw[<-r.length];exact z,?_⟩)
 have hf:H1 s1.heap.objs.size=none:=I1.hok.fresh (ON _)
 refine⟨.ref s1.heap.objs.size,upd H1 s1.heap.objs.size (.lst xs),I1.laid (t':=s1.toks) (λb u e=>OL _ e) (ON _) ?_,rfl,q _ hf⟩
 exact⟨z,us,0,r,O0 _ rfl⟩
end
abbrev Sp:=List V->Hp->VK->XK->Prop
abbrev BO:=List Env->Hp->Shared->XK->Value->Shared->Prop
structure yd (P:Program)(w:World)(K:Frag)(mg:Str->Option Value)(base:Heap)(A:Around)(outer:List Env)(s:Shared)(H:Hp):Prop where
 frames:A.frames=some outer
 mod:Mod K mg base
 bs:∀b o,base.get? b=some o->s.heap.get? b=some o/\H b=none
 bsz:base.objs.size<=s.heap.objs.size
 funs:s.heap.FunFrames base outer
 frf:∀b∈j8 outer,H b=none
 hok:nI P w H s.heap
 bare:AllBare s.gens
def CE (outer:List Env)(P:Program)(w:World)(H:Hp)(s:Shared)(Q:VK)(u:Value)(s':Shared):Prop:=
 ∃v H',s'.os=s.os/\AllBare s'.gens/\Un (j8 outer) [] H H' s.heap s'.heap/\nI P w H' s'.heap/\RelV v u/\Q v H'
def CR (CX:BO)(outer:List Env)(P:Program)(w:World)(H:Hp)(s:Shared)(Q:VK)(E:XK)(r:Result)(s':Shared):Prop:=
 match r with
 | .ok (.ret u)=>CE outer P w H s Q u s'
 | .ok _=>False
 | .error e=>CX outer H s E e s'
structure fA (P:Program)(w:World)(K:Frag)(mg:Str->Option Value)(base:Heap)(CX:BO)(k:Nat)(f:Addr)(fd:FuncData)(ps:List Str)(sp:Sp):Prop where
 len:∀vs H Q E,sp vs H Q E->vs.length=ps.length
 run:∀(A:Around) (outer:List Env) (s:Shared) (H:Hp) (args:Args) (us:List Value) (vs:List V) (Q:VK) (E:XK),dW k A->yd P w K mg base A outer s H->BindsTo s fd args (ps.zip us)->Vals vs us->sp vs H Q E->
  codeAny (model P w) A (.call (.ref f) args) (CR CX outer P w H s Q E) s
def fA.mono {P:Program}{w:World}{K:Frag}{mg:Str->Option Value}{base:Heap}{CX:BO}{j k:Nat}{f:Addr}{fd:FuncData}{ps:List Str}{sp:Sp}(F:fA P w K mg base CX j f fd ps sp)(h:j<=k) :
  fA P w K mg base CX k f fd ps sp:=⟨F.len,λA outer s H args us vs Q E hr=>F.run A outer s H args us vs Q E (hr.mono h)⟩
def fA.imp {P:Program}{w:World}{K:Frag}{mg:Str->Option Value}{base:Heap}{CX:BO}{k:Nat}{f:Addr}{fd:FuncData}{ps:List Str}{sp sp':Sp}(F:fA P w K mg base CX k f fd ps sp)
  (h:∀vs H Q E,sp' vs H Q E->sp vs H Q E):fA P w K mg base CX k f fd ps sp':=
 ⟨λvs H Q E q=>F.len vs H Q E (h _ _ _ _ q),λA outer s H args us vs Q E hr he hb hv hs=>F.run A outer s H args us vs Q E hr he hb hv (h _ _ _ _ hs)⟩
def yd.in1 {P:Program}{w:World}{K:Frag}{mg:Str->Option Value}{base:Heap}{A:Around}{outer:List Env}{s:Shared}{H:Hp}(e:yd P w K mg base A outer s H) :
  yd P w K mg base A.in1 outer s H:=⟨e.frames,e.mod,e.bs,e.bsz,e.funs,e.frf,e.hok,e.bare⟩
section
variable {X:Cx}{pins:List (Addr×Obj)}{σ:St}{H:Hp}{s s':Shared}
def Inv.env0 (I:Inv X pins σ H s):yd X.prog X.w X.K X.mg X.base X.A X.stack s H:=
 ⟨I.ok.frames,I.ok.mod,I.bs,Pz I.ok.bsz I.sz,I.stack,I.stkFree,I.hok,I.bare⟩
def Inv.after {Q:VK}{u:Value}(I:Inv X pins σ H s)(h:CE X.stack X.prog X.w H s Q u s'):EP X pins σ Q u s':=by
 obtain⟨v,H',os,bare,un,hok,r,q⟩:=h
 obtain⟨hh,g,d,t,os'⟩:=s'
 obtain rfl:os'=s.os:=os
 exact⟨v,H',I.call (h':=hh) (g':=g) (d':=d) (t':=t) (ch:=[]) un hok bare (λb z=>absurd z (by simp)),r,q⟩
end
def Kr (sp:Sp)(dvs:List V)(E:XK)(t:TA):TE:=λσ H Q=>t σ H λvs H1=>sp (vs ++ dvs) H1 Q E
def Binds (K:Frag)(fd:FuncData)(ps:List Str)(ds:List Value):Prop:=
 ∀(s:Shared) (us:List Value),K.In s.heap->(us ++ ds).length=ps.length->BindsTo s fd ⟨us,[]⟩ (ps.zip (us ++ ds))
def Binds.all {K:Frag}{fd:FuncData}{ps:List Str}(h:∀us:List Value,us.length=ps.length->bindArgs fd ⟨us,[]⟩=pure (ps.zip us)):Binds K fd ps []:=λs us _ hl=>by
 rw[P2] at hl ⊢
 exact .of_eq (h us hl)
def Passes (CX:BO)(X:Cx)(E:XK):Prop:=∀(pins:List (Addr×Obj)) (σ:St) (H:Hp) (s:Shared) (e:Value) (s':Shared),Inv X pins σ H s->CX X.stack H s E e s'->X.xe e s'
section
variable {X:Cx}{CX:BO}{k:Nat}{f C:Addr}{fd:FuncData}{ps:List Str}{sp:Sp}{dvs:List V}{ds:List Value}{E:XK}{x m:Str}{p pos apos:Pos}{e o:Expr}{es:List Expr}{ta:TE}{t:TA}
theorem JM {pins:List (Addr×Obj)}{σ:St}{H:Hp}{s:Shared}{Q:VK}{us:List Value}{vs:List V}(F:fA X.prog X.w X.K X.mg X.base CX k f fd ps sp)(hr:dW k X.A)(hb:Binds X.K fd ps ds)(hd:Vals dvs ds)(hx:Passes CX X E)
  (I:Inv X pins σ H s) (r:Vals vs us) (h:sp (vs ++ dvs) H Q E):wpAny (model X.prog X.w) X.A (call (.ref f) us) (EP X pins σ Q) X.xe s:=by
 have r2:Vals (vs ++ dvs) (us ++ ds):=r.append hd
 have hl:(us ++ ds).length=ps.length:=by rw[<-r2.length];exact F.len _ _ _ _ h
 refine wpAny_call (Rb (F.run X.A X.stack s H ⟨us,[]⟩ (us ++ ds) (vs ++ dvs) Q E hr I.env0 (hb s us I.kIn hl) r2 h) λr s' hq=>?_)
 cases r with
 |error e=>exact hx pins σ H s e s' I hq
 |ok fl=>
  cases fl with
  |ret u=>exact I.after hq
  |next=>exact False.elim hq
  |brk=>exact False.elim hq
  |cont=>exact False.elim hq
def mP (F:fA X.prog X.w X.K X.mg X.base CX k f fd ps sp)(hr:dW k X.A)(hg:Gl X x)(hm:X.mg x=some (.ref f))(hk:PySem.W.keepIn X.K (.ref f)=true)(hb:Binds X.K fd ps ds)(hd:Vals dvs ds)(hx:Passes CX X E)
  (ha:PA X (e :: es) t) (hdb:(x == ("__debug__":Str))=false:=by decide) (he:starEach (e :: es) X.env=(false,eval e X.env) :: starEach es X.env:=by rfl) (hpl:(backTo pos (starEach es X.env)).any (·.1)=false:=by rfl) :
  PE X (.Call (.Name x p) (e :: es) [] pos) (Kr sp dvs E t):=by
 intro pins s σ H Q I h
 refine Rf (va I hg hm ?_ hdb)
 refine PySem.W.callWith_K (h₀:=X.base) I.ok.mod.kin hk (cO (ha pos pins s σ H _ I h) λus s1 ⟨vs,H1,I1,r,q⟩=>⟨I1.kIn,?_⟩) he hpl
 exact JM F hr hb hd hx I1 r q
end
def PK (X:Cx)(kws:List Keyword)(t:TA):Prop:=
 ∀(pos:Pos) (pins:List (Addr×Obj)) (s:Shared) (σ:St) (H:Hp) (Q:List V->Hp->Prop),Inv X pins σ H s->t σ H Q->wpAny (model X.prog X.w) X.A (evalAll ((backToKw pos (keywordEach kws X.env)).map (·.2))) (AP X pins σ Q) X.xe s
section
variable {X:Cx}{CX:BO}{k:Nat}{f C:Addr}{fd:FuncData}{ps ks:List Str}{sp:Sp}{E:XK}{x m:Str}{p pos apos kpos:Pos}{e o:Expr}{es:List Expr}{kws:List Keyword}{te ta:TE}{t tk:TA}{nm:Option Str}
def Jc:PK X [] Fu:=λ_ _ _ _ H Q I h=>wpAny_evalAll_nil ⟨[],H,I,.nil,h⟩
def G6 (ha:PE X e te)(hr:PK X kws t):PK X (⟨nm,e,kpos⟩ :: kws) (Ae te t):=by
 intro pos pins s σ H Q I h
 show wpAny _ _ (evalAll ((do let v <-eval e X.env;standAt pos;pure v) :: (backToKw pos (keywordEach kws X.env)).map (·.2))) _ _ s
 refine wpAny_evalAll_cons (OT (cO (ha pins s σ H _ I h) λu s1 ⟨x,H1,I1,r1,q1⟩=>OT (wpAny_standAt (Pl ?_))))
 exact cO (hr pos pins s1 σ H1 _ I1 q1) λus s2 ⟨xs,H2,I2,r2,q2⟩=>⟨x :: xs,H2,I2,.cons r1 r2,q2⟩
variable {g:List Value->List Value->List Value}{gV:List V->List V->List V}
end
structure aH (N P:List Str)(sc:Scope):Prop where
 kind:sc.kind=.function
 co:sc.isCoroutine=false
 gen:sc.isGenerator=false
 nd:N.Nodup
 pre:N.take P.length=P
 par:∀x∈P,sc.names.lookup x=some .local\/sc.names.lookup x=some .cell
 nofree:∀y∈sc.names,y.2≠.free
theorem tx {kindOf:Str->Option NameKind}{x:Str}:∀{binds:List (Str×Value)} {m:Str->Option Value},(∀v,(x,v)∉binds)->bindL kindOf binds m x=m x
 | [],_,_=>rfl
 | (n,v) :: r,m,h=>by
  unfold bindL
  rw[tx λw hw=>h w (OS _ hw)]
  split
  ·have:x≠n:=by rintro rfl;exact h v OU
   simp[this]
  ·rfl
theorem tM {kindOf:Str->Option NameKind}{x:Str}:∀{binds:List (Str×Value)} {m:Str->Option Value},(∀v,(x,v)∉binds)->bindC kindOf binds m x=m x
 | [],_,_=>rfl
 | (n,v) :: r,m,h=>by
  unfold bindC
  rw[tM λw hw=>h w (OS _ hw)]
  split
  ·rfl
  ·have:x≠n:=by rintro rfl;exact h v OU
   simp[this]
theorem ub {kindOf:Str->Option NameKind}{x:Str}{v:Value}:∀{P:List Str} {vs:List Value} {i:Nat} {m:Str->Option Value},P.Nodup->P[i]? =some x->vs[i]? =some v->kindOf x=some .local->
  bindL kindOf (P.zip vs) m x=some v
 | [],_,_,_,_,h,_,_=>by simp at h
 |_ :: _,[],_,_,_,_,h,_=>by simp at h
 |p :: P,w :: vs,0,m,nd,h1,h2,hk=>by
  simp at h1 h2;subst h1;subst h2
  show bindL kindOf ((p,w) :: P.zip vs) m p=_
  unfold bindL
  rw[tx λv hv=>(PR.mp nd).1 (List.of_mem_zip hv).1,OO hk]
  simp
 |p :: P,w :: vs,i + 1,m,nd,h1,h2,hk=>by
  show bindL kindOf ((p,w) :: P.zip vs) m x=_
  unfold bindL
  exact ub (i:=i) (PR.mp nd).2 (by simpa using h1) (by simpa using h2) hk
theorem tu {kindOf:Str->Option NameKind}{x:Str}{v:Value}:∀{P:List Str} {vs:List Value} {i:Nat} {m:Str->Option Value},P.Nodup->P[i]? =some x->vs[i]? =some v->kindOf x≠some .local->
  bindC kindOf (P.zip vs) m x=some v
 | [],_,_,_,_,h,_,_=>by simp at h
 |_ :: _,[],_,_,_,_,h,_=>by simp at h
 |p :: P,w :: vs,0,m,nd,h1,h2,hk=>by
  simp at h1 h2;subst h1;subst h2
  show bindC kindOf ((p,w) :: P.zip vs) m p=_
  unfold bindC
  rw[tM λv hv=>(PR.mp nd).1 (List.of_mem_zip hv).1,OV hk]
  simp
 |p :: P,w :: vs,i + 1,m,nd,h1,h2,hk=>by
  show bindC kindOf ((p,w) :: P.zip vs) m x=_
  unfold bindC
  exact tu (i:=i) (PR.mp nd).2 (by simpa using h1) (by simpa using h2) hk
def start (N:List Str)(vs:List V):St:=vs.map some ++ List.replicate (N.length - vs.length) none
def lD (CX:BO)(P:Program)(w:World)(K:Frag)(mg:Str->Option Value)(base:Heap)(N:List Str)(qual:Str)(scope:Scope)(f:Addr)(cd:Value)(A:Around)(outer:List Env)(s:Shared)(H:Hp)(E:XK):Cx where
 prog:=P
 w:=w
 K:=K
 mg:=mg
 base:=base
 A:=A.deeper (envOfC qual scope s.heap.objs.size f cd)
 N:=N
 s₀:=s
 H₀:=H
 env:=envOfC qual scope s.heap.objs.size f cd
 outer:=outer
 stack:=envOfC qual scope s.heap.objs.size f cd :: outer
 ex:=[]
 calm:=true
 fn:=λ_=>true
 pn:=[]
 xe:=λe s'=>wpAny (model P w) (A.deeper (envOfC qual scope s.heap.objs.size f cd)) (leaving (envOfC qual scope s.heap.objs.size f cd) e) (λ_ s''=>CX outer H s E e s'') (λe' s''=>CX outer H s E e' s'') s'
def xX {sc:Scope}{n:Nat}{x:Str}(h:sc.names.lookup x=some .cell):∃c,(cellsFrom n sc.names []).lookup x=some c:=by
 have q:=PySem.W.cellsFrom_some sc.names n [] (.inl h)
 exact Option.isSome_iff_exists.mp q
def Bo {CX:BO}{P:Program}{w:World}{K:Frag}{mg:Str->Option Value}{base:Heap}{N ps:List Str}{qual:Str}{scope:Scope}{f:Addr}{cd:Value}{A:Around}{outer:List Env}{s s1:Shared}{H:Hp}{E:XK}{us:List Value}{vs:List V}
  (S:aH N ps scope) (hd:A.handled=none) (e0:yd P w K mg base A outer s H) (hl:vs.length=ps.length) (r:Vals vs us)
  (x:InCallC s s.heap.objs.size (bindL (envOfC qual scope s.heap.objs.size f cd).kindOf (ps.zip us) λ_=>none) (cellsFrom (s.heap.objs.size + 1) scope.names []) (bindC (envOfC qual scope s.heap.objs.size f cd).kindOf (ps.zip us) λ_=>none) s1) :
  Inv (lD CX P w K mg base N qual scope f cd A outer s H E) [] (start N vs) H s1:=by
 have hpl:ps.length<=N.length:=by have:=congrArg List.length S.pre;rw[PZ] at this;omega
 obtain⟨h1,tk,rfl,hk⟩:=x.done
 have noA:∀b:Addr,b∉(lD CX P w K mg base N qual scope f cd A outer s H E).ex:=λb z=>absurd (show b∈([]:List Addr) from z) (by simp)
 refine⟨⟨e0.mod,S.kind,rfl,rfl,ON _,λy z c h1 h2=>?_,λy hy=>?_,λy c _ h=>?_,λ_=>hd,Around.frames_deeper e0.frames,.inr ⟨rfl,rfl⟩,λb z=>absurd z (noA b),e0.bs,e0.bsz,λb _ _=>noA b,λb z=>absurd z (noA b),e0.funs,e0.frf⟩,
  rfl,e0.bare,Un.kept hk,⟨_,x.toInCall.ns,λi y v h1 h2 h3=>?_⟩,λy c h=>⟨_,x.cell y c h⟩,e0.hok.fresh (ON _),λy c h=>?_,λp hp=>absurd (show p∈([]:List (Addr×Obj)) from hp) (by simp),e0.hok.kept hk,?_⟩
 ·exact name_of_addr x.apart (PY h1) (PY h2)
 ·have hy:scope.names.lookup y=some .cell\/scope.names.lookup y=some .free:=hy
  rcases hy with hy |hy
  ·exact xX hy
  ·exact absurd rfl (S.nofree _ (PY hy))
 ·exact QE (x.above y c (PY h))
 ·have hi:i < vs.length:=by
   unfold start at h2
   by_cases hi:i < vs.length
   ·exact hi
   ·rw[Pj (by simpa using hi)] at h2
    rw[P6] at h2
    split at h2 <;> cases h2
  have ha:vs[i]? =some v:=by
   unfold start at h2
   rw[Pg (by simpa using hi),OW] at h2
   cases e:vs[i]? with
   |none=>rw[e] at h2;cases h2
   |some a=>rw[e] at h2;cases h2;rfl
  obtain⟨u,hu,rv⟩:=r.get ha
  have hp:ps[i]? =some y:=by
   rw[<-S.pre,List.getElem?_take_of_lt (by omega)];exact h1
  have ndP:ps.Nodup:=by rw[<-S.pre];exact S.nd.sublist (List.take_sublist _ _)
  refine⟨u,rv,?_⟩
  rcases S.par y (Pb hp) with k |k
  ·exact .inl ⟨k,ub ndP hp hu k⟩
  ·obtain⟨c,e⟩:=xX (n:=s.heap.objs.size + 1) k
   refine .inr ⟨.inl k,c,e,?_⟩
   have q:=x.cell y c e
   rw[tu ndP hp hu (by show scope.names.lookup y≠_;rw[k];decide)] at q
   exact q
 ·exact e0.hok.fresh (QE (x.above y c (PY h)))
 ·unfold start
  show _=N.length
  rw[OX,OK,PU]
  omega
theorem C0 {CX:BO}{P:Program}{w:World}{K:Frag}{mg:Str->Option Value}{base:Heap}{k:Nat}{f:Addr}{name qual:Str}{params:Arguments}{body:List Stmt}{scope:Scope}{dV kV doc pm cdv ct oc:Value}{an od:Option Addr}
  {osl:Array (Option Value)} {N ps:List Str} {sp:Sp} (lk:K.lookup f=some ⟨oc,od,.func (PySem.W.fnOf name qual params body scope dV kV doc pm an cdv ct),osl⟩) (hcd:PySem.W.codeIn K cdv qual=true) (S:aH N ps scope)
  (len:∀vs H Q E,sp vs H Q E->vs.length=ps.length)
  (hbody:∀(A:Around) (outer:List Env) (s:Shared) (H:Hp) (vs:List V) (Q:VK) (E:XK),dW k (A.deeper (envOfC qual scope s.heap.objs.size f cdv))->sp vs H Q E->
   ∃t,rR (lD CX P w K mg base N qual scope f cdv A outer s H E) body t/\t {nx:=λ_ H'=>Q .non H',rt:=Q} (start N vs) H) :
  fA P w K mg base CX (k + 1) f (PySem.W.fnOf name qual params body scope dV kV doc pm an cdv ct) ps sp:=by
 refine⟨len,λA outer s H args us vs Q E hr e0 hb r hsp=>?_⟩
 have hl:=len _ _ _ _ hsp
 have KX:K.In s.heap:=e0.mod.kin.keeps λb o e=>(e0.bs b o e).1
 have lim:s.heap.NoLimit:=e0.mod.nolimit.keeps λb o e=>(e0.bs b o e).1
 have hkind:∀y∈ps.zip us,scope.names.lookup y.1=some .local\/(scope.names.lookup y.1=some .cell/\((cellsFrom (s.heap.objs.size + 1) scope.names []).lookup y.1).isSome=true):=λ⟨n,v⟩ hy=>by
  rcases S.par n (List.of_mem_zip hy).1 with q |q
  ·exact .inl q
  ·exact .inr ⟨q,PySem.W.cellsFrom_some _ _ _ (.inl q)⟩
 refine codeAny_call_function hr.depth (KX _ _ lk) rfl S.co S.gen rfl (PySem.W.codeRec_of KX hcd) (hb _ _ _ _ ?_)
 refine wpAny_newFunctionEnv_cells S.kind hkind λenv he s1 x=>?_
 subst he
 refine⟨lim.keeps x.toInCall.keep,codeAny_func ?_⟩
 obtain⟨t,ht,hq⟩:=hbody A outer s H vs Q E (hr.deeper _) hsp
 have I:Inv (lD CX P w K mg base N qual scope f cdv A outer s H E) [] (start N vs) H s1:=Bo S hr.hd e0 hl r x
 refine P9 (ht [] s1 (start N vs) H _ I hq) (λfl s' hs=>?_) λe s' hs=>hs
 have fin:∀{σ':St} {H':Hp} {v:V} {u:Value},Inv (lD CX P w K mg base N qual scope f cdv A outer s H E) [] σ' H' s'->RelV v u->Q v H'->CE outer P w H s Q u s':=
  λ{σ' H' v u} J rv q=>⟨v,H',J.os,J.bare,J.base,J.hok,rv,q⟩
 cases fl with
 |ret u=>
  obtain⟨v,σ',H',J,rv,q⟩:=hs
  exact fin J rv q
 |next=>
  obtain⟨σ',H',J,q⟩:=hs
  exact fin (v:=V.non) (u:=Value.none) J rfl q
 |brk=>
  obtain⟨_,_,_,q⟩:=hs
  exact False.elim q
 |cont=>
  obtain⟨_,_,_,q⟩:=hs
  exact False.elim q
section
variable {X:Cx}{x:Str}{p pos:Pos}{e:Expr}{es:List Expr}{t:TA}{id T:String}{r:List V->Hp->VK->Prop}
def N9 (r:List V->Hp->VK->Prop)(t:TA):TE:=λσ H Q=>t σ H λvs H1=>r vs H1 Q
def lK (hc:fU X (.builtin id) r)(hg:Gl X x)(hm:X.mg x=none)(hv:bootBuiltins x=some (.builtin id))(ha:PA X (e :: es) t)(hn:x≠"__name__":=by decide)(hdb:(x == ("__debug__":Str))=false:=by decide)
  (he:starEach (e :: es) X.env=(false,eval e X.env) :: starEach es X.env:=by rfl) (hpl:(backTo pos (starEach es X.env)).any (·.1)=false:=by rfl):PE X (.Call (.Name x p) (e :: es) [] pos) (N9 r t):=by
 intro pins s σ H Q I h
 refine Rf (lX I hg hm hv ?_ hn hdb)
 exact PyProof.Rows.callWith_builtin1 (cO (ha pos pins s σ H _ I h) λus s1 ⟨vs,H1,I1,r1,q1⟩=>hc pins s1 σ H1 vs us Q I1 r1 q1) he hpl
def j9 (hc:fU X (.type T) r)(hg:Gl X x)(hm:X.mg x=none)(hv:bootBuiltins x=some (.type T))(ha:PA X (e :: es) t)(hn:x≠"__name__":=by decide)(hdb:(x == ("__debug__":Str))=false:=by decide)
  (he:starEach (e :: es) X.env=(false,eval e X.env) :: starEach es X.env:=by rfl) (hpl:(backTo pos (starEach es X.env)).any (·.1)=false:=by rfl):PE X (.Call (.Name x p) (e :: es) [] pos) (N9 r t):=by
 intro pins s σ H Q I h
 refine Rf (lX I hg hm hv ?_ hn hdb)
 exact Qr (cO (ha pos pins s σ H _ I h) λus s1 ⟨vs,H1,I1,r1,q1⟩=>hc pins s1 σ H1 vs us Q I1 r1 q1) he hpl
end
end L2
namespace HT
open PySem PyProof.Rows
section
open PySem.SeqAt
open PySem.AutoSeq1 (wpAny_loadPart')
open PySem.MeetsSeq PySem.MeetsSeq2 PySem.MeetsSeq3
end
section
variable {prog:Program}{w:World}{A:Around}{E:Value->Shared->Prop}{s:Shared}
def EI {t b:Addr}{vs ws:List Value}{Q:Value->Shared->Prop}(ht:IsTup s.heap t vs.toArray)(hb:IsTup s.heap b ws.toArray)(hv:vs≠ [])
  (h1:ws= []->Q (.ref t) s) (h2:ws≠ []->Q (.ref s.heap.objs.size) {s with heap:=s.heap.push {cls:=.type "tuple",data:=.seq (vs ++ ws).toArray}})
  (hsz:vs.length + ws.length<=sizeLine):wpAny (model prog w) A (binaryOp .Add (.ref t) (.ref b)) Q E s:=by
 obtain⟨⟨cls,dd,data,sl⟩,ho,hc,n,hd⟩:=id ht
 obtain⟨⟨cls2,dd2,data2,sl2⟩,ho2,hc2,n2,hd2⟩:=id hb
 simp only at hc hd hc2 hd2
 subst hc hd hc2 hd2
 have e:vs.toArray ++ ws.toArray=(vs ++ ws).toArray:=by simp
 by_cases hw:ws= []
 ·exact concat_meets ⟨_,ho,rfl⟩ ⟨_,ho2,rfl⟩ noFill_tuple_add seq_tuple_add PySem.F.slot_tuple_add PySem.F.entry_tuple_add (Rg _ _)
   (tuple_addW1 t b vs.toArray ws.toArray n n2 dd dd2 sl sl2 (by simpa using hv) (by simp[hw])) ⟨ho,ho2,h1 hw⟩
 ·refine concat_meets ⟨_,ho,rfl⟩ ⟨_,ho2,rfl⟩ noFill_tuple_add seq_tuple_add PySem.F.slot_tuple_add PySem.F.entry_tuple_add (Rg _ _)
   (tuple_addW2 t b vs.toArray ws.toArray n n2 dd dd2 sl sl2 (by simpa using hv) (by simpa using hw) (by rw[O1,O1];exact hsz)) ⟨ho,ho2,?_⟩
  rw[e]
  exact h2 hw
def sU (n d:Nat):Option Int->Nat
 |none=>d
 |some v=>if v < 0 then (v + (n:Int)).toNat else min v.toNat n
def wF (n d:Nat):sU n d none=d:=rfl
def zF (n d k:Nat):sU n d (some (k:Int))=min k n:=by
 show (if (k:Int) < 0 then ((k:Int) + (n:Int)).toNat else min (k:Int).toNat n)=min k n
 rw[OV (by omega),Pu]
end
end HT
namespace L2
open PySem PySem.Spec PyProof.Rows
abbrev TO:=St->Hp->(Option Int->Hp->Prop)->Prop
def PO (X:Cx)(e:Option Expr)(t:TO):Prop:=
 ∀(pins:List (Addr×Obj)) (s:Shared) (σ:St) (H:Hp) (Q:Option Int->Hp->Prop),Inv X pins σ H s->t σ H Q->
  wpAny (model X.prog X.w) X.A (evalPart e X.env) (λu s'=>∃o H',Inv X pins σ H' s'/\IsPart u o/\Q o H') X.xe s
def EL:TO:=λ_ H Q=>Q none H
def Mi (t:TE):TO:=λσ H Q=>t σ H λx H1=>∃i,x=.int i/\Q (some i) H1
theorem intsAre_of {ns:List Int}:∀{us:List Value},Vals (ns.map V.int) us->IntsAre us ns:=by
 induction ns with
 |nil=>intro us r;rw[List.map_nil] at r;cases r;exact .nil
 |cons n ns ih=>
  intro us r
  rw[PH] at r
  cases r with
  |cons r1 r2=>
   obtain⟨t,e⟩:=r1
   subst e
   exact .cons n t (ih r2)
section
variable {X:Cx}{e:Expr}{te:TE}{lo hi:Option Expr}{tl th:TO}{pos p2:Pos}
def Hf:PO X none EL:=by
 intro pins s σ H Q I h
 rw[evalPart_none]
 exact Pl ⟨none,H,I,.none,h⟩
def FK (h:PE X e te):PO X (some e) (Mi te):=by
 intro pins s σ H Q I hw
 rw[evalPart_some]
 refine cO (h pins s σ H _ I hw) λu s1 ⟨x,H1,I1,r1,q1⟩=>?_
 obtain⟨i,rfl,q⟩:=q1
 obtain⟨t,rfl⟩:=r1
 exact⟨some i,H1,I1,.int i t,q⟩
def N7 (X:Cx)(r:V->Option Int->Option Int->Hp->VK->Prop):Prop:=
 ∀(pins:List (Addr×Obj)) (s:Shared) (σ:St) (H:Hp) (x:V) (v vl vu:Value) (lo hi:Option Int) (sl:Addr) (Q:VK),Inv X pins σ H s->RelV x v->s.heap.IsSliceOf sl vl vu .none->IsPart vl lo->IsPart vu hi->r x lo hi H Q->
  ∃T id,typeLookup (.type T) "__getitem__"=pure (some (.builtin id))/\s.TypeIs v T/\wpAny (model X.prog X.w) X.A (getItem v (.ref sl)) (EP X pins σ Q) X.xe s
def Oo (r:V->Option Int->Option Int->Hp->VK->Prop)(te:TE)(tl th:TO):TE:=λσ H Q=>te σ H λx H1=>tl σ H1 λl H2=>th σ H2 λu H3=>r x l u H3 Q
def DG {r:V->Option Int->Option Int->Hp->VK->Prop}(hr:N7 X r)(he:PE X e te)(hl:PO X lo tl)(hu:PO X hi th):PE X (.Subscript e (.Slice lo hi none p2) pos) (Oo r te tl th):=by
 intro pins s σ H Q I h
 refine Subscript_ (cO (he pins s σ H _ I h) λv s1 ⟨x,H1,I1,r1,q1⟩=>?_)
 refine wpAny_Slice (cO (hl pins s1 σ H1 _ I1 q1) λvl s2 ⟨l,H2,I2,pl,q2⟩=>cO (hu pins s2 σ H2 _ I2 q2) λvu s3 ⟨u,H3,I3,pu,q3⟩=>?_)
 rw[evalPart_none]
 refine Pl ?_
 have I4:Inv X pins σ H3 {s3 with heap:=s3.heap.push {cls:=.type "slice",data:=.fields #[vl,vu,.none]}}:=I3.kept (t':=s3.toks) λb ob q=>OL _ q
 obtain⟨T,id,hT,ht,hg⟩:=hr pins {s3 with heap:=s3.heap.push {cls:=.type "slice",data:=.fields #[vl,vu,.none]}} σ H3 x v vl vu l u s3.heap.objs.size Q I4 r1 (Heap.IsSliceOf.new ..) pl pu q3
 show wpAny (model X.prog X.w) X.A (subscriptTail e (.Slice lo hi none p2) v (.ref s3.heap.objs.size)) (EP X pins σ Q) X.xe {s3 with heap:=s3.heap.push {cls:=.type "slice",data:=.fields #[vl,vu,.none]}}
 exact tail_any (ops:=[.ref s3.heap.objs.size,v]) ht hT hg (by with_unfolding_all rfl)
def yC (xs:List V)(lo hi:Option Int):List V:=(xs.drop (HT.sU xs.length 0 lo)).take (HT.sU xs.length xs.length hi - HT.sU xs.length 0 lo)
def wD (xs:List V)(lo hi:Option Int):(yC xs lo hi).length<=xs.length:=by
 unfold yC
 rw[PZ,length_drop]
 omega
def KY (K:Frag):R2:=λx y H Q=>∃a b xs ys,x=.ref a/\y=.ref b/\gA K H a xs/\gA K H b ys/\xs≠ []/\xs.length + ys.length<=sizeLine/\
 (ys= []->Q (.ref a) H)/\(ys≠ []->∀p,H p=none->Q (.ref p) (upd H p (.tup (xs ++ ys))))
theorem Vals.nil_iff {xs:List V}{us:List Value}(r:Vals xs us):us= []↔xs= []:=by
 cases r with
 |nil=>simp
 |cons _ _=>simp
def Gw:mT X (binaryOp .Add) (KY X.K):=by
 intro pins s σ H x y v u Q I rx ry h
 obtain⟨a,b,xs,ys,rfl,rfl,ha,hb,hx,hz,q1,q2⟩:=h
 cases rx
 cases ry
 obtain⟨its,r1,p1,_⟩:=I.tuple ha
 obtain⟨its2,r2,p2,_⟩:=I.tuple hb
 refine HT.EI p1 p2 (λz=>hx (r1.nil_iff.mp z)) (λz=>⟨.ref a,H,I,rfl,q1 (r2.nil_iff.mp z)⟩) (λz=>?_) (by rw[<-r1.length,<-r2.length];exact hz)
 refine⟨.ref s.heap.objs.size,_,I.laid (t':=s.toks) (o:=.tup (xs ++ ys)) (λb ob q=>OL _ q) (ON _) ?_,rfl,q2 (λw=>z (r2.nil_iff.mpr w)) _ (I.hok.fresh (ON _))⟩
 exact⟨by rw[OX];exact hz,_,r1.append r2,rM.new _ _⟩
end
def tD (n:Nat)(i:Int):Option Nat:=if 0<=i then (if i < n then some i.toNat else none) else if -(n:Int)<=i then some (i + n).toNat else none
def ki {α:Type}(xs:List α)(i:Int):Option α:=(tD xs.length i).bind λj=>xs[j]?
def Ah {n:Nat}{i:Int}{j:Nat}(h:tD n i=some j):seqIndex? i n=some j/\j < n/\ -(n:Int)<=i/\i < n:=by
 unfold tD at h
 by_cases h0:0<=i
 ·rw[OO h0] at h
  by_cases h1:i < n
  ·rw[OO h1] at h
   have e:i.toNat=j:=Option.some.inj h
   exact⟨by rw[seqIndex_of h0 h1,e],by omega,by omega,h1⟩
  ·rw[OV h1] at h;cases h
 ·rw[OV h0] at h
  by_cases h1: -(n:Int)<=i
  ·rw[OO h1] at h
   have e:(i + n).toNat=j:=Option.some.inj h
   exact⟨by rw[seqIndex_neg (by omega) h1,e],by omega,h1,by omega⟩
  ·rw[OV h1] at h;cases h
theorem vJ {α:Type}{xs:List α}{i:Int}{v:α}(h:ki xs i=some v):∃j,seqIndex? i xs.length=some j/\xs[j]? =some v/\j < xs.length/\ -(xs.length:Int)<=i/\i < xs.length:=by
 unfold ki at h
 cases e:tD xs.length i with
 |none=>rw[e] at h;cases h
 |some j=>
  rw[e] at h
  obtain⟨h1,h2,h3,h4⟩:=Ah e
  exact⟨j,h1,h,h2,h3,h4⟩
def jz {α:Type}{xs:List α}{j:Nat}{v:α}(h:xs[j]? =some v):ki xs (j:Int)=some v:=by
 have hj:j < xs.length:=(OQ.mp h).1
 have e:tD xs.length (j:Int)=some j:=by
  unfold tD
  rw[OO (by omega),OO (by omega)];simp
 unfold ki;rw[e];exact h
def Au (b:Expr):Prop:=∀o i,subscripted b false o i=operate [o,i] (getItem o i)
def CU (X:Cx)(r:R2):Prop:=
 ∀(value slice:Expr) (pins:List (Addr×Obj)) (s:Shared) (σ:St) (H:Hp) (x y:V) (v u:Value) (Q:VK),Inv X pins σ H s->RelV x v->RelV y u->r x y H Q->
  subscripted slice false v u=operate [v,u] (getItem v u)->wpAny (model X.prog X.w) X.A (subscriptTail value slice v u) (EP X pins σ Q) X.xe s
def Oy (X:Cx)(id:String)(r:V->List V->Hp->VK->Prop):Prop:=
 ∀(pins:List (Addr×Obj)) (s:Shared) (σ:St) (H:Hp) (x:V) (xs:List V) (v:Value) (us:List Value) (Q:VK),Inv X pins σ H s->RelV x v->Vals xs us->r x xs H Q->
  wpAny (model X.prog X.w) X.A (call (.builtin id) (v :: us)) (EP X pins σ Q) X.xe s
section
variable {X:Cx}{a b:Expr}{ta tb:TE}{pos:Pos}
def CU.or {r r':R2}(h:CU X r)(h':CU X r'):CU X (λx y H Q=>r x y H Q\/r' x y H Q):=by
 intro value slice pins s σ H x y v u Q I rx ry q hs
 rcases q with q |q
 ·exact h value slice pins s σ H x y v u Q I rx ry q hs
 ·exact h' value slice pins s σ H x y v u Q I rx ry q hs
def m6 {r:R2}(hr:CU X r)(ha:PE X a ta)(hb:PE X b tb)(hs:Au b):PE X (.Subscript a b pos) (Mn r ta tb):=by
 intro pins s σ H Q I h
 exact Subscript_ (JD ha hb I h λv u s2 x y H2 I2 rx ry q=>hr a b pins s2 σ H2 x y v u Q I2 rx ry q (hs _ _))
def IV (K:Frag):R2:=λx y H Q=>∃p xs i v,x=.ref p/\y=.int i/\iF K H p xs/\ki xs i=some v/\Q v H
def Ma (K:Frag):R2:=λx y H Q=>∃p xs i v,x=.ref p/\y=.int i/\gA K H p xs/\ki xs i=some v/\Q v H
def Lz:R2:=λx y H Q=>∃z i c,x=.str z/\y=.int i/\z.length<=sizeLine/\ki z.cps.toList i=some c/\Q (.str ⟨#[c]⟩) H
def iW:CU X (IV X.K):=by
 intro value slice pins s σ H x y v u Q I rx ry h hs
 obtain⟨p,xs,i,z,rfl,rfl,hq,he,q⟩:=h
 cases rx
 obtain⟨t,rfl⟩:=ry
 obtain⟨its,r,pl,hz⟩:=I.list hq
 obtain⟨j,h1,h2,h3,h4,h5⟩:=vJ he
 obtain⟨w,ew,rw'⟩:=r.get h2
 have hl:=r.length
 have hn:=oG
 have fin:EP X pins σ Q w s:=⟨z,H,I,rw',q⟩
 by_cases h0:0<=i
 ·have hj:i.toNat=j:=by
   rw[seqIndex_of h0 h5] at h1
   exact Option.some.inj h1
  exact item_listR pl.isList h0 (by omega) (by rw[hj];simpa using ew) fin hs
 ·have hj:(i + (its.toArray.size:Int)).toNat=j:=by
   rw[seqIndex_neg (by omega) h4] at h1
   rw[O1,<-hl]
   exact Option.some.inj h1
  exact subscriptTail_builtinR (x:=w) pl.isList.typeIs slot_list_getitem.lookup
   (wpAny_getItem_list_neg (Q:=λr s'=>r=w/\EP X pins σ Q r s') pl.isList (by omega) (by rw[O1] <;> omega) (by omega) (by rw[hj];simpa using ew) ⟨rfl,fin⟩) hs
def Kb:CU X (Ma X.K):=by
 intro value slice pins s σ H x y v u Q I rx ry h hs
 obtain⟨p,xs,i,z,rfl,rfl,hq,he,q⟩:=h
 cases rx
 obtain⟨t,rfl⟩:=ry
 obtain⟨its,r,pl,hz⟩:=I.tuple hq
 obtain⟨j,h1,h2,h3,h4,h5⟩:=vJ he
 obtain⟨w,ew,rw'⟩:=r.get h2
 have hl:=r.length
 have hn:=oG
 have fin:EP X pins σ Q w s:=⟨z,H,I,rw',q⟩
 exact subscriptTail_builtinR (x:=w) pl.typeIs slot_tuple_getitem.lookup
  (getItem_tuple (j:=j) (Q:=λr s'=>r=w/\EP X pins σ Q r s') pl (by omega) (by omega) (by rw[O1,<-hl];exact h1) (by simpa using ew) ⟨rfl,fin⟩) hs
def Jt:CU X Lz:=by
 intro value slice pins s σ H x y v u Q I rx ry h hs
 obtain⟨z,i,c,rfl,rfl,hz,he,q⟩:=h
 obtain⟨t,rfl⟩:=rx
 obtain⟨t',rfl⟩:=ry
 obtain⟨j,h1,h2,h3,h4,h5⟩:=vJ he
 have hl:z.cps.toList.length=z.length:=by simp[Str.length]
 rw[hl] at h1 h4 h5
 have hn:=oG
 exact tail_any (typeIs_str s z t) slot_str_getitem.lookup (getItem_str (c:=c) (by
  have e1:decide (i < -(2 ^ 63:Int))=false:=OY (by omega)
  have e2:decide (i>=2 ^ 63)=false:=OY (by omega)
  rw[e1,e2,Bool.or_false]) (by rw[h1];simpa using h2) ⟨.str ⟨#[c]⟩,H,I.tok _,⟨_,rfl⟩,q⟩) hs
def Og (K:Frag):R2:=λx y H Q=>IV K x y H Q\/Ma K x y H Q\/Lz x y H Q
def aJ:CU X (Og X.K):=iW.or (Kb.or Jt)
def yK (its:List Value)(n j:Nat)(u:Value):Obj.mapSeq (·.setIfInBounds j u) {cls:=.type "list",data:=.seq its.toArray n}={cls:=.type "list",data:=.seq (its.set j u).toArray n}:=by
 simp[Obj.mapSeq]
def Inv.lst {pins:List (Addr×Obj)}{σ:St}{H:Hp}{s:Shared}{p:Addr}{xs:List V}(I:Inv X pins σ H s)(h:H p=some (.lst xs)) :
  ∃(its:List Value) (n:Nat),Vals xs its/\s.heap.get? p=some {cls:=.type "list",data:=.seq its.toArray n}/\xs.length<=sizeLine:=by
 obtain⟨z,its,n,r,e⟩:=I.hok p _ h
 exact⟨its,n,r,e,z⟩
def Inv.lstUpd {pins:List (Addr×Obj)}{σ:St}{H:Hp}{s:Shared}{p:Addr}{xs ys:List V}{its its':List Value}{n n':Nat}{f:Obj->Obj}(I:Inv X pins σ H s)(h:H p=some (.lst xs))
  (ho:s.heap.get? p=some {cls:=.type "list",data:=.seq its.toArray n}) (hf:f {cls:=.type "list",data:=.seq its.toArray n}={cls:=.type "list",data:=.seq its'.toArray n'}) (r:Vals ys its') (hz:ys.length<=sizeLine) (t:Nat) :
  Inv X pins σ (upd H p (.lst ys)) {s with heap:=s.heap.update p f,toks:=t}:=by
 have e:(s.heap.update p f).get? p=some {cls:=.type "list",data:=.seq its'.toArray n'}:=by
  rw[QY f ho (by rw[hf] <;> rfl),hf]
 refine I.write (x:=p) (e:=p) (by rw[h];trivial) (.inl rfl) (λb u hb q=>(P1 _ _ (Ne.symm hb)).trans q) ⟨_,e⟩ ?_
 exact⟨hz,its',n',r,e⟩
def KN:V->V->V->Hp->(Hp->Prop)->Prop:=λo i v H Q=>∃p xs k j,o=.ref p/\i=.int k/\H p=some (.lst xs)/\tD xs.length k=some j/\Q (upd H p (.lst (xs.set j v)))
def set_list:De X KN:=by
 intro pins s σ H o i v ov iv u Q I ro ri rv h
 obtain⟨p,xs,k,j,rfl,rfl,hp,hj,q⟩:=h
 cases ro
 obtain⟨t,rfl⟩:=ri
 obtain⟨its,n,r,ho,hz⟩:=I.lst hp
 obtain⟨h1,h2,h3,h4⟩:=Ah hj
 have hl:=r.length
 have hn:=oG
 have I':Inv X pins σ (upd H p (.lst (xs.set j v))) {s with heap:=s.heap.update p (Obj.mapSeq (·.setIfInBounds j u))}:=
  I.lstUpd hp ho (yK its n j u) (r.set rv j) (by rw[P8];exact hz) s.toks
 by_cases h0:0<=k
 ·have hk:k.toNat=j:=by
   rw[seqIndex_of h0 h4] at h1
   exact Option.some.inj h1
  exact PySem.W.ki_setAt ho h0 (by omega) (by rw[O1,<-hl];exact h4) (by rw[hk];exact⟨_,I',q⟩)
 ·have hk:(k + (its.toArray.size:Int)).toNat=j:=by
   rw[seqIndex_neg (by omega) h3] at h1
   rw[O1,<-hl]
   exact Option.some.inj h1
  exact PySem.W.ki_setBack ho (by omega) (by rw[O1,<-hl];exact h3) (by omega) (by rw[hk];exact⟨_,I',q⟩)
def vP (lo hi:Option Int)(n:Nat):(sliceBounds lo hi none n).1=((HT.sU n 0 lo:Nat):Int)/\(sliceBounds lo hi none n).2.1=((HT.sU n n hi:Nat):Int)/\(sliceBounds lo hi none n).2.2=1:=by
 refine⟨?_,?_,rfl⟩
 ·cases lo with
  |none=>simp[sliceBounds,HT.sU]
  |some i=>
   simp only[sliceBounds,HT.sU,Option.getD_none,show (1:Int) > 0 by decide,Qs]
   by_cases h:i < 0
   ·simp only[h,Qs] <;> omega
   ·simp only[h,Q4] <;> omega
 ·cases hi with
  |none=>simp[sliceBounds,HT.sU]
  |some i=>
   simp only[sliceBounds,HT.sU,Option.getD_none,show (1:Int) > 0 by decide,Qs]
   by_cases h:i < 0
   ·simp only[h,Qs] <;> omega
   ·simp only[h,Q4] <;> omega
def rS (its:List Value)(lo hi:Option Int):slicePick its.toArray lo hi none=((its.drop (HT.sU its.length 0 lo)).take (HT.sU its.length its.length hi - HT.sU its.length 0 lo)).toArray:=by
 obtain⟨h1,h2,h3⟩:=vP lo hi its.toArray.size
 unfold slicePick
 rw[h1,h2,h3]
 simp only[sliceRange_one,pick_run,O1] <;> rfl
def M7 (K:Frag):V->Option Int->Option Int->Hp->VK->Prop:=λx lo hi H Q=>∃a xs,x=.ref a/\iF K H a xs/\∀p,H p=none->Q (.ref p) (upd H p (.lst (yC xs lo hi)))
def FQ:N7 X (M7 X.K):=by
 intro pins s σ H x v vl vu lo hi sl Q I rx hs pl pu h
 obtain⟨a,xs,rfl,hx,q⟩:=h
 cases rx
 obtain⟨its,r,ht,hz⟩:=I.list hx
 have hlen:=r.length
 refine⟨"list",_,slot_list_getitem.lookup,ht.isList.typeIs,?_⟩
 refine wpAny_getItem_list_slice ht.isList hs pl pu .none (by simp) ?_ (by rw[O1] <;> omega)
 rw[rS,<-hlen]
 refine⟨.ref s.heap.objs.size,_,I.laid (t':=s.toks) (o:=.lst (yC xs lo hi)) (λb ob q=>OL _ q) (ON _) ?_,rfl,q _ (I.hok.fresh (ON _))⟩
 exact⟨Pz (wD xs lo hi) hz,_,0,(r.drop (HT.sU xs.length 0 lo)).take (HT.sU xs.length xs.length hi - HT.sU xs.length 0 lo),O0 _ rfl⟩
def vW:fU X (.type "list") (λxs H Q=>∃p ys,xs= [.ref p]/\(iF X.K H p ys\/gA X.K H p ys)/\∀l,H l=none->Q (.ref l) (upd H l (.lst ys))):=by
 intro pins s σ H xs us Q I r h
 obtain⟨p,ys,rfl,hq,q⟩:=h
 obtain⟨u,rfl,rx⟩:=vals1 r
 cases rx
 have fin:∀(its:List Value),Vals ys its->ys.length<=sizeLine->∀(h':Heap) (c':Nat),(∀b o',s.heap.get? b=some o'->h'.get? b=some o')->
   h'.get? s.heap.objs.size=some {cls:=.type "list",dict:=none,data:=.seq its.toArray c',slots:=#[]}->EP X pins σ Q (.ref s.heap.objs.size) {s with heap:=h'}:=λits r' hz h' c' kp e=>
  ⟨.ref s.heap.objs.size,_,I.laid (t':=s.toks) kp (ON _) (show dB X.prog X.w _ h' _ (.lst ys) from⟨hz,its,c',r',e⟩),rfl,q _ (I.hok.fresh (ON _))⟩
 rcases hq with hq |hq
 ·obtain⟨its,r',pl,hz⟩:=I.list hq
  have hlen:=r'.length
  obtain⟨o,ho,hc,n,hd⟩:=pl.isList
  exact call_list_seq p (.inl rfl) ho hc hd (λh' c' kp e=>fin its r' hz h' c' kp e) (by simp only[O1] <;> omega)
 ·obtain⟨its,r',pl,hz⟩:=I.tuple hq
  have hlen:=r'.length
  obtain⟨o,ho,hc,n,hd⟩:=pl
  exact call_list_seq p (.inr rfl) ho hc hd (λh' c' kp e=>fin its r' hz h' c' kp e) (by simp only[O1] <;> omega)
def cL:fU X (.type "tuple") (λxs H Q=>∃p ys,xs= [.ref p]/\((iF X.K H p ys/\∀l,H l=none->Q (.ref l) (upd H l (.tup ys)))\/(gA X.K H p ys/\Q (.ref p) H))):=by
 intro pins s σ H xs us Q I r h
 obtain⟨p,ys,rfl,h⟩:=h
 obtain⟨u,rfl,rx⟩:=vals1 r
 cases rx
 rcases h with⟨hq,q⟩ | ⟨hq,q⟩
 ·obtain⟨its,r',pl,hz⟩:=I.list hq
  have hlen:=r'.length
  refine call_tuple_list pl.isList (λh' kp=>?_) (by simp only[O1] <;> omega)
  have I1:Inv X pins σ H {s with heap:=h'}:=I.kept (t':=s.toks) kp
  have I2:Inv X pins σ (upd H h'.objs.size (.tup ys)) {s with heap:=h'.push {cls:=.type "tuple",data:=.seq its.toArray}}:=
   I1.laid (t':=s.toks) (λb o e=>OL _ e) (ON _) (show dB X.prog X.w _ _ _ (.tup ys) from⟨hz,its,r',rM.new _ _⟩)
  exact⟨.ref h'.objs.size,_,I2,rfl,q _ (I1.hok.fresh (ON _))⟩
 ·obtain⟨its,r',pl,hz⟩:=I.tuple hq
  exact call_tuple_same pl ⟨.ref p,H,I,rfl,q⟩
def Oe (K:Frag)(T:String)(x:V)(H:Hp):Prop:=match x with
 | .str _=>T="str"
 | .int _=>T="int"
 | .ref p=>(T="list"/\∃xs,iF K H p xs)\/(T="tuple"/\∃o,K.lookup p=some o/\o.cls=.type "tuple"/\o.dict=none)\/
   (T="dict"/\((∃kvs,H p=some (.dK kvs))\/∃kvs,H p=some (.dT kvs)))\/(T="set"/\∃S n,H p=some (.set S n))
 |_=>False
theorem JC {pins:List (Addr×Obj)}{σ:St}{H:Hp}{s:Shared}{T:String}{x:V}{v:Value}(I:Inv X pins σ H s)(r:RelV x v)(ty:Oe X.K T x H) :
  s.TypeIs v T/\∀a,v=.ref a->∃ob,s.heap.get? a=some ob/\ob.dict=none:=by
 cases x with
 |str z=>
  obtain⟨t,rfl⟩:=r
  cases (show T="str" from ty)
  exact⟨typeIs_str s z t,λ_ e=>nomatch e⟩
 |int i=>
  obtain⟨t,rfl⟩:=r
  cases (show T="int" from ty)
  exact⟨typeIs_int s i t,λ_ e=>nomatch e⟩
 |ref p=>
  cases r
  rcases ty with⟨rfl,xs,hq⟩ | ⟨rfl,o,hk,hc,hd⟩ | ⟨rfl,hk⟩ | ⟨rfl,S,n,hk⟩
  ·obtain⟨its,_,pl,_⟩:=I.list hq
   refine⟨pl.isList.typeIs,λa e=>?_⟩
   cases e
   obtain⟨o,n,e,c,hd,_⟩:=pl
   exact⟨o,e,hd⟩
  ·refine⟨⟨o,I.kIn p o hk,hc⟩,λa e=>?_⟩
   cases e
   exact⟨o,I.kIn _ o hk,hd⟩
  ·have z:∃o,s.heap.get? p=some o/\o.ExactDict:=by
    rcases hk with⟨kvs,hk⟩ | ⟨kvs,hk⟩
    ·obtain⟨_,_,_,_,o,_,_,e,ex,_⟩:=I.hok p _ hk
     exact⟨o,e,ex⟩
    ·obtain⟨_,_,_,_,o,_,_,e,ex,_⟩:=I.hok p _ hk
     exact⟨o,e,ex⟩
   obtain⟨o,e,ex⟩:=z
   refine⟨⟨o,e,ex.1⟩,λa e2=>?_⟩
   cases e2
   exact⟨o,e,ex.2.1⟩
  ·obtain⟨o,_,_,_,e,ex,_⟩:=I.hok p _ hk
   refine⟨⟨o,e,ex.1⟩,λa e2=>?_⟩
   cases e2
   exact⟨o,e,ex.2.1⟩
 |_=>exact False.elim ty
def OF (K:Frag)(T:String)(r:V->List V->Hp->VK->Prop)(to:TE)(t:TA):TE:=λσ H Q=>to σ H λx H1=>Oe K T x H1/\t σ H1 λxs H2=>r x xs H2 Q
variable {o e:Expr}{es:List Expr}{to:TE}{t:TA}{name:Str}{apos cpos:Pos}{T id:String}{r:V->List V->Hp->VK->Prop}
def zx (pa:PlainAttrs T)(slot:Slot T name id)(hty:typeOf (.builtin id)=pure (.type "method_descriptor"))(hm:Oy X id r)(ho:PE X o to)(ha:PA X (e :: es) t)
  (hbase:attributeBase o name X.env (eval o X.env)=eval o X.env:=by rfl)
  (hfew:((backTo cpos (starEach (e :: es) X.env)).all (λx=> !x.1) && (backToKw cpos (keywordEach [] X.env)).all (λx=>x.1.isSome)
   && decide ((e :: es).length + ([]:List Keyword).length + (if ([]:List Keyword).isEmpty then 0 else 1) < 30))=true:=by rfl)
  (hline:(apos.endLine == cpos.line)=true:=by rfl) (hs:starEach (e :: es) X.env=(false,eval e X.env) :: starEach es X.env:=by rfl) (hplain:(backTo cpos (starEach es X.env)).any (·.1)=false:=by rfl) :
  PE X (.Call (.Attribute o name apos) (e :: es) [] cpos) (OF X.K T r to t):=by
 intro pins s σ H Q I h
 refine wpAny_Call_method_late hbase hfew hline rfl (cO (ho pins s σ H _ I h) λv s1 ⟨x,H1,I1,r1,ty,q1⟩=>?_)
 obtain⟨h1,h2⟩:=JC I1 r1 ty
 refine⟨T,id,pa,slot,hty,h1,h2,?_⟩
 have hA:=ha cpos pins s1 σ H1 _ I1 q1
 rw[hs] at hA ⊢
 refine Calls.callWith_builtin (by show (false || (backTo cpos (starEach es X.env)).any (·.1))=false;rw[hplain] <;> rfl) (Calls.evalArgs_plain ?_)
 exact cO hA λus s2 ⟨vs,H2,I2,r2,q2⟩=>hm pins s2 σ H2 x vs v us Q I2 r1 r2 q2
end
def Mc (X:Cx)(id:String)(r:V->List V->Hp->VK->Prop):Prop:=
 ∀(pins:List (Addr×Obj)) (s:Shared) (σ:St) (H:Hp) (x:V) (xs:List V) (v:Value) (us:List Value) (Q:VK),Inv X pins σ H s->RelV x v->Vals xs us->r x xs H Q->
  wpAny (model X.prog X.w) X.A (call (.builtin id) (v :: us)) (EP X pins σ Q) X.xe s
theorem Vals.one:∀{x:V} {us:List Value},Vals [x] us->∃u,us= [u]/\RelV x u
 |_,_,.cons r .nil=>⟨_,rfl,r⟩
theorem Vals.eraseIdx:∀{xs:List V} {us:List Value} (i:Nat),Vals xs us->Vals (xs.eraseIdx i) (us.eraseIdx i)
 |_,_,_,.nil=>.nil
 |_,_,0,.cons _ t=>t
 |_,_,i + 1,.cons r t=>.cons r (Vals.eraseIdx i t)
theorem Vals.reverse {xs:List V}{us:List Value}(h:Vals xs us):Vals xs.reverse us.reverse:=by
 induction h with
 |nil=>exact .nil
 |cons r t ih=>rw[QV,QV];exact Vals.append ih (.cons r .nil)
theorem Vals.rep {xs:List V}{us:List Value}(h:Vals xs us):∀k:Nat,Vals (List.replicate k xs).flatten (List.replicate k us).flatten
 | 0=>.nil
 |k + 1=>by
  rw[Py,Py,Qh,Qh]
  exact Vals.append h (Vals.rep h k)
theorem tL {α:Type}:∀(l:List α) (i:Nat),(l.eraseIdx i).length<=l.length
 | [],_=>ON _
 |_ :: _,0=>Nat.le_succ _
 |_ :: r,i + 1=>Nat.succ_le_succ (tL r i)
theorem foldl_rep (its:List Value):∀(k:Nat) (acc:List Value),
  List.foldl (λx1 x2=>x1 ++ x2) acc.toArray (List.replicate k its.toArray)=(acc ++ (List.replicate k its).flatten).toArray
 | 0,acc=>by simp
 |k + 1,acc=>by
  have e:acc.toArray ++ its.toArray=(acc ++ its).toArray:=by simp
  have e2:(acc ++ its) ++ (List.replicate k its).flatten=acc ++ (List.replicate (k + 1) its).flatten:=by
   rw[Py,Qh,PD]
  rw[<-e2,<-foldl_rep its k (acc ++ its),<-e,Py,foldl_cons]
section
variable {X:Cx}{pins:List (Addr×Obj)}{σ:St}{H:Hp}{s:Shared}{l b:Addr}{xs ys zs:List V}
def Inv.lset {its its':List Value}{n:Nat}{f:Array Value->Array Value}{t':Nat}(I:Inv X pins σ H s)(hH:H l=some (.lst xs))
  (e:s.heap.get? l=some {cls:=.type "list",data:=.seq its.toArray n}) (hf:f its.toArray=its'.toArray) (hv:Vals ys its') (hz:ys.length<=sizeLine) :
  Inv X pins σ (upd H l (.lst ys)) {s with heap:=s.heap.update l (Obj.mapSeq f),toks:=t'}:=by
 have q:=PySem.IsL.update e f
 rw[hf] at q
 refine I.write (x:=l) (e:=l) (by rw[hH];exact trivial) (.inl rfl) (λb' u hb hu=>(P1 s.heap (Obj.mapSeq f) (Ne.symm hb)).trans hu) ⟨_,q⟩ ?_
 exact⟨hz,its',_,hv,q⟩
def Inv.lnew {its:List Value}{t':Nat}(I:Inv X pins σ H s)(hv:Vals ys its)(hz:ys.length<=sizeLine) :
  Inv X pins σ (upd H s.heap.objs.size (.lst ys)) {s with heap:=s.heap.push {cls:=.type "list",data:=.seq its.toArray},toks:=t'}:=
 I.laid (λ_ _ q=>OL _ q) (ON _) ⟨hz,its,0,hv,O0 _ rfl⟩
def Inv.fresh (I:Inv X pins σ H s):H s.heap.objs.size=none:=I.hok.fresh (ON _)
def Inv.lstM (I:Inv X pins σ H s)(hH:H l=some (.lst xs)):xs.length<=sizeLine/\∃(its:List Value) (n:Nat),Vals xs its/\xs.length=its.length/\s.heap.get? l=some {cls:=.type "list",data:=.seq its.toArray n}:=by
 obtain⟨z,its,n,r,e⟩:=I.hok l _ hH
 exact⟨z,its,n,r,r.length,e⟩
def xR {n:Nat}(h:n<=sizeLine):Builtin.List.listTooLong n=false:=by
 unfold Builtin.List.listTooLong
 exact OY (by omega)
end
section
variable {X:Cx}
def Fi:V->List V->Hp->VK->Prop:=λx vs H Q=>∃l xs y,x=.ref l/\vs= [y]/\H l=some (.lst xs)/\xs.length < sizeLine/\Q .non (upd H l (.lst (xs ++ [y])))
def o5:Mc X "list.append" Fi:=by
 intro pins s σ H x vs v us Q I rx rv h
 obtain⟨l,xs,y,rfl,rfl,hH,hz,q⟩:=h
 cases rx
 obtain⟨u,rfl,ru⟩:=rv.one
 obtain⟨z,its,n,r,hl,e⟩:=I.lstM hH
 refine call_meets F.slot_list_append ⟨_,e,rfl⟩ F.entry_list_append (F.args_list_append_2 _ _) (PySem.list_append l its.toArray n u (by rw[O1];omega)) ⟨e,?_⟩
 refine⟨.non,_,I.lset (its':=its ++ [u]) hH e (by simp) (r.append (.cons ru .nil)) ?_,rfl,q⟩
 rw[OX,Pe]
 omega
def IS:V->List V->Hp->VK->Prop:=λx vs H Q=>∃l xs i k y,x=.ref l/\vs= [.int i]/\H l=some (.lst xs)/\ -(2 ^ 63)<=i/\i < 2 ^ 63/\seqIndex? i xs.length=some k/\xs[k]? =some y/\Q y (upd H l (.lst (xs.eraseIdx k)))
def CG:Mc X "list.pop" IS:=by
 intro pins s σ H x vs v us Q I rx rv h
 obtain⟨l,xs,i,k,y,rfl,rfl,hH,h1,h2,hk,hy,q⟩:=h
 cases rx
 obtain⟨u,rfl,ru⟩:=rv.one
 obtain⟨t,rfl⟩:=ru
 obtain⟨z,its,n,r,hl,e⟩:=I.lstM hH
 obtain⟨w,hw,rw'⟩:=r.get hy
 refine call_meets F.slot_list_pop ⟨_,e,rfl⟩ F.entry_list_pop (F.args_list_pop_2 _ _)
  (MeetsSeq.list_pop_at l its.toArray n i t k w (fitsIndex_both h1 h2) (by rw[O1,<-hl];exact hk) (by rw[<-Array.getElem?_toList];exact hw) (by rw[O1];omega)) ⟨e,?_⟩
 refine⟨y,_,I.lset (its':=its.eraseIdx k) hH e ?_ (r.eraseIdx k) ?_,rw',q⟩
 ·show its.toArray.eraseIdxIfInBounds k=(its.eraseIdx k).toArray
  rw[List.eraseIdxIfInBounds_toArray]
 ·have:=tL xs k
  omega
def MP:R2:=λx y H Q=>∃l k xs,x=.ref l/\y=.int k/\H l=some (.lst xs)/\ -(2 ^ 63)<=k/\k < 2 ^ 63/\xs.length * k.toNat<=sizeLine/\
 ∀p,H p=none->Q (.ref p) (upd H p (.lst (List.replicate k.toNat xs).flatten))
theorem len_rep {α:Type}(xs:List α)(k:Nat):(List.replicate k xs).flatten.length=k * xs.length:=by
 induction k with
 |zero=>simp
 |succ k ih=>rw[Py,Qh,OX,ih,Nat.succ_mul,Nat.add_comm]
def CP:mT X (binaryOp .Mult) MP:=by
 intro pins s σ H x y v u Q I rx ry h
 obtain⟨l,k,xs,rfl,rfl,hH,h1,h2,hz,q⟩:=h
 cases rx
 obtain⟨t,rfl⟩:=ry
 obtain⟨z,its,n,r,hl,e⟩:=I.lstM hH
 have hlen:its.toArray.size * k.toNat<=sizeLine:=by rw[O1,<-hl];exact hz
 have hcap:¬its.toArray.size * k.toNat > (2 ^ 63 - 1) / 8:=by
  have:(sizeLine:Nat)<=(2 ^ 63 - 1) / 8:=by decide
  omega
 have hfit:¬(!Builtin.List.listFitsIndex k)=true:=by
  rw[fitsIndex_both h1 h2]
  exact O8
 have hlong:¬Builtin.List.listTooLong (its.toArray.size * k.toNat)=true:=by
  rw[xR hlen]
  exact O8
 have hnew:List.foldl (λx1 x2=>x1 ++ x2) #[] (List.replicate (if its.toArray.isEmpty=true then 0 else k.toNat) its.toArray)=(List.replicate k.toNat its).flatten.toArray:=by
  have f0:∀m:Nat,List.foldl (λx1 x2=>x1 ++ x2) #[] (List.replicate m its.toArray)=(List.replicate m its).flatten.toArray:=λm=>by
   have:=foldl_rep its m []
   rw[Q8] at this
   exact this
  rw[f0]
  cases its with
  |nil=>simp
  |cons a r'=>rw[OV (by simp)]
 refine wpAny_binaryOp_repeat_ref (T:="list") (U:="int") (by decide) ⟨_,e,rfl⟩ (λs'=>typeIs_int s' k t) noFill_list_mul F.fills_int_mul F.slot_int_rmul repeat_list F.slot_int_index.lookup
  (call_meets F.slot_int_rmul (typeIs_int s k t) F.entry_int_rmul (F.args_int_rmul_2 _ _) (int___rmul___int_list k t l its.toArray n)
   ⟨e,rfl,⟨_,e,rfl⟩,call_meets F.slot_list_mul ⟨_,e,rfl⟩ F.entry_list_mul (F.args_list_mul_2 _ _) (AutoListH.list___mul___list_int_3 l its.toArray n k t hfit hcap hlong) ⟨e,?_⟩⟩)
 rw[hnew]
 exact⟨.ref _,_,I.lnew (t':=s.toks) (r.rep k.toNat) (by rw[len_rep,Nat.mul_comm];exact hz),rfl,q _ I.fresh⟩
end
end L2
namespace Att
open PySem PySem.W PySem.Calls PyProof.Rows
theorem pK {P:Params}{h:Heap}:∀(ns:List Int) (vs:List Value),WellAll P h vs (ns.map WData.int)->IntsAre vs ns:=by
 intro ns
 induction ns with
 |nil=>
  intro vs w
  rw[List.map_nil] at w
  cases w
  exact .nil
 |cons n ns ih=>
  intro vs w
  rw[PH] at w
  cases w with
  |cons a b=>
   cases a
   exact .cons _ _ (ih _ b)
theorem A3 {l:OpenLaw}{n:Nat}(hn:l.most=some n){P:Params}{h:Heap}{args:List WData}{vals:List Value}
  (hpre:l.row.toRowW.claim.pre args=true) (hwl:WellAll P h vals args) :
  ∃a vs ns,vals= [Value.ref a]/\args= [WData.list (ns.map WData.int)]/\h.get? a=some {cls:=.type "list",data:=.seq vs.toArray}/\IntsAre vs ns/\ns.length<=n:=by
 have hsh:WShape.hasAll [] args [.list .int]=true:=(pre_splitW hpre).1
 have hc:l.pre.holds [] {args:=args}=true:=(pre_splitW hpre).2
 obtain⟨d,r,rfl,h1,h2⟩:=hasAllW_cons hsh
 obtain rfl:=hasAllW_nil h2
 obtain⟨xs,rfl,h3⟩:=hasW_list h1
 obtain⟨ns,rfl⟩:=items_int h3
 have hlen:ns.length<=n:=by
  unfold OpenLaw.pre at hc
  have h4:(WTm.not (.lt (.lit (.int (n:Int))) (.len (.arg 0)))).holds [] {args:=[.list (ns.map .int)]}=true:=by
   have h4:=(holds_andW hc).1
   rw[hn] at h4
   exact h4
  have h5:=condW_of h4 (w_not (w_lt w_lit (w_len_list (w_arg rfl))))
  rw[OK] at h5
  refine Nat.le_of_not_lt λq=>?_
  have q':(n:Int) < ((ns.length:Nat):Int):=by omega
  first
   | (rw[OP q'] at h5;exact absurd h5 (by decide))
   | (simp at h5;omega)
 cases hwl with
 |cons w1 w2=>
  cases w2
  cases w1 with
  |list ho hall=>exact⟨_,_,ns,rfl,rfl,ho,pK ns _ hall,hlen⟩
def Ba (l:OpenLaw)(args:List WData):l.row.toRowW.claim.post args (.bool true) args=true:=
 postW_of (r:=l.row.toRowW) (X:=(true == true))
  (show WShape.has [] (.bool true) .bool=true by first |rfl |decide |simp[WShape.has,WShape.arms,WShape.armsAll])
  (show (WTm.eq .res (.lit (.bool true))).value [] {args:=args,res:=some (.bool true),after:=args}=some (.bool (true == true)) from w_eq_bool (w_res rfl) w_lit) rfl
def xF {l:OpenLaw}{n:Nat}{q:Program}{loose:List Str}{XP:(Str->Option Value)->Heap->Prop}{YP:World->Heap->Prop}{d:DefRec}
  (hn:l.most=some n) (hdf:d.params.defaults= [])
  (call:∀(w:World) (s₀ s₁:Shared) (mg mb:Str->Option Value) (fa:Addr) (o:Obj) (pm cd doc:Value) (a:Addr) (vs:List Value) (ns:List Int),
   Ground q loose [] XP w s₀ mg mb s₁.heap->YP w s₁.heap->
   s₁.heap.get? fa=some o->o.data=.func (docDef d.name d.params d.body d.scope pm cd doc)->s₁.heap.CodeRec cd d.name->mg d.name=some (.ref fa)->
   s₁.heap.get? a=some {cls:=.type "list",data:=.seq vs.toArray}->IntsAre vs ns->ns.length<=n->s₁.gens=#[]->
   codeAny (model l.prog w) callerA (.call (.ref fa) ⟨[.ref a],[]⟩) (λr s'=>r=.ok (.ret (.bool true))/\OldK s₁.heap s'.heap/\s'.os=s₁.os/\AllBare s'.gens) s₁) :
  WalkO q loose XP YP l.row.toRowW d [] (λf vs=>PySem.call f vs):=by
 intro w s₀ s₁ mg mb G Y fa o pm cd doc dV kV ho hd hcd hD hmg hg args vals as hpre hlay hrd hwl hlo
 obtain rfl:dV=.none:=Dflts.none hD hdf
 obtain rfl:kV=.none:=Dflts.noKw hD
 obtain⟨a,vs,ns,rfl,rfl,hobj,hints,hlen⟩:=A3 hn hpre hwl
 refine enter_call (Rb (call w s₀ s₁ mg mb fa o pm cd doc a vs ns G Y ho (fd_plain hd) hcd hmg hobj hints hlen hg) λr s' hq=>?_)
 obtain⟨rfl,h2,h3,h4⟩:=hq
 exact⟨.inl ⟨.bool true,.bool true,[],rfl,λ_=>rfl,.bool true,Ba l _,λ_=>⟨List.Pairwise.nil,λ_ hm=>(nomatch hm)⟩⟩,h2,h3,h4⟩
end Att
namespace L2
open PySem PySem.Spec PyProof.Rows
theorem ue:∀{vs:List Value} {ns:List Int},IntsAre vs ns->Vals (ns.map V.int) vs
 |_,_,.nil=>.nil
 |_,_,.cons n t h=>.cons ⟨t,rfl⟩ (ue h)
def i2 (s:Stmt):Arguments:=match s with
 | .FunctionDef _ a _ _ _ _ _ _ _ _=>a
 |_=>{posonlyargs:=[],args:=[],vararg:=none,kwonlyargs:=[],kw_defaults:=[],kwarg:=none,defaults:=[]}
def cZ (s:Stmt):List Stmt:=match s with
 | .FunctionDef _ _ b _ _ _ _ _ _ _=>b
 |_=>[]
def ar (s:Stmt):Scope:=match s with
 | .FunctionDef _ _ _ _ _ _ sc _ _ _=>sc
 |_=>{kind:=.function,names:=[],isGenerator:=false,isCoroutine:=false}
abbrev JF:BO:=λ_ _ _ _ _ _=>False
abbrev E0:XK:=λ_ _ _=>False
def K4 {X:Cx}:Passes JF X E0:=λ_ _ _ _ _ _ _ h=>h.elim
structure B4 (K:Frag)(x qual:Str)(st:Stmt)(f:Addr)(fd:FuncData):Prop where
 ex:∃(oc:Value) (od:Option Addr) (kV doc pm:Value) (an:Option Addr) (cdv ct:Value) (osl:Array (Option Value)),
  fd=PySem.W.fnOf x qual (i2 st) (cZ st) (ar st) .none kV doc pm an cdv ct/\K.lookup f=some ⟨oc,od,.func fd,osl⟩/\PySem.W.codeIn K cdv qual=true
 kp:PySem.W.keepIn K (.ref f)=true
section
variable {P:Program}{w:World}{K:Frag}{mg:Str->Option Value}{base:Heap}
def B4.ok {x qual:Str}{st:Stmt}{f:Addr}{fd:FuncData}{N ps:List Str}{k:Nat}{sp:Sp}(F:B4 K x qual st f fd)(S:aH N ps (ar st))(len:∀vs H Q E,sp vs H Q E->vs.length=ps.length)
  (hbody:∀(cdv:Value) (A:Around) (outer:List Env) (s:Shared) (H:Hp) (vs:List V) (Q:VK) (E:XK),dW k (A.deeper (envOfC qual (ar st) s.heap.objs.size f cdv))->sp vs H Q E->
   ∃t,rR (lD JF P w K mg base N qual (ar st) f cdv A outer s H E).nox (cZ st) t/\t {nx:=λ_ H'=>Q .non H',rt:=Q} (start N vs) H):fA P w K mg base JF (k + 1) f fd ps sp:=by
 obtain⟨oc,od,kV,doc,pm,an,cdv,ct,osl,rfl,lk,hcd⟩:=F.ex
 refine C0 lk hcd S len λA outer s H vs Q E hr hsp=>?_
 obtain⟨t,h,q⟩:=hbody cdv A outer s H vs Q E hr hsp
 exact⟨t,h.nox,q⟩
def B4.binds {x qual:Str}{st:Stmt}{f:Addr}{fd:FuncData}{ps:List Str}(F:B4 K x qual st f fd)
  (h:∀(kV doc pm:Value) (an:Option Addr) (cdv ct:Value) (us:List Value),us.length=ps.length->bindArgs (PySem.W.fnOf x qual (i2 st) (cZ st) (ar st) .none kV doc pm an cdv ct) ⟨us,[]⟩=pure (ps.zip us)):Binds K fd ps []:=by
 obtain⟨oc,od,kV,doc,pm,an,cdv,ct,osl,rfl,lk,hcd⟩:=F.ex
 exact .all (h kV doc pm an cdv ct)
def qY {x qual:Str}{st:Stmt}{f:Addr}{oc:Value}{od an:Option Addr}{osl:Array (Option Value)}{kV doc pm cdv ct:Value}(l:K.lookup f=some ⟨oc,od,.func (PySem.W.fnOf x qual (i2 st) (cZ st) (ar st) .none kV doc pm an cdv ct),osl⟩)
  (c:PySem.W.codeIn K cdv qual=true) (k:PySem.W.keepIn K (.ref f)=true):B4 K x qual st f (PySem.W.fnOf x qual (i2 st) (cZ st) (ar st) .none kV doc pm an cdv ct):=⟨⟨oc,od,kV,doc,pm,an,cdv,ct,osl,rfl,l,c⟩,k⟩
end
section
variable {X:Cx}
def pv (i:Nat){x:Str}{pos:Pos}(hN:X.N[i]? =some x:=by rfl)(hv:zJ X.env.scope x:=by first |exact Or.inl rfl |exact Or.inr (Or.inl rfl) |exact Or.inr (Or.inr rfl))(hd:(x == ("__debug__":Str))=false:=by decide)
  (hcd:(x == ("__classdict__":Str))=false:=by decide):PE X (.Name x pos) (GV i):=jQ hN hv hd hcd
end
def sv {A B:Prop}(h:B):if false=true then A else B:=by
 rw[OV O8]
 exact h
def sP {A B:Prop}(h:A):if true=true then A else B:=by
 rw[OO rfl]
 exact h
def GP (o:Obj):Prop:=∃vs q t,o.data=.fields vs/\vs[1]? =some (.str q t)
def Ez:List Value->Prop
 | []=>True
 | .int _ _ :: .int _ _ :: .ref _ :: r=>Ez r
 |_=>False
theorem Ez.app:∀{l m:List Value},Ez l->Ez m->Ez (l ++ m)
 | [],_,_,h=>h
 | .int _ _ :: .int _ _ :: .ref _ :: r,_,h,k=>Ez.app (l:=r) h k
def Kt (H:Hp)(b:Addr):HO->Prop
 | .tbl ps=>∃more:Array Value,H b=some (.tbl (ps ++ more))/\Ez more.toList/\∀c,Value.ref c∈more.toList->∃o,H c=some (.a9 o (.own 0))/\GP o
 |o=>H b=some o
theorem Kt.of {H:Hp}{b:Addr}{o:HO}(h:H b=some o):Kt H b o:=by
 cases o with
 |tbl ps=>exact⟨#[],by rw[h];simp,trivial,λc hc=>by simp at hc⟩
 |_=>exact h
def av (H H':Hp):Prop:=∀b o,H b=some o->Kt H' b o
def av.refl (H:Hp):av H H:=λ_ _ h=>Kt.of h
theorem Kt.some {H:Hp}{b:Addr}{o:HO}(h:Kt H b o):∃u,H b=Option.some u/\((∀ps,o≠.tbl ps)->u=o)/\((∃ps,o=.tbl ps)->∃ps,u=.tbl ps):=by
 cases o with
 |tbl ps=>obtain⟨m,e,_⟩:=h;exact⟨_,e,λz=>absurd rfl (z ps),λ_=>⟨_,rfl⟩⟩
 |_=>exact⟨_,h,λ_=>rfl,λ⟨ps,z⟩=>by cases z⟩
theorem Kt.step {H H':Hp}{b:Addr}{o:HO}(h:Kt H b o)(s:av H H'):Kt H' b o:=by
 cases o with
 |tbl ps=>
  obtain⟨m,e,t1,k⟩:=h
  obtain⟨m2,e2,t2,k2⟩:=s b _ e
  refine⟨m ++ m2,by rw[e2,Array.append_assoc],by rw[QC];exact t1.app t2,λc hc=>?_⟩
  rw[QC,O4] at hc
  rcases hc with hc |hc
  ·obtain⟨o,eo,io⟩:=k c hc;exact⟨o,s c _ eo,io⟩
  ·exact k2 c hc
 |lst xs=>exact s b _ h
 |tup xs=>exact s b _ h
 |dK xs=>exact s b _ h
 |dT xs=>exact s b _ h
 |set S n=>exact s b _ h
 |ins C dx fs=>exact s b _ h
 |own x=>exact s b _ h
 |xd fs=>exact s b _ h
 |met f x=>exact s b _ h
 |dN lo hi=>exact s b _ h
 |a9 o u=>exact s b _ h
 |ext φ=>exact s b _ h
def av.trans {H H1 H2:Hp}(a:av H H1)(b:av H1 H2):av H H2:=λc o h=>(a c o h).step b
theorem av.free {H H':Hp}(e:av H H'){l:Addr}(h:H' l=Option.none):H l=Option.none:=by
 cases q:H l with
 |none=>rfl
 |some o=>
  obtain⟨u,z,_⟩:=(e l o q).some
  rw[z] at h
  cases h
def av.seq {K:Frag}{H H':Hp}{a:Addr}{xs:List V}(e:av H H')(h:iF K H a xs):iF K H' a xs:=by
 rcases h with (h | ⟨o,h⟩) |h
 ·exact .inl (.inl (e _ _ h))
 ·exact .inl (.inr ⟨o,e _ _ h⟩)
 ·exact .inr h
end L2
end
namespace L2.ST
open PySem PySem.SetTable
abbrev Je (xs:Array Nat):Prop:=xs.toList.Pairwise (· < ·)
def OC (mask:Nat)(p:Probe):Probe:=
 if p.more > 0 then {p with j:=p.j + 1,more:=p.more - 1} else
 {p with j:=(leap mask p.i p.perturb).1,more:=runEnd mask (leap mask p.i p.perturb).1 - (leap mask p.i p.perturb).1,i:=(leap mask p.i p.perturb).1,perturb:=(leap mask p.i p.perturb).2}
def OD (mask i perturb:Nat):Probe:={j:=i,more:=runEnd mask i - i,i,perturb,dummy:=none}
def st (mask:Nat)(h:Int):Probe:=OD mask (bits h % (mask + 1)) (bits h)
def Jx (mask:Nat):Nat->Probe->Probe
 | 0,p=>p
 |n + 1,p=>Jx mask n (OC mask p)
def In (mask:Nat)(p:Probe):Prop:=p.j + p.more<=mask/\p.more<=9
def nx (mask i:Nat):Nat:=(i * 5 + 1) % (mask + 1)
def OB (mask:Nat):Prop:=mask=7\/mask=31\/mask=127
def Reach (mask:Nat)(L:Nat->Prop)(h:Int)(j:Nat):Prop:=∃n,n < 10 * turns mask/\(Jx mask n (st mask h)).j=j/\∀m,m < n->L (Jx mask m (st mask h)).j
structure Tab (t:SetTable)(hs:List Int):Prop where
 mask:OB t.mask
 dum:t.dummies=#[]
 rise:Je t.place
 le:∀j,j∈t.place->j<=t.mask
 size:t.place.size=hs.length
 load:t.place.size * 5 < t.mask * 3
 reach:∀(i j:Nat) (h:Int),t.place[i]? =some j->hs[i]? =some h->Reach t.mask (· ∈t.place) h j
 plain:t.plain=true
theorem fV {α:Type}[DecidableEq α]:∀{l m:List α},l.Nodup->(∀x,x∈l->x∈m)->l.length<=m.length
 | [],_,_,_=>PX _
 |a :: l,m,hn,hs=>by
  have ha:=hs a (OU ..)
  have hl:=PR.mp hn
  have:=fV (l:=l) (m:=m.erase a) hl.2 λx hx=>by
   refine (List.mem_erase_of_ne ?_).mpr (hs x (OS _ hx))
   rintro rfl;exact hl.1 hx
  rw[Rh ha] at this
  have:0 < m.length:=List.length_pos_of_mem ha
  simp only[Pf];omega
abbrev own (o:Array (Option Nat))(j:Nat):Option Nat:=o.getD j none
structure Lay (mask:Nat)(o:Array (Option Nat))(hs:List Int):Prop where
 size:o.size=mask + 1
 all:∀k h,hs[k]? =some h->∃j,own o j=some k/\Reach mask (λx=>(own o x).isSome=true) h j
 one:∀j j' k,own o j=some k->own o j'=some k->j=j'
 le:∀j k,own o j=some k->j<=mask/\k < hs.length
abbrev Pr:=Int×Int
def hp (p:Pr):Int:=reduceHash (Builtin.Tuple.tupleHashOf [hashInt p.1,hashInt p.2])
def Sm (p:Pr):Prop:=(0<=p.1/\p.1 < 8)/\(0<=p.2/\p.2 < 8)
def uI:List Pr:=(List.range 64).map λk=>(((k / 8:Nat):Int),((k % 8:Nat):Int))
def yZ {p:Pr}(h:Sm p):p∈uI:=by
 unfold uI
 obtain⟨⟨a,b⟩,c,d⟩:=h
 refine Pp.mpr ⟨p.1.toNat * 8 + p.2.toNat,PL.mpr (by omega),?_⟩
 refine Prod.ext ?_ ?_ <;> dsimp only <;> omega
def yP {l:List Pr}(hn:l.Nodup)(h:∀p,p∈l->Sm p):l.length<=64:=by
 have:=fV (m:=uI) hn λx hx=>yZ (h x hx)
 simpa[uI] using this
section
variable {prog:Program}{w:World}{A:Around}{E:Value->Shared->Prop}{s:Shared}
abbrev IY (prog:Program)(w:World)(h:Heap)(p:Pr)(a:Addr):Prop:=IsTupleKey (intKind prog w) h [p.1,p.2] a
structure De (f:Pr->Int)(prog:Program)(w:World)(led:Bool)(h:Heap)(S:Addr)(ps:List (Addr×Pr)):Prop where
 ex:∃o ep t,h.get? S=some o/\o.ExactSet/\o.data=.set (ps.map λq=>(f q.2,Value.ref q.1)).toArray ep t/\Tab t (ps.map λq=>f q.2)/\t.led=led
 at':∀q,q∈ps->IY prog w h q.2 q.1/\Sm q.2
 nd:(ps.map (·.2)).Nodup
def De.len {f:Pr->Int}{led:Bool}{h:Heap}{S:Addr}{ps:List (Addr×Pr)}(P:De f prog w led h S ps):ps.length<=64:=by
 have:=yP P.nd λp hp=>by
  obtain⟨q,hq,rfl⟩:=Pp.mp hp
  exact (P.at' q hq).2
 simpa using this
end
def xq (w:World):Bool:= !(w.params.followText "set-order")
section
variable {prog:Program}{w:World}{A:Around}{E:Value->Shared->Prop}{s:Shared}{R:Result->Shared->Prop}{I:Addr}{fp wr:List Addr}{n:Nat}{P:Nat->Value->Prop}{St:Nat->Heap->Prop}
def xu (a:Value){Q1:Value->Shared->Prop}
  (h:Q1 (.ref s.heap.objs.size) {s with heap:=s.heap.push {cls:=.type "set",dict:=none,data:=.set #[] 0 (.fresh 0 0 (xq w))}}) :
  codeAny (model prog w) A (.call (.builtin "set.__new__") ⟨[.type "set",a],[]⟩) (wants Q1 E) s:=by
 refine codeAny_of_tree ?_
 show wpAny _ A.in1 (do (checkBuiltinCall "set.__new__" ⟨[.type "set",a],[]⟩);again (.builtin "set.__new__" ⟨[.type "set",a],[]⟩)) _ _ s
 refine OT (wpAny_of_eq (F.newCall_set_1 a) (Pl ⟨plainId_quiet F.plain_set_new _,Q9 F.entry_set_new ?_⟩))
 rw[Q5 F.plain_set_new _]
 (unfold Builtin.«set.__new__» Builtin.Frozenset.newClass)
 have hsub0:=sub_set_self
 obtain⟨hp0,g0,d0,tk0,os0⟩:=s
 dsimp only
 wp_walk
 (refine wpAny_askSetting (Pl ?_))
 dsimp only
 simp only[newObj]
 (refine OT (wpAny_alloc (Pl ?_)))
 exact Pl h
structure Src (prog:Program)(w:World)(h:Heap)(l:Addr)(vs:List Value)(T:String)(itO:Obj)(St:Addr->Nat->Heap->Prop):Prop where
 ty:∃o,h.get? l=some o/\o.cls=.type T
 ns:isSubtype (.type T) (.type "set")=pure false
 nf:isSubtype (.type T) (.type "frozenset")=pure false
 nd:(Value.type T == Value.type "dict")=false
 it:∀(A:Around) (s1:Shared) (Q:Value->Shared->Prop) (E:Value->Shared->Prop),(∀b o,h.get? b=some o->s1.heap.get? b=some o)->Q (.ref s1.heap.objs.size) {s1 with heap:=s1.heap.push itO}->wpAny (model prog w) A (pyIter (.ref l)) Q E s1
 st:∀(h1:Heap),(∀b o,h.get? b=some o->h1.get? b=some o)->St h1.objs.size 0 (h1.push itO)
 wk:∀(A:Around) (I:Addr),A.handled=none->l≠I->Walks prog w A I [I,l] [I] vs.length (λi v=>vs[i]? =some v) (St I)
def Src.list {h:Heap}{l:Addr}{vs:List Value}(hl:h.IsList l vs.toArray):Src prog w h l vs "list" {cls:=.type "list_iterator",data:=.fields #[.ref l,.int 0 0]} (λI i h'=>h'.IsListIter I l i/\h'.IsList l vs.toArray):=by
 obtain⟨o,ho,hc,n,hd⟩:=id hl
 refine⟨⟨o,ho,hc⟩,F.sub_list_set,F.sub_list_frozenset,by decide,λA s1 Q E k hQ=>QJ ⟨o,k _ _ ho,hc,n,hd⟩ hQ,λh1 k=>⟨⟨_,O0 _ rfl,rfl,rfl⟩,⟨o,OL _ (k _ _ ho),hc,n,hd⟩⟩,λA I hh hne=>?_⟩
 have:=Walks.list (prog:=prog) (w:=w) hh I l hne vs.toArray
 simpa using this
def sub_tuple_set:isSubtype (.type "tuple") (.type "set")=pure false:=by rw[isSubtype_type];kernel_rfl
def sub_tuple_frozenset:isSubtype (.type "tuple") (.type "frozenset")=pure false:=by rw[isSubtype_type];kernel_rfl
def Src.tuple {h:Heap}{l:Addr}{vs:List Value}(hl:h.IsTuple l vs.toArray):Src prog w h l vs "tuple" {cls:=.type "tuple_iterator",data:=.fields #[.ref l,.int 0 0]} (λI i h'=>h'.IsTupleIter I l i/\h'.IsTuple l vs.toArray):=by
 obtain⟨o,ho,hc,n,hd⟩:=id hl
 refine⟨⟨o,ho,hc⟩,sub_tuple_set,sub_tuple_frozenset,by decide,λA s1 Q E k hQ=>QR ⟨o,k _ _ ho,hc,n,hd⟩ hQ,λh1 k=>⟨⟨_,O0 _ rfl,rfl,rfl⟩,⟨o,OL _ (k _ _ ho),hc,n,hd⟩⟩,λA I hh hne=>?_⟩
 have:=Walks.tuple (prog:=prog) (w:=w) hh I l hne vs.toArray
 simpa using this
end
end L2.ST
namespace L2.SO
open PySem PySem.W PyProof.Rows
section
variable {n:Nat}{key:Nat->Int}
abbrev Kp (key:Nat->Int)(p:Array Nat)(k:Nat):Int:=key (p.getD k 0)
structure Pm (n:Nat)(p:Array Nat):Prop where
 sz:p.size=n
 nd:p.toList.Nodup
 lt:∀x,x∈p->x < n
def Pm.at {p:Array Nat}(P:Pm n p){k:Nat}(hk:k < n):p.getD k 0 < n:=by
 have h:k < p.size:=by rw[P.sz];exact hk
 simp only[Array.getD,h,dif_pos]
 exact P.lt _ (Array.getElem_mem h)
def Up (key:Nat->Int)(p:Array Nat)(m:Nat):Prop:=∀i j,i < j->j < m->Kp key p i < Kp key p j
def Dn (key:Nat->Int)(p:Array Nat)(m:Nat):Prop:=∀i j,i < j->j < m->Kp key p j < Kp key p i
def Up.snoc {p:Array Nat}{m:Nat}(U:Up key p m)(h1:1<=m)(h:Kp key p (m - 1) < Kp key p m):Up key p (m + 1):=λi j hij hj=>by
 rcases Ri j m with c |c
 ·exact U i j hij c
 ·have:j=m:=by omega
  subst this
  rcases Ri i (j - 1) with d |d
  ·exact Int.lt_trans (U i (j - 1) d (by omega)) h
  ·have:i=j - 1:=by omega
   rw[this];exact h
def Dn.snoc {p:Array Nat}{m:Nat}(U:Dn key p m)(h1:1<=m)(h:Kp key p m < Kp key p (m - 1)):Dn key p (m + 1):=λi j hij hj=>by
 rcases Ri j m with c |c
 ·exact U i j hij c
 ·have:j=m:=by omega
  subst this
  rcases Ri i (j - 1) with d |d
  ·exact Int.lt_trans h (U i (j - 1) d (by omega))
  ·have:i=j - 1:=by omega
   rw[this];exact h
end
end L2.SO
namespace L2.ST
open PySem PySem.SetTable PySem.W PyProof.Rows
def code (p:Pr):Int:=p.1 * 8 + p.2
end L2.ST
namespace OM
abbrev Pr:=Int×Int
def GK (p q:Pr):Prop:=p.1 < q.1\/(p.1=q.1/\p.2 < q.2)
def kS (p:Pr):¬GK p p:=by unfold GK;omega
def Bc {p q r:Pr}(a:GK p q)(b:GK q r):GK p r:=by unfold GK at *;omega
abbrev Cs (l:List Pr):Prop:=l.Pairwise GK
theorem ml:∀{l m:List Pr},Cs l->Cs m->(∀x,x∈l↔x∈m)->l=m
 | [],[],_,_,_=>rfl
 | [],b :: m,_,_,h=>absurd ((h b).mpr (OU ..)) (by simp)
 |a :: l,[],_,_,h=>absurd ((h a).mp (OU ..)) (by simp)
 |a :: l,b :: m,hl,hm,h=>by
  have hl':=List.pairwise_cons.mp hl
  have hm':=List.pairwise_cons.mp hm
  have e:a=b:=by
   rcases OR.mp ((h a).mp (OU ..)) with e |e
   ·exact e
   ·rcases OR.mp ((h b).mpr (OU ..)) with e' |e'
    ·exact e'.symm
    ·exact absurd (Bc (hm'.1 a e) (hl'.1 b e')) (kS _)
  subst e
  congr 1
  refine ml hl'.2 hm'.2 λx=>⟨λhx=>?_,λhx=>?_⟩
  ·rcases OR.mp ((h x).mp (OS _ hx)) with e |e
   ·subst e;exact absurd (hl'.1 x hx) (kS _)
   ·exact e
  ·rcases OR.mp ((h x).mpr (OS _ hx)) with e |e
   ·subst e;exact absurd (hm'.1 x hx) (kS _)
   ·exact e
def td {l:List Pr}(h:Cs l):l.Nodup:=h.imp λ{a b} hab e=>by subst e;exact kS _ hab
def gR {l:List Pr}(p:Pr->Bool)(h:Cs l):Cs (l.filter p):=h.sublist QM
def bN (n:Nat):List Pr:=(List.range (n * n)).map λk=>(((k / n:Nat):Int),((k % n:Nat):Int))
def bD {n:Nat}{p:Pr}:p∈bN n↔(0<=p.1/\p.1 < n)/\(0<=p.2/\p.2 < n):=by
 unfold bN
 rw[Pp]
 constructor
 ·rintro⟨k,hk,rfl⟩
  have hk:=PL.mp hk
  have hn:0 < n:=by
   rcases Nat.eq_zero_or_pos n with e |e
   ·subst e;omega
   ·exact e
  have h1:k / n < n:=Nat.div_lt_of_lt_mul hk
  have h2:k % n < n:=Nat.mod_lt _ hn
  generalize k / n=q at h1
  generalize k % n=r at h2
  exact⟨⟨Int.natCast_nonneg _,by dsimp only;omega⟩,⟨Int.natCast_nonneg _,by dsimp only;omega⟩⟩
 ·rintro⟨⟨a0,a1⟩,⟨b0,b1⟩⟩
  have hn:0 < n:=by omega
  refine⟨p.1.toNat * n + p.2.toNat,PL.mpr ?_,?_⟩
  ·have h1:p.1.toNat + 1<=n:=by omega
   have h2:p.2.toNat < n:=by omega
   have:=Nat.mul_le_mul_right n h1
   rw[Nat.add_mul] at this
   omega
  ·have h2:p.2.toNat < n:=by omega
   have e1:(p.1.toNat * n + p.2.toNat) / n=p.1.toNat:=by
    rw[Nat.mul_comm,Nat.mul_add_div hn,Nat.div_eq_of_lt h2];rfl
   have e2:(p.1.toNat * n + p.2.toNat) % n=p.2.toNat:=by
    rw[Nat.mul_comm,Nat.mul_add_mod,Nat.mod_eq_of_lt h2]
   rw[e1,e2]
   refine Prod.ext ?_ ?_ <;> dsimp only <;> omega
def jc (n:Nat):Cs (bN n):=by
 unfold bN
 refine List.pairwise_map.mpr (List.Pairwise.imp_of_mem ?_ List.pairwise_lt_range)
 intro a b ha hb hab
 have ha:=PL.mp ha
 have hb:=PL.mp hb
 have hn:0 < n:=by
  rcases Nat.eq_zero_or_pos n with e |e
  ·subst e;omega
  ·exact e
 have h1:a / n<=b / n:=Nat.div_le_div_right (QE hab)
 have e1:=Nat.div_add_mod a n
 have e2:=Nat.div_add_mod b n
 unfold GK
 dsimp only
 rcases Ri (a / n) (b / n) with c |c
 ·left;omega
 ·right
  have e:a / n=b / n:=by omega
  rw[e] at e1
  omega
open Classical in
noncomputable def mR (n:Nat)(R:Int->Int->Prop):List Pr:=(bN n).filter λp=>decide (R p.1 p.2)
def qA {n:Nat}{R:Int->Int->Prop}{p:Pr}:p∈mR n R↔((0<=p.1/\p.1 < n)/\(0<=p.2/\p.2 < n))/\R p.1 p.2:=by
 unfold mR
 rw[OI,bD]
 simp
def qL (n:Nat)(R:Int->Int->Prop):Cs (mR n R):=gR _ (jc n)
def yz {n:Nat}{R S:Int->Int->Prop}(h:∀a b:Int,0<=a->a < n->0<=b->b < n->(R a b↔S a b)):mR n R=mR n S:=by
 refine ml (qL n R) (qL n S) λx=>?_
 rw[qA,qA]
 constructor
 ·rintro⟨⟨⟨a,b⟩,c,d⟩,r⟩;exact⟨⟨⟨a,b⟩,c,d⟩,(h _ _ a b c d).mp r⟩
 ·rintro⟨⟨⟨a,b⟩,c,d⟩,r⟩;exact⟨⟨⟨a,b⟩,c,d⟩,(h _ _ a b c d).mpr r⟩
def Wn (n:Nat)(l:List Pr):Prop:=∀p,p∈l->(0<=p.1/\p.1 < n)/\(0<=p.2/\p.2 < n)
abbrev Mem (l:List Pr)(a b:Int):Prop:=(a,b)∈l
def Bg {n:Nat}{l:List Pr}(w:Wn n l)(r:Cs l):mR n (Mem l)=l:=by
 refine ml (qL n _) r λx=>?_
 rw[qA]
 exact⟨λh=>h.2,λh=>⟨w x h,h⟩⟩
def CO (n:Nat)(R:Int->Int->Prop):(mR n R).length<=n * n:=by
 unfold mR
 refine Pz (PF ..) ?_
 unfold bN;simp
inductive Tr (R:Int->Int->Prop):Int->Int->Prop
 |one {a b}:R a b->Tr R a b
 |more {a b c}:R a b->Tr R b c->Tr R a c
theorem Tr.trans {R:Int->Int->Prop}{a b c:Int}(h:Tr R a b)(k:Tr R b c):Tr R a c:=by
 induction h with
 |one r=>exact .more r k
 |more r _ ih=>exact .more r (ih k)
theorem Tr.least {R S:Int->Int->Prop}(f:∀a b,R a b->S a b)(t:∀a b c,S a b->S b c->S a c){a b:Int}(h:Tr R a b):S a b:=by
 induction h with
 |one r=>exact f _ _ r
 |more r _ ih=>exact t _ _ _ (f _ _ r) ih
theorem Tr.wn {n:Nat}{l:List Pr}(w:Wn n l){a b:Int}(h:Tr (Mem l) a b):(0<=a/\a < n)/\(0<=b/\b < n):=by
 induction h with
 |one r=>exact w _ r
 |more r _ ih=>exact⟨(w _ r).1,ih.2⟩
structure Ord (n:Nat)(l:List Pr):Prop where
 lo:1<=n
 hi:n<=8
 wn:Wn n l
 ris:Cs l
 irr:∀a,(a,a)∉l
 tr:∀a b c,(a,b)∈l->(b,c)∈l->(a,c)∈l
def Ord.tr_mem {n:Nat}{l:List Pr}(O:Ord n l){a b:Int}:Tr (Mem l) a b↔(a,b)∈l:=
 ⟨λh=>h.least (λ_ _ r=>r) λa b c=>O.tr a b c,λh=>.one h⟩
def Ord.closed {n:Nat}{l:List Pr}(O:Ord n l):mR n (Tr (Mem l))=l:=by
 rw[yz (S:=Mem l) λa b _ _ _ _=>O.tr_mem,Bg O.wn O.ris]
theorem IQ {l m:List Pr}(hl:l.Nodup)(h:∀x,x∈l->x∈m):l.length<=m.length:=by
 induction l generalizing m with
 |nil=>exact PX _
 |cons a l ih=>
  have ha:=h a (OU ..)
  have hl':=PR.mp hl
  have:=ih (m:=m.erase a) hl'.2 λx hx=>by
   refine (List.mem_erase_of_ne ?_).mpr (h x (OS _ hx))
   rintro rfl;exact hl'.1 hx
  rw[Rh ha] at this
  have:0 < m.length:=List.length_pos_of_mem ha
  simp only[Pf];omega
def sub_eq {l m:List Pr}(hl:Cs l)(hm:Cs m)(h:∀x,x∈l->x∈m)(e:l.length=m.length):l=m:=by
 refine ml hl hm λx=>⟨h x,λhx=>Classical.byContradiction λhn=>?_⟩
 have:=IQ (l:=x :: l) (m:=m) (PR.mpr ⟨hn,td hl⟩) λy hy=>by
  rcases OR.mp hy with e |e
  ·subst e;exact hx
  ·exact h y e
 simp only[Pf] at this
 omega
def more (l:List Pr):List Pr:=l.flatMap λp=>(l.filter λq=>decide (q.1=p.2)).map λq=>(p.1,q.2)
abbrev Tb:=Nat->Nat->Bool
def Tb.set (M:Tb)(a b:Nat):Tb:=λx y=>if x=a/\y=b then true else M x y
def Gh (M:Tb)(m:Nat):Prop:=∀k a b,k < m->M a k=true->M k b=true->M a b=true
def Phase (M0 M:Tb)(m:Nat)(D:Nat->Nat->Prop):Prop:=∀a b,M a b=true↔M0 a b=true\/(D a b/\M0 a m=true/\M0 m b=true)
def Phase.start (M:Tb)(m:Nat):Phase M M m λ_ _=>False:=λa b=>by simp
def Phase.row {M0 M:Tb}{m:Nat}{D:Nat->Nat->Prop}(P:Phase M0 M m D)(a:Nat):M a m=true↔M0 a m=true:=by
 rw[P]
 exact⟨λh=>h.elim id λh=>h.2.1,.inl⟩
def Phase.col {M0 M:Tb}{m:Nat}{D:Nat->Nat->Prop}(P:Phase M0 M m D)(b:Nat):M m b=true↔M0 m b=true:=by
 rw[P]
 exact⟨λh=>h.elim id λh=>h.2.2,.inl⟩
def Phase.step {M0 M:Tb}{m:Nat}{D:Nat->Nat->Prop}(P:Phase M0 M m D)(x y:Nat) :
  Phase M0 (if M x m=true/\M m y=true then M.set x y else M) m (λa b=>D a b\/(a=x/\b=y)):=λa b=>by
 have r:=P.row x
 have c:=P.col y
 by_cases h:M x m=true/\M m y=true
 ·rw[OO h]
  unfold Tb.set
  by_cases e:a=x/\b=y
  ·rw[OO e]
   obtain⟨rfl,rfl⟩:=e
   simp only[true_iff]
   exact .inr ⟨.inr (by simp),r.mp h.1,c.mp h.2⟩
  ·rw[OV e,P]
   constructor
   ·rintro (q | ⟨d,q⟩)
    ·exact .inl q
    ·exact .inr ⟨.inl d,q⟩
   ·rintro (q | ⟨d |d,q⟩)
    ·exact .inl q
    ·exact .inr ⟨d,q⟩
    ·exact absurd d e
 ·rw[OV h,P]
  constructor
  ·rintro (q | ⟨d,q⟩)
   ·exact .inl q
   ·exact .inr ⟨.inl d,q⟩
  ·rintro (q | ⟨d | ⟨rfl,rfl⟩,q1,q2⟩)
   ·exact .inl q
   ·exact .inr ⟨d,q1,q2⟩
   ·exact absurd ⟨r.mpr q1,c.mpr q2⟩ h
def Phase.done {M0 M:Tb}{m n:Nat}{D:Nat->Nat->Prop}(P:Phase M0 M m D)(hD:∀a b,a < n->b < n->D a b)(hM:∀a b,M0 a b=true->a < n/\b < n)(T:Gh M0 m) :
  Gh M (m + 1)/\∀a b,M a b=true->a < n/\b < n:=by
 have hM':∀a b,M a b=true->a < n/\b < n:=λa b h=>by
  rcases (P a b).mp h with q | ⟨_,q1,q2⟩
  ·exact hM a b q
  ·exact⟨(hM _ _ q1).1,(hM _ _ q2).2⟩
 have put:∀a b,M0 a m=true->M0 m b=true->M a b=true:=λa b h1 h2=>(P a b).mpr (.inr ⟨hD a b (hM _ _ h1).1 (hM _ _ h2).2,h1,h2⟩)
 refine⟨λk a b hk h1 h2=>?_,hM'⟩
 rcases Ri k m with c |c
 ·rcases (P a k).mp h1 with q1 | ⟨_,q1,q1'⟩
  ·rcases (P k b).mp h2 with q2 | ⟨_,q2,q2'⟩
   ·exact (P a b).mpr (.inl (T k a b c q1 q2))
   ·exact put a b (T k a m c q1 q2) q2'
  ·rcases (P k b).mp h2 with q2 | ⟨_,q2,q2'⟩
   ·exact put a b q1 (T k m b c q1' q2)
   ·exact put a b q1 q2'
 ·have e:k=m:=by omega
  subst e
  exact put a b ((P.row a).mp h1) ((P.col b).mp h2)
structure Tab (n:Nat)(ps:List Pr)(M:Tb):Prop where
 inn:∀a b,M a b=true->a < n/\b < n
 sub:∀a b:Nat,((a:Int),(b:Int))∈ps->M a b=true
 sup:∀a b:Nat,M a b=true->Tr (Mem ps) a b
def Tab.phase {n:Nat}{ps:List Pr}{M0 M:Tb}{m:Nat}{D:Nat->Nat->Prop}(T:Tab n ps M0)(P:Phase M0 M m D):Tab n ps M:=
 ⟨λa b h=>by
  rcases (P a b).mp h with q | ⟨_,q1,q2⟩
  ·exact T.inn a b q
  ·exact⟨(T.inn _ _ q1).1,(T.inn _ _ q2).2⟩,
  λa b h=>(P a b).mpr (.inl (T.sub a b h)),
  λa b h=>by
  rcases (P a b).mp h with q | ⟨_,q1,q2⟩
  ·exact T.sup a b q
  ·exact (T.sup _ _ q1).trans (T.sup _ _ q2)⟩
def Tab.all {n:Nat}{ps:List Pr}{M:Tb}(w:Wn n ps)(T:Tab n ps M)(H:Gh M n)(a b:Nat):M a b=true↔Tr (Mem ps) a b:=by
 refine⟨T.sup a b,λh=>?_⟩
 have key:∀{x y:Int},Tr (Mem ps) x y->M x.toNat y.toNat=true:=λ{x y} h=>by
  induction h with
  | @one x y r=>
   have:=w _ r
   refine T.sub _ _ ?_
   have e1:((x.toNat:Nat):Int)=x:=by simp only at this;omega
   have e2:((y.toNat:Nat):Int)=y:=by simp only at this;omega
   rw[e1,e2];exact r
  | @more x y z r _ ih=>
   have:=w _ r
   have e1:((x.toNat:Nat):Int)=x:=by simp only at this;omega
   have e2:((y.toNat:Nat):Int)=y:=by simp only at this;omega
   have q:M x.toNat y.toNat=true:=T.sub _ _ (by rw[e1,e2];exact r)
   exact H y.toNat _ _ (T.inn _ _ q).2 q ih
 have:=key h
 simpa using this
end OM
namespace L2
open PySem PySem.Spec PyProof.Rows
abbrev Pr:=Int×Int
abbrev Sm:=L2.ST.Sm
section
variable {X:Cx}{pins:List (Addr×Obj)}{σ:St}{H H':Hp}{s:Shared}
def jr (H H':Hp):Prop:=(∀b xs,H b=some (.tup xs)->H' b=some (.tup xs))/\∀b o u,H b=some (.a9 o u)->H' b=some (.a9 o u)
def jr.refl (H:Hp):jr H H:=⟨λ_ _ h=>h,λ_ _ _ h=>h⟩
def jr.trans {H H1 H2:Hp}(a:jr H H1)(b:jr H1 H2):jr H H2:=⟨λc xs h=>b.1 c xs (a.1 c xs h),λc o u h=>b.2 c o u (a.2 c o u h)⟩
def av.grow {H H':Hp}(e:av H H'):jr H H':=⟨λb xs h=>e b _ h,λb o u h=>e b _ h⟩
def jr.new {H:Hp}{l:Addr}{o:HO}(h:H l=none):jr H (upd H l o):=⟨λb xs e=>by rw[aA (aM e h)];exact e,λb o' u e=>by rw[aA (aM e h)];exact e⟩
def av.new {H:Hp}{l:Addr}{o:HO}(h:H l=none):av H (upd H l o):=λb u e=>Kt.of (by rw[aA (aM e h)];exact e)
def gA.grow {K:Frag}{a:Addr}{xs:List V}(h:gA K H a xs)(g:jr H H'):gA K H' a xs:=by
 rcases h with (h | ⟨o,h⟩) |h
 ·exact .inl (.inl (g.1 _ _ h))
 ·exact .inl (.inr ⟨o,g.2 _ _ _ h⟩)
 ·exact .inr h
def jr.list {a:Addr}{ys:List V}{o:HO}(h:H a=some (.lst ys)):jr H (upd H a o):=
 ⟨λb xs e=>by rw[aA (Hz e h (by intro z;cases z))];exact e,λb o' u e=>by rw[aA (Hz e h (by intro z;cases z))];exact e⟩
def bS (K:Frag)(H:Hp):List V->List Pr->Prop:=Paired λv p=>∃a,v=.ref a/\gA K H a [.int p.1,.int p.2]
def bS.grow {K:Frag}{vs:List V}{ps:List Pr}(h:bS K H vs ps)(g:jr H H'):bS K H' vs ps:=Paired.mapP h λv p ⟨a,e,q⟩=>⟨a,e,q.grow g⟩
theorem Paired.getP {α β:Type}{F:α->β->Prop}:∀{l:List α} {m:List β} {i:Nat} {x:α},Paired F l m->l[i]? =some x->∃y,m[i]? =some y/\F x y
 |_,_,_,_,.nil,e=>by simp at e
 |_,_,0,_,.cons r _,e=>by simp at e;subst e;exact⟨_,rfl,r⟩
 |_,_,i + 1,x,.cons _ t,e=>by
  obtain⟨u,h1,h2⟩:=Paired.getP (i:=i) (x:=x) t (by simpa using e)
  exact⟨u,by simpa using h1,h2⟩
end
def iE (cells:List (Str×Addr)):List (Str×NameKind)->List (Str×Addr)->List (Str×Addr)
 | [],cs=>cs
 | (n,k) :: r,cs=>iE cells r (if k == .free then (n,(cells.lookup n).getD 0) :: cs else cs)
def nA {scope:Scope}{env:Env}(h:∀y∈scope.names,y.2=.free->∃c,env.cells.lookup y.1=some c):closureFor scope env=pure (iE env.cells scope.names []):=by
 unfold closureFor
 have key:∀(l:List (Str×NameKind)) (cs:List (Str×Addr)),(∀y∈l,y.2=.free->∃c,env.cells.lookup y.1=some c)->
   (forIn l cs (λ(x:Str×NameKind) (r:List (Str×Addr))=>if (x.2 == NameKind.free)=true then (do let a <-cellOf env x.1;pure (ForInStep.yield ((x.1,a) :: r)):Sem _) else pure (ForInStep.yield r)):Sem (List (Str×Addr)))=pure (iE env.cells l cs):=by
  intro l
  induction l with
  |nil=>intro cs _;rfl
  |cons y l ih=>
   intro cs hy
   obtain⟨n,k⟩:=y
   rw[List.forIn_cons]
   unfold iE
   by_cases hk:(k == NameKind.free)=true
   ·have hk':k=.free:=by simpa using hk
    obtain⟨c,hc⟩:=hy (n,k) (OU ..) hk'
    have hce:cellOf env n=pure c:=by unfold cellOf;rw[hc]
    simp only[hk,Qs]
    have hc':env.cells.lookup n=some c:=hc
    rw[hce,hc']
    simp only[pure_bind,Option.getD_some]
    exact ih _ λz hz=>hy z (OS _ hz)
   ·simp only[hk,Q4,Qw]
    simp only[pure_bind]
    exact ih _ λz hz=>hy z (OS _ hz)
 have:=key scope.names [] h
 simp only[bind_pure_comp] at this ⊢
 first
  |exact this
  | (rw[this];rfl)
  | (simpa using this)
theorem mn {cells:List (Str×Addr)}{x:Str}:∀{l:List (Str×NameKind)} {cs:List (Str×Addr)},((x,NameKind.free)∈l\/cs.lookup x=some ((cells.lookup x).getD 0))->(iE cells l cs).lookup x=some ((cells.lookup x).getD 0)
 | [],cs,h=>by
  rcases h with h |h
  ·cases h
  ·exact h
 | (n,k) :: r,cs,h=>by
  unfold iE
  refine mn ?_
  by_cases hk:(k == NameKind.free)=true
  ·rw[OO hk]
   by_cases hx:x=n
   ·subst hx;right;simp
   ·rcases h with h |h
    ·rcases OR.mp h with e |e
     ·injection e with e1 _;exact absurd e1 hx
     ·exact .inl e
    ·right
     rw[lookup_cons,show (x == n)=false by simpa using hx]
     exact h
  ·rw[OV hk]
   rcases h with h |h
   ·rcases OR.mp h with e |e
    ·injection e with _ e2;exact absurd (by rw[<-e2];rfl) hk
    ·exact .inl e
   ·exact .inr h
theorem mO {cells:List (Str×Addr)}{x:Str}{c:Addr}:∀{l:List (Str×NameKind)} {cs:List (Str×Addr)},(iE cells l cs).lookup x=some c->((x,NameKind.free)∈l/\c=(cells.lookup x).getD 0)\/cs.lookup x=some c
 | [],cs,h=>.inr h
 | (n,k) :: r,cs,h=>by
  unfold iE at h
  rcases mO h with⟨a,b⟩ |a
  ·exact .inl ⟨OS _ a,b⟩
  ·by_cases hk:(k == NameKind.free)=true
   ·rw[OO hk,lookup_cons] at a
    by_cases hx:x=n
    ·subst hx
     simp at a
     have:k=.free:=by simpa using hk
     subst this
     exact .inl ⟨OU ..,a.symm⟩
    ·rw[show (x == n)=false by simpa using hx] at a
     exact .inr a
   ·rw[OV hk] at a
    exact .inr a
theorem o9 {f:Str->NameKind->NameKind}{x:Str}:∀(l:List (Str×NameKind)),(l.map λy=>(y.1,f y.1 y.2)).lookup x=(l.lookup x).map (f x)
 | []=>rfl
 | (n,k) :: l=>by
  rw[PH,lookup_cons,lookup_cons]
  by_cases hx:x=n
  ·subst hx;simp
  ·have hb:(x == n)=false:=by simpa using hx
   simp only[hb]
   exact o9 l
def rF (scope:Scope)(env:Env)(x:Str):(relabel scope env).names.lookup x=(scope.names.lookup x).map λk=>if (k == .free && env.scope.kind == .function && env.kindOf x == some .cell) then .cell else k:=by
 have e:(relabel scope env).names=scope.names.map λy=>(y.1,if (y.2 == .free && env.scope.kind == .function && env.kindOf y.1 == some .cell) then .cell else y.2):=by
  unfold relabel
  dsimp only
  refine P5 λy _=>?_
  obtain⟨n,k⟩:=y
  dsimp only
  split <;> rfl
 rw[e]
 exact o9 (f:=λn k=>if (k == .free && env.scope.kind == .function && env.kindOf n == some .cell) then .cell else k) scope.names
theorem nk:∀(l:List (Str×NameKind)) (n:Nat) (acc:List (Str×Addr)),cellsFrom n l acc=cellsFrom n l [] ++ acc
 | [],_,_=>rfl
 | (x,k) :: r,n,acc=>by
  unfold cellsFrom
  split
  ·rw[nk r (n + 1) ((x,n) :: acc),nk r (n + 1) [(x,n)],PD];rfl
  ·exact nk r n acc
theorem qv:∀{l:List (Str×NameKind)} {n:Nat} {x:Str} {c:Addr},(x,c)∈cellsFrom n l []->n<=c/\(x,NameKind.cell)∈l
 | [],_,_,_,h=>by cases h
 | (y,k) :: r,n,x,c,h=>by
  unfold cellsFrom at h
  split at h
  ·rename_i hk
   have hk:k=.cell:=by simpa using hk
   rw[nk] at h
   rcases O4.mp h with h |h
   ·have:=qv h;exact⟨by omega,OS _ this.2⟩
   ·rw[O3] at h;cases h;subst hk;exact⟨ON _,OU ..⟩
  ·have:=qv h;exact⟨this.1,OS _ this.2⟩
abbrev FO (X:Cx)(scope:Scope)(C:Addr):List (Str×Addr):=cellsFrom (C + 1) scope.names (iE X.env.cells scope.names [])
def GQ {M:Model}{A:Around}{E:Value->Shared->Prop}{s:Shared}{scope:Scope}{g:Addr}{cl:List (Str×Addr)}{qual:Str}{env:Env}{Q:Env->Shared->Prop}
  (h:∀h',h'.Ns s.heap.objs.size (λ_=>none)->(∀b o,s.heap.get? b=some o->h'.get? b=some o)->CellsOk h' (s.heap.objs.size + 1) (cellsFrom (s.heap.objs.size + 1) scope.names [])->Q (newEnv scope s.heap.objs.size g (cellsFrom (s.heap.objs.size + 1) scope.names cl) qual none .none (some env) builtinsNs) {s with heap:=h'}) :
  wpAny M A (newFunctionEnv scope g cl [] qual none .none (some env)) Q E s:=by
 simp only[newFunctionEnv,Option.isSome_some,Qs]
 refine OT (wpAny_alloc ?_)
 refine OT (wpAny_layCells _ (λname kind cells=>by cases hkc:kind == NameKind.cell <;> simp[hkc]) _ _ _ _ ?_)
 have ok:=cellsFrom_ok scope.names (s.heap.push {cls:=.type "dict",data:=.dict #[]}) (s.heap.objs.size + 1) [] ⟨λ_ _ hm=>(nomatch hm),List.Pairwise.nil⟩ (by rw[Qo];exact ON _)
 rw[Qo] at ok
 rw[show ({s with heap:=s.heap.push {cls:=.type "dict",data:=.dict #[]}}:Shared).heap.objs.size=s.heap.objs.size + 1 from Qo ..]
 rw[List.forIn_nil]
 exact OT (Pl (Pl (h _ ((Heap.Ns.new s.heap (.type "dict")).keeps (pushCells_keeps _ _)) (λb o e=>pushCells_keeps _ _ b o (OL _ e)) ok)))
def jq (X:Cx)(NB:List Str)(scope:Scope)(C:Addr)(ex:List Addr)(s3:Shared)(H3:Hp)(pn:List (Addr×Obj)):Cx:=
 {X with N:=NB,s₀:=s3,H₀:=H3,env:=compEnvC scope (FO X scope C) C X.env,outer:=X.stack,ex:=ex,fn:=λx=>scope.names.lookup x == some .cell,pn:=pn,xe:=λ_ _=>False}
def bO (own:Nat)(ixs:List Nat)(σ:St):St:=List.replicate own none ++ ixs.map λi=>(σ[i]?).join
structure cg (X:Cx)(NB:List Str)(own:Nat)(ixs:List Nat)(scope:Scope):Prop where
 kind:scope.kind=.function
 names:∀y∈scope.names,scope.names.lookup y.1=some y.2
 frees:∀y∈scope.names,y.2=.free->X.env.kindOf y.1=some .cell\/X.env.kindOf y.1=some .free
 nd:NB.Nodup
 len:NB.length=own + ixs.length
 at':∀k,k < ixs.length->NB[own + k]? =X.N[ixs.getD k 0]?/\∀x,NB[own + k]? =some x->(x,NameKind.free)∈scope.names
section
variable {X:Cx}{NB:List Str}{own:Nat}{ixs:List Nat}{scope:Scope}{pins:List (Addr×Obj)}{σ:St}{H:Hp}{s:Shared}
def A1 (S:cg X NB own ixs scope)(I:Inv X pins σ H s){fp:List Addr}(hfp:∀b∈fp,jU X pins H b)(hob:∀b∈fp,∃o,s.heap.get? b=some o){h1:Heap}{tk:Nat}
  (hn:h1.Ns s.heap.objs.size (λ_=>none)) (hk:∀b o,s.heap.get? b=some o->h1.get? b=some o) (hcl:CellsOk h1 (s.heap.objs.size + 1) (cellsFrom (s.heap.objs.size + 1) scope.names [])) :
  Inv (jq X NB scope s.heap.objs.size fp s H (X.pn ++ pins)) [] (bO own ixs σ) H {s with heap:=h1,toks:=tk}:=by
 have stk:=I.stack
 have frees:∀{x:Str},(x,NameKind.free)∈scope.names->∃c,X.env.cells.lookup x=some c:=λ{x} hx=>I.ok.has x (S.frees _ hx rfl)
 have clE:∀{x:Str} {c:Addr},(FO X scope s.heap.objs.size).lookup x=some c->((x,c)∈cellsFrom (s.heap.objs.size + 1) scope.names []/\s.heap.objs.size < c)\/((x,NameKind.free)∈scope.names/\X.env.cells.lookup x=some c):=λ{x c} h=>by
  unfold FO at h
  rw[nk,List.lookup_append] at h
  cases q:(cellsFrom (s.heap.objs.size + 1) scope.names []).lookup x with
  |some c'=>
   rw[q] at h
   cases h
   have hm:=PY q
   exact .inl ⟨hm,(qv hm).1⟩
  |none=>
   rw[q] at h
   have h:(iE X.env.cells scope.names []).lookup x=some c:=h
   rcases mO h with⟨a,b⟩ |a
   ·obtain⟨c',e⟩:=frees a
    rw[e] at b
    exact .inr ⟨a,by rw[e,b];rfl⟩
   ·simp at a
 have clF:∀{x:Str},(x,NameKind.free)∈scope.names->(FO X scope s.heap.objs.size).lookup x=some ((X.env.cells.lookup x).getD 0):=λ{x} hm=>by
  unfold FO
  rw[nk,List.lookup_append]
  cases q:(cellsFrom (s.heap.objs.size + 1) scope.names []).lookup x with
  |some c'=>
   have h1:=S.names _ (qv (PY q)).2
   have h2:=S.names _ hm
   dsimp only at h1 h2
   rw[h1] at h2
   cases h2
  |none=>exact mn (.inl hm)
 have kindB:∀x,(jq X NB scope s.heap.objs.size fp s H (X.pn ++ pins)).env.kindOf x=(scope.names.lookup x).map λk=>if (k == .free && X.env.scope.kind == .function && X.env.kindOf x == some .cell) then .cell else k:=λx=>rF scope X.env x
 have isFree:∀{x:Str},((jq X NB scope s.heap.objs.size fp s H (X.pn ++ pins)).env.kindOf x=some .cell\/(jq X NB scope s.heap.objs.size fp s H (X.pn ++ pins)).env.kindOf x=some .free)->(x,NameKind.free)∈scope.names\/scope.names.lookup x=some .cell:=λ{x} h=>by
  rw[kindB] at h
  cases e:scope.names.lookup x with
  |none=>rw[e] at h;simp at h
  |some k=>
   have hm:=PY e
   cases k with
   |free=>exact .inl hm
   |cell=>exact .inr rfl
   |_=>rw[e] at h;simp at h
 have neN:∀b o,s.heap.get? b=some o->b≠s.heap.objs.size:=λb o e=>PN (OZ e)
 have cellN:∀{x:Str} {c:Addr},X.env.cells.lookup x=some c->c < s.heap.objs.size:=λ{x c} e=>by
  obtain⟨v,o,ho,_⟩:=I.cell x c e
  exact OZ ho
 have ok:(jq X NB scope s.heap.objs.size fp s H (X.pn ++ pins)).Ok:=by
  refine⟨I.ok.mod,S.kind,I.ok.glob,I.ok.blt,ON _,λx y c h1 h2=>?_,λx hx=>?_,λx c h hc=>?_,I.ok.hd,I.ok.frames,.inl rfl,λb hb=>?_,I.bs,Pz I.ok.bsz I.sz,λb o e hb=>?_,λb hb hs=>?_,stk,I.stkFree⟩
  ·rcases clE h1 with⟨a,l1⟩ | ⟨a,l1⟩
   ·rcases clE h2 with⟨b,l2⟩ | ⟨b,l2⟩
    ·exact name_of_addr hcl.apart a b
    ·exact absurd (Rj l1 (cellN l2)) (Pw _)
   ·rcases clE h2 with⟨b,l2⟩ | ⟨b,l2⟩
    ·exact absurd (Rj l2 (cellN l1)) (Pw _)
    ·exact I.ok.inj x y c l1 l2
  ·rcases isFree hx with hm |hm
   ·exact⟨_,clF hm⟩
   ·obtain⟨c,hc⟩:=Option.isSome_iff_exists.mp (PySem.W.cellsFrom_some scope.names (s.heap.objs.size + 1) (iE X.env.cells scope.names []) (.inl hm))
    exact⟨c,hc⟩
  ·rcases clE hc with⟨a,l1⟩ | ⟨a,l1⟩
   ·exact QE l1
   ·have h1:=S.names _ a
    dsimp only at h1
    have h:(scope.names.lookup x == some NameKind.cell)=true:=h
    rw[h1] at h
    cases h
  ·obtain⟨_,f1,f2,f3,f4,f5⟩:=hfp b hb
   obtain⟨o,ho⟩:=hob b hb
   refine⟨neN b o ho,λx c h z=>?_⟩
   rcases clE h with⟨a,l1⟩ | ⟨a,l1⟩
   ·rw[z] at l1
    exact Pw _ (Rj l1 (OZ ho))
   ·exact f4 x c l1 z
  ·obtain⟨_,f1,f2,f3,f4,f5⟩:=hfp b hb
   rcases f3 with f3 |f3
   ·exact I.ok.noex b o e f3
   ·exact absurd (Pk (OZ e) (Pz I.ok.bsz f3)) (Pw _)
  ·obtain⟨_,f1,f2,f3,f4,f5⟩:=hfp b hb
   rcases OR.mp (I.stkSub b hs) with z |z
   ·exact f1 z
   ·exact f2 z
 refine⟨ok,rfl,I.bare,Un.kept hk,⟨_,hn,λi x v h1' h2' h3'=>?_⟩,λx c h=>?_,I.hok.fresh (ON _),λx c h=>?_,λp hp=>?_,I.hok.kept hk,?_⟩
 ·
  have h1':NB[i]? =some x:=h1'
  have hown:own<=i:=by
   refine Classical.byContradiction λhc=>?_
   have hlt:i < own:=Nat.lt_of_not_le hc
   unfold bO at h2'
   rw[Pg (by simpa using hlt),P6,OO hlt] at h2'
   cases h2'
  obtain⟨k,rfl⟩:∃k,i=own + k:=⟨i - own,by omega⟩
  have hk':k < ixs.length:=by
   have:=(OQ.mp h1').1
   rw[S.len] at this;omega
  obtain⟨e1,e2⟩:=S.at' k hk'
  have hm:=e2 x h1'
  unfold bO at h2'
  rw[Pj (by simp),PU,Nat.add_sub_cancel_left,OW,OJ hk'] at h2'
  simp only[Option.map_some,Option.some.injEq] at h2'
  have hix:ixs.getD k 0=ixs[k]:=by simp[hk']
  have hσ:σ[ixs[k]]? =some (some v):=by
   cases e:σ[ixs[k]]? with
   |none=>rw[e] at h2';cases h2'
   |some o=>rw[e] at h2';simp at h2';rw[h2']
  rw[e1,hix] at h1'
  have hkind:=S.frees _ hm rfl
  have hvis:zJ X.env.scope x:=hkind.elim (λz=>.inr (.inl z)) (λz=>.inr (.inr z))
  obtain⟨m,hm',hl⟩:=I.loc
  obtain⟨u,r,look⟩:=hl _ x v h1' hσ hvis
  refine⟨u,r,.inr ⟨?_,?_⟩⟩
  ·rw[kindB]
   have hfr:scope.names.lookup x=some .free:=S.names _ hm
   rw[hfr]
   simp only[Option.map_some]
   split
   ·exact .inl rfl
   ·exact .inr rfl
  ·rcases look with⟨z,_⟩ | ⟨_,c,hc,hcell⟩
   ·rcases hkind with q |q
    ·rw[q] at z;cases z
    ·rw[q] at z;cases z
   ·refine⟨c,?_,?_⟩
    ·have:=clF hm
     rw[hc] at this
     exact this
    ·obtain⟨o,ho,hd⟩:=hcell
     exact⟨o,hk _ _ ho,hd⟩
 ·rcases clE h with⟨a,_⟩ | ⟨_,l1⟩
  ·exact⟨_,(hcl.empty _ _ a).1⟩
  ·obtain⟨v,o,ho,hd⟩:=I.cell x c l1
   exact⟨v,o,hk _ _ ho,hd⟩
 ·rcases clE h with⟨_,l1⟩ | ⟨_,l1⟩
  ·exact I.hok.fresh (QE l1)
  ·exact I.freeC x c l1
 ·have hp':p∈X.pn ++ pins:=by
   rcases O4.mp hp with z |z
   ·exact z
   ·cases z
  obtain⟨e,n,ne,nf,d⟩:=I.pin p hp'
  refine⟨hk _ _ e,n,neN _ _ e,λz=>?_,d⟩
  rcases OR.mp (I.stkSub _ z) with q |q
  ·exact ne q
  ·exact nf q
 ·show (bO own ixs σ).length=NB.length
  unfold bO
  rw[S.len];simp
end
abbrev zL (ifs:List Expr)(env:Env):Sem Bool:=forIn ifs true λc r=>if r=true then do let ok <-isTrue c env (eval c env);pure (ForInStep.yield ok) else pure (ForInStep.yield r)
theorem B0 {prog:Program}{w:World}{A:Around}{R:Result->Shared->Prop}{s:Shared}{elt target iter:Expr}{ifs:List Expr}{scope:Scope}{pos:Pos}{it acc:Value}{env:Env}(I:Nat->Shared->Prop)
  (turn:∀n s,I n s->wpAny (model prog w) A (pyNext it) (λr s1=>match r with
   |none=>R (.ok .next) s1
   |some v=>wpAny (model prog w) A (letOwnedTupleGo target it v) (λ_ s1'=>wpAny (model prog w) A (assign target env v) (λ_ s2=>
     wpAny (model prog w) A (zL ifs env) (λok s3=>
      if ok=true then wpAny (model prog w) A (eval elt env) (λx s4=>wpAny (model prog w) A (call (.builtin "list.append") [acc,x]) (λ_ s5=>∃m,m < n/\I m s5) (λ_ _=>False) s4) (λ_ _=>False) s3
      else ∃m,m < n/\I m s3) (λ_ _=>False) s2) (λ_ _=>False) s1') (λ_ _=>False) s1) (λ_ _=>False) s)
  (n:Nat) (h:I n s):codeAny (model prog w) A (.compLoop (.ListComp elt [⟨target,iter,ifs,0⟩] scope pos) 0 it acc env) R s:=by
 refine codeAny_loop rfl I (λn s hI=>?_) n h
 (show wpAny _ A ((compTurn (.ListComp elt [⟨target,iter,ifs,0⟩] scope pos) 0 it acc env).onRaise (λx=>do (noteFrame x env);theTreesLotGoes x)) _ _ s)
 refine wpAny_noted ?_
 rw[compTurn_list]
 refine OT (wpAny_standAt (OT (P9 (turn n s hI) (λr s1 h1=>?_) λ_ _ z=>z.elim)))
 cases r with
 |none=>exact Pl h1
 |some v=>
  refine OT (P9 h1 (λ_ s1' h1'=>?_) λ_ _ z=>z.elim)
  refine OT (P9 h1' (λ_ s2 h2=>OT (P9 h2 (λok s3 h3=>?_) λ_ _ z=>z.elim)) λ_ _ z=>z.elim)
  cases ok with
  |false=>exact Pl ⟨rfl,h3⟩
  |true=>exact OT (OT (P9 h3 (λx s4 h4=>OT (P9 h4 (λ_ s5 h5=>Pl (Pl ⟨rfl,h5⟩)) λ_ _ z=>z.elim)) λ_ _ z=>z.elim))
def DW (X:Cx)(ifs:List Expr)(t:TT):Prop:=
 ∀(pins:List (Addr×Obj)) (s:Shared) (σ:St) (H:Hp) (Q:Bool->Hp->Prop),Inv X pins σ H s->t σ H Q->wpAny (model X.prog X.w) X.A (zL ifs X.env) (TP X pins σ Q) X.xe s
def HZ:TT:=λ_ H Q=>Q true H
def ux {X:Cx}:DW X [] HZ:=λpins s σ H Q I h=>Pl ⟨H,I,h⟩
def Ak {X:Cx}{c:Expr}{t:TT}(h:PT X c t):DW X [c] t:=λpins s σ H Q I q=>wpAny_tests_one (h pins s σ H Q I q)
def yf (own:Nat)(ixs:List Nat)(wi:TI)(g:TG)(tt:TT)(te:TE)(σ:St)(H:Hp)(Q:VK):Prop:=wi σ H λJ H1=>∀D,H1 D=none->∃W:Nat->Nat->St->Hp->Prop,(∃m,W 0 m (bO own ixs σ) (upd H1 D (.lst [])))/\∀i m σ' H',W i m σ' H'->
 (J.stop i H'/\(∃acc,H' D=some (.lst acc))/\Q (.ref D) H')\/
 (J.go i H'/\∃N:St->Hp->Prop,(∀σ2 H2,N σ2 H2->∃m',m' < m/\W (i + 1) m' σ2 H2)/\∀x H2,J.yld i H' x H2->g x σ' H2 λσ3 H3=>tt σ3 H3 λb H4=>
  if b=true then te σ3 H4 λv H5=>∃acc,H5 D=some (.lst acc)/\acc.length < sizeLine/\N σ3 (upd H5 D (.lst (acc ++ [v]))) else N σ3 H4)
section
variable {X:Cx}{NB:List Str}{own:Nat}{ixs:List Nat}{scope:Scope}{elt tg iter:Expr}{ifs:List Expr}{pos:Pos}{wi:TI}{g:TG}{tt:TT}{te:TE}
def sX (hc:X.calm=true)(S:cg X NB own ixs scope)
  (hg:∀C ex s3 H3 pn,PG (jq X NB scope C ex s3 H3 pn) tg g) (ht:∀C ex s3 H3 pn,DW (jq X NB scope C ex s3 H3 pn) ifs tt) (he:∀C ex s3 H3 pn,PE (jq X NB scope C ex s3 H3 pn) elt te)
  {pins:List (Addr×Obj)} {σ:St} {H1:Hp} {s2:Shared} {it:Addr} {fp:List Addr} {tn:Nat->Heap->Prop} {J:It} {Q:VK} (I2:Inv X pins σ H1 s2) (T:Turn X.prog X.w X.K tg J fp it tn) (st2:tn 0 s2.heap) (f2:∀b∈fp,jU X pins H1 b)
  (hQ:∀D,H1 D=none->∃W:Nat->Nat->St->Hp->Prop,(∃m,W 0 m (bO own ixs σ) (upd H1 D (.lst [])))/\∀i m σ' H',W i m σ' H'->
   (J.stop i H'/\(∃acc,H' D=some (.lst acc))/\Q (.ref D) H')\/
   (J.go i H'/\∃N:St->Hp->Prop,(∀σ2 H2,N σ2 H2->∃m',m' < m/\W (i + 1) m' σ2 H2)/\∀x H2,J.yld i H' x H2->g x σ' H2 λσ3 H3=>tt σ3 H3 λb H4=>
    if b=true then te σ3 H4 λv H5=>∃acc,H5 D=some (.lst acc)/\acc.length < sizeLine/\N σ3 (upd H5 D (.lst (acc ++ [v]))) else N σ3 H4))
  {E:Value->Shared->Prop} {RR:Value->Addr->Result->Shared->Prop}
  (fin:∀D C H' s' m,Inv X pins σ H' s'->Q (.ref D) H'->s'.heap.Ns C m->H' C=none->C≠X.env.locals->(∀x c,X.env.cells.lookup x=some c->c≠C)->X.s₀.heap.objs.size<=C->(∀p∈X.pn ++ pins,p.1≠C)->RR (.ref D) C (.ok .next) s') :
  wpAny (model X.prog X.w) X.A (newList []) (λacc s3=>wpAny (model X.prog X.w) X.A (newFunctionEnv scope X.env.globals (iE X.env.cells scope.names []) [] X.env.qual none .none (some X.env)) (λcenv s4=>
   codeAny (model X.prog X.w) X.A (.compStart (.ListComp elt [⟨tg,iter,ifs,0⟩] scope pos) 0 (.ref it) acc {cenv with scope:=relabel scope X.env}) (RR acc cenv.locals) s4) E s3) E s2:=by
 refine wpAny_newList ?_ (PX _)
 have hD:H1 s2.heap.objs.size=none:=I2.hok.fresh (ON _)
 obtain⟨W,⟨m0,w0⟩,turn⟩:=hQ s2.heap.objs.size hD
 generalize hs3:({s2 with heap:=s2.heap.push (seqObj "list" ([]:List Value).toArray 0)}:Shared)=s3
 have I3:Inv X pins σ (upd H1 s2.heap.objs.size (.lst [])) s3:=by
  rw[<-hs3]
  exact I2.lnew (ys:=[]) (its:=[]) (t':=s2.toks) .nil (PX _)
 have k3:∀b o,s2.heap.get? b=some o->s3.heap.get? b=some o:=λb o e=>by rw[<-hs3];exact OL _ e
 have sz3:s3.heap.objs.size=s2.heap.objs.size + 1:=by rw[<-hs3];exact Qo ..
 have ob2:∀b∈fp,∃o,s2.heap.get? b=some o:=λb hb=>let ⟨o,e,_⟩:=T.obj 0 _ st2 b hb;⟨o,e⟩
 have neD:∀b∈fp,b≠s2.heap.objs.size:=λb hb=>let ⟨o,e⟩:=ob2 b hb;PN (OZ e)
 have f3:∀b∈fp,jU X pins (upd H1 s2.heap.objs.size (.lst [])) b:=λb hb=>by
  obtain⟨a1,a2⟩:=f2 b hb
  exact⟨by rw[aA (neD b hb)];exact a1,a2⟩
 have st3:tn 0 s3.heap:=T.keep _ _ _ st2 λb _ o e=>k3 b o e
 refine GQ λh4 hn4 k4 ok4=>?_
 have I4:Inv (jq X NB scope s3.heap.objs.size fp s3 (upd H1 s2.heap.objs.size (.lst [])) (X.pn ++ pins)) [] (bO own ixs σ) (upd H1 s2.heap.objs.size (.lst [])) {s3 with heap:=h4}:=
  A1 S I3 f3 (λb hb=>let ⟨o,e⟩:=ob2 b hb;⟨o,k3 _ _ e⟩) hn4 k4 ok4
 have st4:tn 0 h4:=T.keep _ _ _ st3 λb _ o e=>k4 b o e
 generalize hB:jq X NB scope s3.heap.objs.size fp s3 (upd H1 s2.heap.objs.size (.lst [])) (X.pn ++ pins)=B at I4
 have hgB:PG B tg g:=by rw[<-hB];exact hg _ _ _ _ _
 have htB:DW B ifs tt:=by rw[<-hB];exact ht _ _ _ _ _
 have heB:PE B elt te:=by rw[<-hB];exact he _ _ _ _ _
 have eP:B.prog=X.prog:=by rw[<-hB];rfl
 have eW:B.w=X.w:=by rw[<-hB];rfl
 have eK:B.K=X.K:=by rw[<-hB];rfl
 have eA:B.A=X.A:=by rw[<-hB];rfl
 have eC:B.calm=true:=by rw[<-hB];exact hc
 have eX:B.xe=λ_ _=>False:=by rw[<-hB];rfl
 have eE:B.env=compEnvC scope (FO X scope s3.heap.objs.size) s3.heap.objs.size X.env:=by rw[<-hB];rfl
 have ex:B.ex=fp:=by rw[<-hB];rfl
 have eL:B.env.locals=s3.heap.objs.size:=by rw[eE];rfl
 have stat:∀{H':Hp},(∀b∈fp,H' b=none)->∀b∈fp,jU B [] H' b:=λ{H'} hn b hb=>by
  obtain⟨a1,a2,a3,a4,a5,a6⟩:=f3 b hb
  obtain⟨o,eo⟩:=ob2 b hb
  refine⟨hn b hb,?_,λz=>?_,.inl (by rw[ex];exact hb),λx c e z=>?_,λp hp z=>?_⟩
  ·rw[eL];exact PN (OZ (k3 _ _ eo))
  ·have hz:b∈j8 X.stack:=by rw[<-hB] at z;exact z
   rcases OR.mp (I3.stkSub b hz) with q |q
   ·exact a2 q
   ·exact a3 q
  ·rw[eE] at e
   have e:(FO X scope s3.heap.objs.size).lookup x=some c:=e
   unfold FO at e
   rw[nk,List.lookup_append] at e
   cases q:(cellsFrom (s3.heap.objs.size + 1) scope.names []).lookup x with
   |some c'=>
    rw[q] at e
    cases e
    have l1:=(qv (PY q)).1
    rw[z] at l1
    exact Pw _ (Rj l1 (OZ (k3 _ _ eo)))
   |none=>
    rw[q] at e
    have e:(iE X.env.cells scope.names []).lookup x=some c:=e
    rcases mO e with⟨m1,m2⟩ |m1
    ·obtain⟨c',e'⟩:=I3.ok.has x (S.frees _ m1 rfl)
     rw[e'] at m2
     exact a5 x c' e' (by rw[<-z,m2];rfl)
    ·simp at m1
  ·have hp':p∈X.pn ++ pins:=by
    rw[<-hB] at hp
    rcases O4.mp hp with q |q
    ·exact q
    ·cases q
   exact a6 p hp' z
 have back:∀{σ':St} {H':Hp} {s':Shared},Inv B [] σ' H' s'->Inv X pins σ H' s':=λ{σ' H' s'} J'=>by
  have u:=J'.base
  have os:=J'.os
  have bare:=J'.bare
  have hok:=J'.hok
  subst hB
  exact I3.call' (ch:=fp) os u hok bare λb hb=>by
   obtain⟨a1,a2,a3,a4,a5,a6⟩:=f3 b hb
   exact⟨a4,a2,a5,a6⟩
 have loop:∀s5:Shared,s5={s3 with heap:=h4}->
   codeAny (model X.prog X.w) X.A (.compLoop (.ListComp elt [⟨tg,iter,ifs,0⟩] scope pos) 0 (.ref it) (.ref s2.heap.objs.size) (compEnvC scope (FO X scope s3.heap.objs.size) s3.heap.objs.size X.env)) (RR (.ref s2.heap.objs.size) s3.heap.objs.size) s5:=by
  rintro s5 rfl
  refine B0 (λn s'=>∃i σ' H',Inv B [] σ' H' s'/\tn i s'.heap/\(∀b∈fp,H' b=none)/\W i n σ' H') ?_ m0 ⟨0,_,_,I4,st4,λb hb=>(f3 b hb).1,w0⟩
  rintro n s6 ⟨i,σ6,H6,I6,st6,fr6,w6⟩
  rcases turn i n σ6 H6 w6 with⟨stop,⟨acc,hacc⟩,qn⟩ | ⟨go,N,hN,step⟩
  ·have:=T.done B eP eW eK eC i [] s6 σ6 H6 (λ_ _=>False) I6 (stat fr6) st6 stop
   rw[eA] at this
   refine cO this λr s7 ⟨hr,I7⟩=>?_
   subst hr
   obtain⟨m7,hn7,_⟩:=I7.loc
   rw[eL] at hn7
   have J7:=back I7
   refine fin _ _ H6 s7 m7 J7 qn hn7 (by rw[<-eL];exact I7.free) (λz=>?_) (λx c e z=>?_) ?_ λp hp z=>?_
   ·have:=I3.lt
    rw[<-z] at this
    exact Pw _ this
   ·obtain⟨v,o,ho,_⟩:=I3.cell x c e
    exact absurd (OZ ho) (by rw[z];exact Pw _)
   ·exact I3.sz
   ·have:=OZ (I3.pin p hp).1
    rw[z] at this
    exact Pw _ this
  ·have hitem:=T.item B eP eW eK eC i [] s6 σ6 H6 (λ_ _=>False) I6 (stat fr6) st6 go
   rw[eA] at hitem
   refine cO hitem λr s7 ⟨u,hr,h7⟩=>?_
   subst hr
   refine cO h7 λ_ s8 ⟨x,H8,I8,r8,y8,st8,fr8⟩=>?_
   have I8':=I8.pinned (stat fr8) (T.obj _ _ st8)
   have ha:=hgB _ s8 σ6 H8 x u _ I8' r8 (step x H8 y8)
   rw[eP,eW,eA,eE,eX] at ha
   refine cO ha λ_ s9 ⟨σ9,H9,I9,q9⟩=>?_
   have hb:=htB _ s9 σ9 H9 _ I9 q9
   rw[eP,eW,eA,eE,eX] at hb
   refine cO hb λok s10 ⟨H10,I10,q10⟩=>?_
   have again:∀{σ7:St} {H7:Hp} {s7:Shared},Inv B ([] ++ qR fp s8.heap) σ7 H7 s7->N σ7 H7->∃m,m < n/\∃i σ' H',Inv B [] σ' H' s7/\tn i s7.heap/\(∀b∈fp,H' b=none)/\W i m σ' H':=λ{σ7 H7 s7} I7 n7=>by
    obtain⟨m',hm,w7⟩:=hN σ7 H7 n7
    refine⟨m',hm,i + 1,σ7,H7,I7.unpinned,T.keep _ _ _ st8 λb hb o e=>(I7.pin (b,o) (Pn _ (Pn _ (kH hb e)))).1,λb hb=>?_,w7⟩
    obtain⟨o,e,d⟩:=T.obj _ _ st8 b hb
    exact (I7.pin (b,o) (Pn _ (Pn _ (kH hb e)))).2.1
   cases ok with
   |false=>
    simp only[Qw,Q4] at q10 ⊢
    exact again I10 q10
   |true=>
    simp only[Qs] at q10 ⊢
    have hv:=heB _ s10 σ9 H10 _ I10 q10
    rw[eP,eW,eA,eE,eX] at hv
    refine cO hv λy s11 ⟨v,H11,I11,r11,acc,hacc,hz,q11⟩=>?_
    have hap:=o5 (X:=B) _ s11 σ9 H11 (.ref s2.heap.objs.size) [v] (.ref s2.heap.objs.size) [y] (λz H'=>z=.non/\N σ9 H') I11 rfl (.cons r11 .nil) ⟨_,acc,v,rfl,rfl,hacc,hz,rfl,q11⟩
    rw[eP,eW,eA,eX] at hap
    exact cO hap λ_ s12 ⟨_,H12,I12,_,_,q12⟩=>again I12 q12
 exact codeAny_compStart_list (loop _ rfl) (T.self X.A 0 _ _ _ st4 (loop _ rfl))
def xg (hc:X.calm=true)(S:cg X NB own ixs scope)(hi:PI X tg iter wi)
  (hg:∀C ex s3 H3 pn,PG (jq X NB scope C ex s3 H3 pn) tg g) (ht:∀C ex s3 H3 pn,DW (jq X NB scope C ex s3 H3 pn) ifs tt) (he:∀C ex s3 H3 pn,PE (jq X NB scope C ex s3 H3 pn) elt te)
  (hs:∀x,foldedSetIterable iter X.env x=pure x:=by intro _;rfl) :
  PE X (.ListComp elt [⟨tg,iter,ifs,0⟩] scope pos) (yf own ixs wi g tt te):=by
 intro pins s σ H Q I h
 rw[eval_ListComp]
 refine wpAny_comprehension_free (use:=none) rfl hs (nA λy hy e=>I.ok.has _ (S.frees y hy e)) S.kind (λy hy e=>by rw[S.names y hy,e]) ?_
 refine cO (hi pins s σ H _ I h) λv s1 h1=>cO h1 λitv s2 h2=>?_
 obtain⟨it,fp,tn,J,H2,e,I2,T,st2,f2,q2⟩:=h2
 subst e
 refine sX hc S hg ht he I2 T st2 f2 q2 (RR:=λacc C=>compPost (model X.prog X.w) X.A X.xe none (EP X pins σ Q) acc C) λD C H' s' m J' q hn hC n1 n2 n3 n4=>?_
 refine⟨m,hn,λh'' sb=>⟨.ref D,H',?_,rfl,q⟩⟩
 exact J'.turned (t':=s'.toks) (it:=C) (λb o hb e=>sb.extBut b o hb e) hC n1 (.inr n3) n2 n4
def CA {i:Nat}{y:Str}{py spos:Pos}(hc:X.calm=true)(S:cg X NB own ixs scope)(hi:PI X tg iter wi)
  (hg:∀C ex s3 H3 pn,PG (jq X NB scope C ex s3 H3 pn) tg g) (ht:∀C ex s3 H3 pn,DW (jq X NB scope C ex s3 H3 pn) ifs tt) (he:∀C ex s3 H3 pn,PE (jq X NB scope C ex s3 H3 pn) elt te)
  (hN:X.N.Nodup) (hy:X.N[i]? =some y) (hl:X.env.scope.names.lookup y=some .local)
  (hsw:swapsWith (.ListComp elt [⟨tg,iter,ifs,0⟩] scope pos) (some (.Name y py)) spos.line X.env=pure true)
  (hs:∀x,foldedSetIterable iter X.env x=pure x:=by intro _;rfl) :
  PS X (.Assign [.Name y py] (.ListComp elt [⟨tg,iter,ifs,0⟩] scope pos) spos) (λD σ H=>yf own ixs wi g tt te σ H λv H'=>D.nx (σ.set i (some v)) H'):=by
 intro pins s σ H D I h
 rw[exec_Assign_Name_used _ _ _ _ hsw]
 refine OT (wpAny_standAt (OT ?_))
 show wpAny _ X.A (comprehension (.ListComp elt [⟨tg,iter,ifs,0⟩] scope pos) scope X.env _ (newList []) false (eval iter X.env) (some (assign (.Name y py) X.env)) >>= λ_=>pure ()) _ _ s
 refine OT (P9 (wpAny_comprehension_free (use:=some (assign (.Name y py) X.env)) (Q:=λ_ s'=>SP X pins D .next s') rfl hs (nA λy hy e=>I.ok.has _ (S.frees y hy e)) S.kind (λy hy e=>by rw[S.names y hy,e]) ?_)
  (λ_ s' hq=>Pl (Pl hq)) λ_ _ e=>e)
 refine cO (hi pins s σ H _ I h) λv s1 h1=>cO h1 λitv s2 h2=>?_
 obtain⟨it,fp,tn,J,H2,e,I2,T,st2,f2,q2⟩:=h2
 subst e
 refine sX hc S hg ht he I2 T st2 f2 q2 (Q:=λv H'=>D.nx (σ.set i (some v)) H') (RR:=λacc C=>compPost (model X.prog X.w) X.A X.xe (some (assign (.Name y py) X.env)) (λ_ s'=>SP X pins D .next s') acc C) λD' C H' s' m J' q hn hC n1 n2 n3 n4=>?_
 show wpAny _ X.A (assign (.Name y py) X.env (.ref D')) _ _ s'
 refine wpAny_assign_Name (tV J' hN hy (.inl hl) (v:=.ref D') rfl (λs'' I'' ⟨a,sb,ha⟩=>?_) (.inr hl))
 have hCa:C≠a:=by
  rcases ha with z |z
  ·rw[z];exact n1
  ·exact (n2 _ _ z).symm
 refine⟨m,hn.sameBut sb hCa,λh3 sb3=>⟨_,H',?_,q⟩⟩
 exact I''.turned (t':=s''.toks) (it:=C) (λb o hb e=>sb3.extBut b o hb e) hC n1 (.inr n3) n2 n4
end
section
variable {own:Nat}{ixs:List Nat}{g:TG}{tt:TT}{te:TE}{σ:St}{H:Hp}{Q:VK}{K:Frag}{D a:Addr}{xs:List V}
abbrev gm (g:TG)(tt:TT)(te:TE)(D:Addr)(x:V)(σ:St)(H:Hp)(N:St->Hp->Prop):Prop:=g x σ H λσ3 H3=>tt σ3 H3 λb H4=>
  if b=true then te σ3 H4 λv H5=>∃acc,H5 D=some (.lst acc)/\acc.length < sizeLine/\N σ3 (upd H5 D (.lst (acc ++ [v]))) else N σ3 H4
def AZ (Pv:Nat->St->Hp->Prop)(h0:Pv 0 (bO own ixs σ) (upd H D (.lst [])))(hl:∀i σ H,i<=xs.length->Pv i σ H->iF K H a xs)
  (hs:∀i x σ H,xs[i]? =some x->Pv i σ H->gm g tt te D x σ H (Pv (i + 1))) (hd:∀σ H,Pv xs.length σ H->(∃acc,H D=some (.lst acc))/\Q (.ref D) H) :
  ∃W:Nat->Nat->St->Hp->Prop,(∃m,W 0 m (bO own ixs σ) (upd H D (.lst [])))/\∀i m σ' H',W i m σ' H'->
   ((AX K a).stop i H'/\(∃acc,H' D=some (.lst acc))/\Q (.ref D) H')\/
   ((AX K a).go i H'/\∃N:St->Hp->Prop,(∀σ2 H2,N σ2 H2->∃m',m' < m/\W (i + 1) m' σ2 H2)/\∀x H2,(AX K a).yld i H' x H2->gm g tt te D x σ' H2 N):=by
 refine⟨λi m σ H=>m=xs.length - i/\i<=xs.length/\Pv i σ H,⟨xs.length,by simp,PX _,h0⟩,?_⟩
 rintro i m σ H ⟨rfl,hi,p⟩
 have q:=hl i σ H hi p
 by_cases hlt:i < xs.length
 ·refine .inr ⟨⟨xs,xs[i],q,by simp[hlt]⟩,Pv (i + 1),λσ' H' p'=>⟨xs.length - (i + 1),by omega,rfl,hlt,p'⟩,λx H' y=>?_⟩
  obtain⟨e,y⟩:=y
  subst e
  exact hs i x σ _ (y xs q) p
 ·have e:i=xs.length:=by omega
  subst e
  exact .inl ⟨⟨xs,q,ON _⟩,hd σ H p⟩
def yY {lo:Int}{n:Nat}(Pv:Nat->St->Hp->Prop)(h0:Pv 0 (bO own ixs σ) (upd H D (.lst [])))
  (hs:∀i σ H,i < n->Pv i σ H->gm g tt te D (.int (lo + i)) σ H (Pv (i + 1))) (hd:∀σ H,Pv n σ H->(∃acc,H D=some (.lst acc))/\Q (.ref D) H) :
  ∃W:Nat->Nat->St->Hp->Prop,(∃m,W 0 m (bO own ixs σ) (upd H D (.lst [])))/\∀i m σ' H',W i m σ' H'->
   ((Ea lo n).stop i H'/\(∃acc,H' D=some (.lst acc))/\Q (.ref D) H')\/
   ((Ea lo n).go i H'/\∃N:St->Hp->Prop,(∀σ2 H2,N σ2 H2->∃m',m' < m/\W (i + 1) m' σ2 H2)/\∀x H2,(Ea lo n).yld i H' x H2->gm g tt te D x σ' H2 N):=by
 refine⟨λi m σ H=>m=n - i/\i<=n/\Pv i σ H,⟨n,by simp,PX _,h0⟩,?_⟩
 rintro i m σ H ⟨rfl,hi,p⟩
 by_cases hlt:i < n
 ·refine .inr ⟨hlt,Pv (i + 1),λσ' H' p'=>⟨n - (i + 1),by omega,rfl,hlt,p'⟩,λx H' y=>?_⟩
  obtain⟨e,y⟩:=y
  subst e y
  exact hs i σ _ hlt p
 ·have e:i=n:=by omega
  subst e
  exact .inl ⟨ON _,hd σ H p⟩
end
mutual
inductive Rep (K:Frag)(H:Hp):V->PyData->Prop
 |non:Rep K H .non .none
 |bl (b:Bool):Rep K H (.bl b) (.bool b)
 |int (i:Int):Rep K H (.int i) (.int i)
 |str (x:Str):Rep K H (.str x) (.str x)
 |tup {a:Addr} {xs:List V} {ds:List PyData}:gA K H a xs->ko K H xs ds->Rep K H (.ref a) (.tuple ds)
 |lst {a:Addr} {xs:List V} {ds:List PyData}:iF K H a xs->ko K H xs ds->Rep K H (.ref a) (.list ds)
inductive ko (K:Frag)(H:Hp):List V->List PyData->Prop
 |nil:ko K H [] []
 |cons {x:V} {xs:List V} {d:PyData} {ds:List PyData}:Rep K H x d->ko K H xs ds->ko K H (x :: xs) (d :: ds)
end
section
variable {X:Cx}{pins:List (Addr×Obj)}{σ:St}{H H':Hp}{s:Shared}
mutual
theorem Rep.reads (I:Inv X pins σ H s):∀{x:V} {d:PyData} {u:Value},Rep X.K H x d->RelV x u->∃as,Reads s.heap u d as
 |_,_,_,.non,r=>by cases r;exact⟨_,.none⟩
 |_,_,_,.bl b,r=>by cases r;exact⟨_,.bool b⟩
 |_,_,_,.int i,r=>by obtain⟨t,rfl⟩:=r;exact⟨_,.int i t⟩
 |_,_,_,.str x,r=>by obtain⟨t,rfl⟩:=r;exact⟨_,.str x t⟩
 |_,_,_,.tup h hs,r=>by
  cases r
  obtain⟨its,rv,⟨o,ho,hc,n,hd⟩,_⟩:=I.tuple h
  obtain⟨as,q⟩:=ko.reads I hs rv
  exact⟨_,.tuple ho hc hd (by simpa using q)⟩
 |_,_,_,.lst h hs,r=>by
  cases r
  obtain⟨its,rv,pl,_⟩:=I.list h
  obtain⟨o,ho,hc,n,hd⟩:=pl.isList
  obtain⟨as,q⟩:=ko.reads I hs rv
  exact⟨_,.list ho hc hd (by simpa using q)⟩
theorem ko.reads (I:Inv X pins σ H s):∀{xs:List V} {ds:List PyData} {us:List Value},ko X.K H xs ds->Vals xs us->∃as,ReadsAll s.heap us ds as
 |_,_,_,.nil,r=>by cases r;exact⟨_,.nil⟩
 |_,_,_,.cons h hs,r=>by
  cases r with
  |cons r1 r2=>
   obtain⟨as,q⟩:=Rep.reads I h r1
   obtain⟨bs,q'⟩:=ko.reads I hs r2
   exact⟨_,.cons q q'⟩
end
def HX (K:Frag)(neg:Bool):R2:=λx y H Q=>∃d e,Rep K H x d/\Rep K H y e/\SeqAt.shaped d=true/\SeqAt.shaped e=true/\Q (.bl (if neg then !PyData.eqv d e else PyData.eqv d e)) H
def dg (hu:X.A.units + 64 < cLine):mT X (compareOp .Eq) (HX X.K false):=by
 intro pins s σ H x y v u Q I rx ry h
 obtain⟨d,e,h1,h2,s1,s2,q⟩:=h
 obtain⟨as,r1⟩:=h1.reads I rx
 obtain⟨bs,r2⟩:=h2.reads I ry
 exact SeqAt.compareEq_shaped r1 r2 s1 s2 hu ⟨.bl _,H,I,rfl,q⟩
def jS (hu:X.A.units + 64 < cLine):mT X (compareOp .NotEq) (HX X.K true):=by
 intro pins s σ H x y v u Q I rx ry h
 obtain⟨d,e,h1,h2,s1,s2,q⟩:=h
 obtain⟨as,r1⟩:=h1.reads I rx
 obtain⟨bs,r2⟩:=h2.reads I ry
 exact SeqAt.compareNe_shaped r1 r2 s1 s2 hu ⟨.bl _,H,I,rfl,q⟩
def I0 (K:Frag)(neg:Bool):R2:=λx y H Q=>∃p xs d ds,y=.ref p/\(iF K H p xs\/gA K H p xs)/\ko K H xs ds/\Rep K H x d/\SeqAt.shaped d=true/\(∀e,e∈ds->SeqAt.shaped e=true)/\
 Q (.bl (if neg then !(ds.any λe=>PyData.eqv e d) else ds.any λe=>PyData.eqv e d)) H
theorem ko.at' {K:Frag}:∀{xs:List V} {ds:List PyData} {i:Nat} {x:V},ko K H xs ds->xs[i]? =some x->∃d,ds[i]? =some d/\Rep K H x d
 |_,_,_,_,.nil,e=>by simp at e
 |_,_,0,_,.cons r _,e=>by simp at e;subst e;exact⟨_,rfl,r⟩
 |_,_,i + 1,x,.cons _ t,e=>by
  obtain⟨u,h1,h2⟩:=ko.at' (i:=i) (x:=x) t (by simpa using e)
  exact⟨u,by simpa using h1,h2⟩
theorem ko.len {K:Frag}:∀{xs:List V} {ds:List PyData},ko K H xs ds->xs.length=ds.length
 |_,_,.nil=>rfl
 |_,_,.cons _ t=>by simp[ko.len t]
open Classical in
theorem om (I:Inv X pins σ H s)(d:PyData):∀{xs:List V} {us:List Value} {ds:List PyData},Vals xs us->ko X.K H xs ds->(∀e,e∈ds->SeqAt.shaped e=true)->∃f:Value->Bool,us.any f=(ds.any λe=>PyData.eqv e d)/\∀u,u∈us->∃e as,e∈ds/\Reads s.heap u e as/\f u=PyData.eqv e d:=by
 intro xs us ds hv hr hs
 let f:Value->Bool:=λu=>if h:∃e as,SeqAt.shaped e=true/\Reads s.heap u e as then PyData.eqv (Classical.choose h) d else false
 have hf:∀{u:Value} {e:PyData} {as:List Addr},SeqAt.shaped e=true->Reads s.heap u e as->f u=PyData.eqv e d:=λ{u e as} h1 h2=>by
  have hx:∃e as,SeqAt.shaped e=true/\Reads s.heap u e as:=⟨e,as,h1,h2⟩
  show (if h:∃e as,SeqAt.shaped e=true/\Reads s.heap u e as then PyData.eqv (Classical.choose h) d else false)=_
  rw[dif_pos hx]
  obtain⟨bs,q1,q2⟩:=Classical.choose_spec hx
  rw[SeqAt.Reads.unique _ _ _ _ _ (Qt q1) q2 h2]
 refine⟨f,?_,?_⟩
 ·induction hv generalizing ds with
  |nil=>cases hr;rfl
  | @cons x u xs us r1 r2 ih=>
   cases hr with
   | @cons _ _ e es h1 h2=>
    obtain⟨as,q⟩:=h1.reads I r1
    rw[Qu,Qu,hf (hs e (OU ..)) q,ih h2 λz hz=>hs z (OS _ hz)]
 ·intro u hu
  obtain⟨i,hi,e0⟩:=List.mem_iff_getElem.mp hu
  have hi':i < xs.length:=by rw[hv.length];exact hi
  obtain⟨u',eu,ru⟩:=hv.get (OJ hi')
  rw[OJ hi,e0] at eu
  cases eu
  obtain⟨e,ee,re⟩:=ko.at' hr (OJ hi')
  obtain⟨as,q⟩:=re.reads I ru
  have hm:=Pb ee
  exact⟨e,as,hm,q,hf (hs e hm) q⟩
def ra (hu:X.A.units + 100 < cLine):mT X (compareOp .In) (I0 X.K false):=by
 intro pins s σ H x y v u Q I rx ry h
 obtain⟨p,xs,d,ds,rfl,hq,hs,hx,s1,s2,q⟩:=h
 cases ry
 obtain⟨bs,r2⟩:=hx.reads I rx
 have key:∀{e:PyData} {as:List Addr} {u:Value},SeqAt.shaped e=true->Reads s.heap u e as->SeqAt.EqAt X.A.in1 s u v (PyData.eqv e d):=λ{e as u} h1 h2=>by
  refine SeqAt.eqAt_reads _ _ _ _ _ _ _ _ h2 r2 (Qt h1) (Qt s1) ?_
  have:=SeqAt.depth_of_shaped h1
  show X.A.units + 1 + _ < _
  omega
 rcases hq with hq |hq
 ·obtain⟨its,r,pl,hz⟩:=I.list hq
  obtain⟨f,e1,e2⟩:=om I d r hs s2
  refine SeqAt.in_listAt f pl.isList (λw hw=>?_) ⟨.bl _,H,I,rfl,?_⟩
  ·obtain⟨e,as,hm,rd,ef⟩:=e2 w (by simpa using hw)
   rw[ef];exact key (s2 e hm) rd
  ·rw[show its.toArray.any f=its.any f by simp,e1];exact q
 ·obtain⟨its,r,pl,hz⟩:=I.tuple hq
  obtain⟨f,e1,e2⟩:=om I d r hs s2
  refine SeqAt.in_tupleAt f pl (λw hw=>?_) ⟨.bl _,H,I,rfl,?_⟩
  ·obtain⟨e,as,hm,rd,ef⟩:=e2 w (by simpa using hw)
   rw[ef];exact key (s2 e hm) rd
  ·rw[show its.toArray.any f=its.any f by simp,e1];exact q
inductive FW (K:Frag)(H:Hp):V->String->Prop
 |non:FW K H .non "NoneType"
 |bl (b:Bool):FW K H (.bl b) "bool"
 |int (i:Int):FW K H (.int i) "int"
 |str (x:Str):FW K H (.str x) "str"
 |tup {a:Addr} {xs:List V}:gA K H a xs->FW K H (.ref a) "tuple"
 |lst {a:Addr} {xs:List V}:iF K H a xs->FW K H (.ref a) "list"
 |dic {a:Addr} {kvs:List (Key×V)}:H a=some (.dK kvs)->FW K H (.ref a) "dict"
def NC (K:Frag):List V->Hp->VK->Prop:=λxs H Q=>∃x T t b,xs= [x,.ty T]/\FW K H x t/\PySem.W.kitOne K (.type t) (.type T)=some b/\Q (.bl b) H
theorem Df:fU X (.builtin "isinstance") (NC X.K):=by
 intro pins s σ H xs us Q I r h
 obtain⟨x,T,t,b,rfl,ty,e,q⟩:=h
 obtain⟨u,c,rfl,rx,rc⟩:=vals2 r
 cases rc
 have fin:∀tk,EP X pins σ Q (.bool b) {s with toks:=tk}:=λtk=>⟨.bl b,H,I.tok tk,rfl,q⟩
 cases ty with
 |non=>exact kc I rx .non e fin
 |bl b=>exact kc I rx (.bl b) e fin
 |int i=>exact kc I rx (.int i) e fin
 |str z=>exact kc I rx (.str z) e fin
 |dic hk=>exact kc I rx (.dK hk) e fin
 |tup hq=>
  cases rx
  obtain⟨its,rv,⟨o,h1,h2,_⟩,_⟩:=I.tuple hq
  exact PQ PySem.W.kitx_tuple I.kIn ⟨o,h1,h2⟩ e (λz=>nomatch z) fin
 |lst hq=>
  cases rx
  obtain⟨its,rv,pl,_⟩:=I.list hq
  obtain⟨o,h1,h2,_⟩:=pl.isList
  exact PQ PySem.W.kitx_list I.kIn ⟨o,h1,h2⟩ e (λz=>nomatch z) fin
def wb {A:Around}{its:List Value}{bs:List Bool}(hv:Vals (bs.map V.bl) its):TruthOf X.prog X.w A (λi v=>its[i]? =some v) (λi=>bs.getD i false):=λi v s Q E hi hq=>by
 have hl:=hv.length
 have hi2:i < bs.length:=by
  have:=(OQ.mp hi).1
  rw[<-hl] at this;simpa using this
 obtain⟨u,eu,ru⟩:=hv.get (i:=i) (x:=.bl bs[i]) (by simp[hi2])
 rw[hi] at eu;cases eu
 cases ru
 refine Qa ?_
 have:bs.getD i false=bs[i]:=by simp[hi2]
 rw[<-this];exact hq
theorem range_all (bs:List Bool):(List.range bs.length).all (λi=>bs.getD i false)=bs.all id:=by
 induction bs with
 |nil=>rfl
 |cons b bs ih=>
  rw[Pf,List.range_succ_eq_map,all_cons,QZ,all_cons,<-ih]
  rfl
theorem range_any (bs:List Bool):(List.range bs.length).any (λi=>bs.getD i false)=bs.any id:=by
 induction bs with
 |nil=>rfl
 |cons b bs ih=>
  rw[Pf,List.range_succ_eq_map,Qu,List.any_map,Qu,<-ih]
  rfl
def yn (K:Frag)(f:List Bool->Bool):List V->Hp->VK->Prop:=λxs H Q=>∃a bs,xs= [.ref a]/\iF K H a (bs.map V.bl)/\Q (.bl (f bs)) H
def rj (hc:X.calm=true){a:Addr}{bs:List Bool}{Q:VK}(I:Inv X pins σ H s)(hq:iF X.K H a (bs.map V.bl)){f:List Bool->Bool}{g:(Nat->Bool)->Nat->Bool}(hfg:g (λi=>bs.getD i false) bs.length=f bs)(q:Q (.bl (f bs)) H) :
  wpAny (model X.prog X.w) X.A.in1 (pyIter (.ref a)) (λit s2=>∃Ii fp wr n P St tr,it=.ref Ii/\Walks X.prog X.w X.A.in1 Ii fp wr n P St/\St 0 s2.heap/\TruthOf X.prog X.w X.A.in1 P tr/\
   ∀h' tk,(∀b o,b∉wr->s2.heap.get? b=some o->h'.get? b=some o)->EP X pins σ Q (.bool (g tr n)) {s2 with heap:=h',toks:=tk}) X.xe s:=by
 obtain⟨its,rv,pl,hz⟩:=I.list hq
 have hh:X.A.in1.handled=none:=I.ok.hd hc
 have hlen:its.length=bs.length:=by rw[<-rv.length];simp
 obtain⟨o,ho,_⟩:=id pl.isList
 refine QJ pl.isList ?_
 have W:=Walks.list (prog:=X.prog) (w:=X.w) hh s.heap.objs.size a (PN (OZ ho)) its.toArray
 refine⟨s.heap.objs.size,_,_,_,_,_,λi=>bs.getD i false,rfl,W,⟨⟨_,O0 _ rfl,rfl,rfl⟩,pl.isList.push _⟩,?_,λh' tk k=>?_⟩
 ·have:=wb (X:=X) (A:=X.A.in1) rv
  simpa using this
 ·have e:its.toArray.size=bs.length:=by simpa using hlen
  rw[e,hfg]
  have I1:Inv X pins σ H {s with heap:=s.heap.push {cls:=.type "list_iterator",data:=.fields #[.ref a,.int 0 0]}}:=I.kept (t':=s.toks) λb o e=>OL _ e
  have hf:H s.heap.objs.size=none:=I.hok.fresh (ON _)
  have fp:=I.fpOk (H':=H) (b:=s.heap.objs.size) (ON _) hf
  refine⟨.bl _,H,I1.turned (it:=s.heap.objs.size) (t':=tk) (λb o hb e=>k b o (by simpa using hb) e) hf fp.2.1 fp.2.2.2.1 fp.2.2.2.2.1 fp.2.2.2.2.2,rfl,q⟩
def eS (hc:X.calm=true):fU X (.builtin "all") (yn X.K λbs=>bs.all id):=by
 intro pins s σ H xs us Q I r h
 obtain⟨a,bs,rfl,hq,q⟩:=h
 obtain⟨u,rfl,rx⟩:=vals1 r
 cases rx
 exact call_all_walk (rj hc I hq (f:=λbs=>bs.all id) (g:=λtr n=>(List.range n).all tr) (range_all bs) q)
def wW (hc:X.calm=true):fU X (.builtin "any") (yn X.K λbs=>bs.any id):=by
 intro pins s σ H xs us Q I r h
 obtain⟨a,bs,rfl,hq,q⟩:=h
 obtain⟨u,rfl,rx⟩:=vals1 r
 cases rx
 exact call_any_walk (rj hc I hq (f:=λbs=>bs.any id) (g:=λtr n=>(List.range n).any tr) (range_any bs) q)
def Dq:fU X (.type "range") (λxs H Q=>∃n:Int,xs= [.int n]/\∀p,H p=none->Q (.ref p) (upd H p (.dN 0 n))):=by
 intro pins s σ H xs us Q I r h
 obtain⟨n,rfl,q⟩:=h
 obtain⟨u,rfl,rx⟩:=vals1 r
 obtain⟨t,rfl⟩:=rx
 refine call_range_1 ⟨.ref s.heap.objs.size,upd H s.heap.objs.size (.dN 0 n),?_,rfl,q _ (I.hok.fresh (ON _))⟩
 exact I.laid (λb o e=>OL _ e) (ON _) ⟨_,_,_,O0 _ rfl⟩
def sL (hc:X.calm=true):fU X (.type "list") (λxs H Q=>∃p n,xs= [.ref p]/\H p=some (.dN 0 n)/\0<=n/\n<=1000/\∀l,H l=none->Q (.ref l) (upd H l (.lst ((List.range n.toNat).map λ(i:Nat)=>V.int (i:Int))))):=by
 intro pins s σ H xs us Q I r h
 obtain⟨p,n,rfl,hp,h0,h1,q⟩:=h
 obtain⟨u,rfl,rx⟩:=vals1 r
 cases rx
 obtain⟨t,u,v,hr⟩:∃t u v,s.heap.get? p=some {cls:=.type "range",data:=.fields #[.int 0 t,.int n u,.int 1 v]}:=I.hok p _ hp
 have hsz:Builtin.Range.rangeSize 0 n 1=(n.toNat:Int):=by rw[rangeSize_one];split <;> omega
 refine call_list_range (I.ok.hd hc) hr (small_one (by omega) (by omega) (by omega) (by omega)) hsz (by omega) λh' tk acc c k hS hacc=>?_
 have hv:Vals ((List.range n.toNat).map λ(i:Nat)=>V.int (i:Int)) acc.toList:=by
  have key:∀(m:Nat) (us:List Value) (j:Nat),us.length=m->(∀(i:Nat) (v:Value),us[i]? =some v->∃t,v=Value.int ((j + i:Nat):Int) t)->Vals ((List.range' j m).map λ(i:Nat)=>V.int (i:Int)) us:=by
   intro m
   induction m with
   |zero=>intro us j hl _;cases us with
    |nil=>exact .nil
    |cons a b=>simp at hl
   |succ m ih=>
    intro us j hl hh
    cases us with
    |nil=>simp at hl
    |cons u us=>
     rw[List.range'_succ,PH]
     refine .cons (by have:=hh 0 u rfl;simp at this;exact this) (ih us (j + 1) (by simpa using hl) λi v hi=>?_)
     obtain⟨t,e⟩:=hh (i + 1) v (by simpa using hi)
     exact⟨t,by rw[e];congr 2;omega⟩
  have:=key n.toNat acc.toList 0 (by simpa using hacc.1) λi v hi=>by
   obtain⟨t,e⟩:=hacc.2 i v (by simpa using hi)
   exact⟨t,by rw[e];simp⟩
  rw[List.range_eq_range'];exact this
 refine⟨.ref s.heap.objs.size,_,I.laid (t':=tk) k (ON _) (show dB X.prog X.w _ h' _ (.lst _) from⟨by simp;rw[PJ];omega,acc.toList,c,hv,by simpa using hS⟩),rfl,q _ (I.hok.fresh (ON _))⟩
end
def Rc (h:Heap)(e:Addr)(cls:Value)(T:Addr)(fl:Value):Prop:=∃oe vs oT ts,h.get? e=some oe/\oe.cls=cls/\oe.dict=none/\oe.data=.fields vs/\vs[1]? =some (.ref T)/\vs[2]? =some .none/\T≠e/\h.get? T=some oT/\oT.data=.fields ts/\ts[3]? =some fl
abbrev Keeps (F:List Addr)(ch:List Addr)(h h':Heap):Prop:=∀b o,h.get? b=some o->b∉F->b∉ch->h'.get? b=some o
abbrev Slots (F:List Addr)(h h':Heap):Prop:=∀b o,h.get? b=some o->b∈F->∃sl,h'.get? b=some {o with slots:=sl}
section
variable {M:Model}{A:Around}{E:Value->Shared->Prop}{s:Shared}{base:Heap}{env:Env}{outer:List Env}{L e:Addr}{cls:Value}{Q:Unit->Shared->Prop}
def CV {oe:Obj}{vs:Array Value}{head:Value}{hadNext:Bool}(hfr:A.frames=some (env :: outer))(hl:s.heap.FunFrames base (env :: outer))(hf:env.frame=some L)(he:s.heap.get? e=some oe)(hc:oe.cls=cls)(hdd:oe.dict=none)(hd:oe.data=.fields vs)(hsz:1 < vs.size)(h2:vs[2]? =some .none)
  (h:∀h' T,Keeps (j8 (env :: outer)) [e] s.heap h'->Slots (j8 (env :: outer)) s.heap h'->s.heap.get? T=none->Rc h' e cls T (rawInt L)->Q () {s with heap:=h'}) :
  wpAny M A (do let a <-frameOf env;let pl <-entryPlaceOf L hadNext;let b <-EntryCells.newEntry head a .none (rawInt L) .none pl;setField (.ref e) 1 b) Q E s:=by
 have eF:e∉j8 (env :: outer):=λz=>by
  obtain⟨_,o,q,n⟩:=hl.mem z
  rw[he] at q;cases q;exact n _ hd
 refine OT (wpAny_frameOf_fun hfr hl hf λh1 s1=>?_)
 refine OT (wpAny_entryPlaceOf λpl hpl=>?_)
 unfold EntryCells.newEntry newFields
 refine OT (wpAny_newObj_type ?_ (hpl.sizeOk5 _ _ _ _ _))
 have e1:h1.get? e=some oe:=(s1.2.1 e eF).trans he
 have e2:=OL (h:=h1) {cls:=.type "traceback",dict:=none,data:=.fields ([head,.ref L,.none,rawInt L,.none] ++ (if pl.isEmpty then List.replicate 6 Value.none else pl)).toArray} e1
 have tn:h1.objs.size≠e:=Nat.ne_of_gt (OZ e1)
 refine Rn e2 hd hsz (h _ h1.objs.size (λb o q hb hn=>?_) (λb o q hb=>?_) ?_ ?_)
 ·have hbe:b≠e:=by simpa using hn
  have q1:h1.get? b=some o:=(s1.2.1 b hb).trans q
  rw[P1 _ _ (Ne.symm hbe)]
  exact OL _ q1
 ·obtain⟨sl,q1⟩:=s1.2.2 b o q
  have hbe:b≠e:=λz=>eF (z▸hb)
  refine⟨sl,?_⟩
  rw[P1 _ _ (Ne.symm hbe)]
  exact OL _ q1
 ·cases q:s.heap.get? h1.objs.size with
  |none=>rfl
  |some o=>obtain⟨sl,q1⟩:=s1.2.2 _ o q;exact absurd (OZ q1) (Pw _)
 ·have d3:=Rk hd (·.setIfInBounds 1 (Value.ref h1.objs.size))
  have e3:=QY (Obj.mapFields (·.setIfInBounds 1 (Value.ref h1.objs.size))) e2 (Obj.isFreed_of_fields d3)
  refine⟨_,_,_,_,e3,(Obj.cls_mapFields _ _).trans hc,?_,d3,by simp[hsz],by rw[Array.getElem?_setIfInBounds_ne (by omega)];exact h2,tn,(P1 _ _ (Ne.symm tn)).trans (O0 h1 rfl),rfl,?_⟩
  ·unfold Obj.mapFields
   split <;> exact hdd
  ·rcases hpl with rfl | ⟨_,_,_,_,_,_,_,rfl⟩ <;> simp
def yF {oe:Obj}{vs:Array Value}(hfr:A.frames=some (env :: outer))(hl:s.heap.FunFrames base (env :: outer))(hf:env.frame=some L)(he:s.heap.get? e=some oe)(hc:oe.cls=cls)(hdd:oe.dict=none)(hd:oe.data=.fields vs)(h1:vs[1]? =some .none)(h2:vs[2]? =some .none)
  (h:∀h' T,Keeps (j8 (env :: outer)) [e] s.heap h'->Slots (j8 (env :: outer)) s.heap h'->s.heap.get? T=none->Rc h' e cls T (rawInt L)->Q () {s with heap:=h'}):wpAny M A (noteFrame (.ref e) env) Q E s:=by
 unfold noteFrame
 simp only[hf]
 refine OT (Q7 he hd h1 ?_)
 rw[OV (by decide)]
 exact CV hfr hl hf he hc hdd hd (QH.mp h1).1 h2 h
def AQ {T0:Addr}(hfr:A.frames=some (env :: outer))(hl:s.heap.FunFrames base (env :: outer))(hf:env.frame=some L)(r:Rc s.heap e cls T0 .none)
  (h:∀h' T,Keeps (j8 (env :: outer)) [e,T0] s.heap h'->Slots (j8 (env :: outer)) s.heap h'->(s.heap.get? T=none\/T=T0)->Rc h' e cls T (rawInt L)->Q () {s with heap:=h'}):wpAny M A (noteFrame (.ref e) env) Q E s:=by
 obtain⟨oe,vs,oT,ts,he,hc,hdd,hd,h1,h2,hTe,hT,hdT,h3⟩:=r
 have tF:T0∉j8 (env :: outer):=λz=>by
  obtain⟨_,o,q,n⟩:=hl.mem z
  rw[hT] at q;cases q;exact n _ hdT
 unfold noteFrame
 simp only[hf]
 refine OT (Q7 he hd h1 ?_)
 rw[OO (show (Value.ref T0 != Value.none)=true from by simp)]
 refine OT (Q7 hT hdT h3 ?_)
 rw[OV (show ¬((Value.none == rawInt L)=true) from by simp[rawInt])]
 refine OT (Rn hT hdT (QH.mp h3).1 ?_)
 have oth:∀b,b≠T0->(s.heap.update T0 (Obj.mapFields (·.setIfInBounds 3 Value.none))).get? b=s.heap.get? b:=λb hb=>P1 _ _ (Ne.symm hb)
 have nf:∀b o,s.heap.get? b=some o->(∀ws,o.data≠.fields ws)->b≠T0:=λb o q n z=>by
  rw[z,hT] at q;cases q;exact n _ hdT
 refine CV (base:=base) hfr (hl.of_keeps λb o q n=>⟨o,(oth b (nf b o q n)).trans q,rfl⟩) hf ((oth e (Ne.symm hTe)).trans he) hc hdd hd (QH.mp h1).1 h2 λh' T kp sl tn rc=>?_
 refine h h' T (λb o q hb hn=>?_) (λb o q hb=>?_) ?_ rc
 ·simp only[OR,PB,Qv,not_or] at hn
  exact kp b o ((oth b hn.2).trans q) hb (by simp[hn.1])
 ·exact sl b o ((oth b λz=>tF (z▸hb)).trans q) hb
 ·by_cases z:T=T0
  ·exact .inr z
  ·exact .inl ((oth T z).symm.trans tn)
def Ao {T:Addr}{fl:Value}(r:Rc s.heap e cls T fl)(h:∀h',Keeps [] [T] s.heap h'->Rc h' e cls T .none->Q () {s with heap:=h'}):wpAny M A (setFlight (.ref e) none) Q E s:=by
 obtain⟨oe,vs,oT,ts,he,hc,hdd,hd,h1,h2,hTe,hT,hdT,h3⟩:=r
 have sz:3 < ts.size:=(QH.mp h3).1
 unfold setFlight
 refine OT (Q7 he hd h1 ?_)
 rw[OO (show (Value.ref T != Value.none)=true from by simp)]
 refine Rn hT hdT sz (h _ (λb o q _ hn=>?_) ?_)
 ·have hb:b≠T:=by simpa using hn
  exact (P1 _ _ (Ne.symm hb)).trans q
 ·have d3:=Rk hdT (·.setIfInBounds 3 ((none:Option Addr).elim Value.none λf=>rawInt f))
  exact⟨oe,vs,_,_,(P1 _ _ hTe).trans he,hc,hdd,hd,h1,h2,hTe,QY _ hT (Obj.isFreed_of_fields d3),d3,by simp[sz]⟩
end
section
variable {P:Program}{w:World}
theorem dB.there {H:Hp}{h:Heap}{a:Addr}{o:HO}(x:dB P w H h a o):∃u,h.get? a=some u:=by
 cases o with
 |lst xs=>obtain⟨_,_,_,_,e⟩:=x;exact⟨_,e⟩
 |tup xs=>obtain⟨_,_,_,u,e,_⟩:=x;exact⟨u,e⟩
 |dK kvs=>obtain⟨_,_,_,_,o,_,_,e,_⟩:=x;exact⟨_,e⟩
 |dT kvs=>obtain⟨_,_,_,_,o,_,_,e,_⟩:=x;exact⟨_,e⟩
 |set S n=>obtain⟨o,_,_,_,e,_⟩:=x;exact⟨_,e⟩
 |ins C dx fs=>obtain⟨_,_,_,e,_⟩:=x;exact⟨_,e⟩
 |own y=>obtain⟨_,e⟩:=x;exact⟨_,e⟩
 |xd fs=>obtain⟨_,⟨_,_,_,e,_⟩,_⟩:=x;exact⟨_,e⟩
 |dN lo hi=>obtain⟨_,_,_,e⟩:=x;exact⟨_,e⟩
 |a9 ob u=>obtain⟨e,_⟩:=x;exact⟨_,e⟩
 |tbl ps=>exact⟨_,show h.get? a=some _ from x⟩
 |met f y=>exact⟨_,show h.get? a=some _ from x⟩
 |ext φ=>obtain⟨_,⟨_,e⟩,_⟩:=x;exact⟨_,e⟩
end
structure Lies (h₀:Heap)(H:Hp)(h:Heap)(e:Addr)(cls:Value):Prop where
 free:H e=none
 new:h₀.get? e=none
 ob:∃T,Rc h e cls T .none/\H T=none/\h₀.get? T=none
def l4 (P:Program)(w:World):BO:=λouter H s E e s'=>∃ea cls H',e=.ref ea/\s'.os=s.os/\AllBare s'.gens/\Un (j8 outer) [] H H' s.heap s'.heap/\nI P w H' s'.heap/\Lies s.heap H' s'.heap ea cls/\E cls none H'
section
variable {P:Program}{w:World}{M:Model}{A:Around}{E':Value->Shared->Prop}{s:Shared}{env:Env}{outer:List Env}{L e:Addr}{cls:Value}{base h₀:Heap}{H:Hp}{Q:Unit->Shared->Prop}
def xS {h h':Heap}(hok:nI P w H h)(k:∀b o,h.get? b=some o->(∃u,H b=some u)->h'.get? b=some o):nI P w H h':=λa o ha=>
 (hok a o ha).stay (λb u hb q=>k b u q (hb.elim (λz=>⟨o,by rw[z];exact ha⟩) λz=>⟨_,z⟩)) (λ_ q=>q) λ_ _ q=>q
def DN (hfr:A.frames=some (env :: outer))(hf:env.frame=some L)(hfn:s.heap.FunFrames base (env :: outer))(hok:nI P w H s.heap)(hff:∀b∈j8 (env :: outer),H b=none)(Ly:Lies h₀ H s.heap e cls)(hex:∀b o,h₀.get? b=some o->∃o',s.heap.get? b=some o')
  (hQ:∀h',(∀b o,s.heap.get? b=some o->b∉j8 (env :: outer)->((∃o0,h₀.get? b=some o0)\/∃u,H b=some u)->h'.get? b=some o)->(∀b o,s.heap.get? b=some o->b∈j8 (env :: outer)->∃sl,h'.get? b=some {o with slots:=sl})->Lies h₀ H h' e cls->nI P w H h'->Q () {s with heap:=h'}) :
  wpAny M A (leaving env (.ref e)) Q E' s:=by
 obtain⟨fr,nw,T0,rc,hHT,hnT⟩:=Ly
 obtain⟨oe,vs,oT,ts,he,hc,hdd,hd,h1,h2,hTe,hT,hdT,h3⟩:=id rc
 have tF:T0∉j8 (env :: outer):=λz=>by
  obtain⟨_,o,q,n⟩:=hfn.mem z
  rw[hT] at q;cases q;exact n _ hdT
 unfold leaving
 refine OT (AQ hfr hfn hf rc λh4 T kp sl tn rc4=>Ao rc4 λh5 kp5 rc5=>?_)
 have nT:∀b o,s.heap.get? b=some o->b≠T0->b≠T:=λb o q n z=>by
  rcases tn with tn |tn
  ·rw[z,tn] at q;cases q
  ·exact n (z.trans tn)
 have kept:∀b o,s.heap.get? b=some o->b∉j8 (env :: outer)->((∃o0,h₀.get? b=some o0)\/∃u,H b=some u)->h5.get? b=some o:=λb o q hb hor=>by
  have be:b≠e:=λz=>by subst z;rcases hor with⟨_,z⟩ | ⟨_,z⟩ <;> simp_all
  have bT:b≠T0:=λz=>by subst z;rcases hor with⟨_,z⟩ | ⟨_,z⟩ <;> simp_all
  exact kp5 b o (kp b o q hb (by simp[be,bT])) (by simp) (by simp[nT b o q bT])
 have slot:∀b o,s.heap.get? b=some o->b∈j8 (env :: outer)->∃sl,h5.get? b=some {o with slots:=sl}:=λb o q hb=>by
  obtain⟨x,q4⟩:=sl b o q hb
  exact⟨x,kp5 b _ q4 (by simp) (by simp[nT b o q λz=>tF (z▸hb)])⟩
 have fresh:H T=none/\h₀.get? T=none:=by
  rcases tn with tn |tn
  ·refine⟨?_,?_⟩
   ·cases q:H T with
    |none=>rfl
    |some u=>obtain⟨o,qo⟩:=(hok T u q).there;rw[tn] at qo;cases qo
   ·cases q:h₀.get? T with
    |none=>rfl
    |some u=>obtain⟨o,qo⟩:=hex T u q;rw[tn] at qo;cases qo
  ·rw[tn];exact⟨hHT,hnT⟩
 refine hQ h5 kept slot ⟨fr,nw,T,rc5,fresh.1,fresh.2⟩ (xS hok λb o q hu=>kept b o q (λz=>?_) (.inr hu))
 obtain⟨u,hu⟩:=hu
 rw[hff b z] at hu;cases hu
def yG {h:Heap}{args:List Value}(hfr:A.frames=some (env :: outer))(hf:env.frame=some L)(hfn:h.FunFrames base (env :: outer))(hok:nI P w H h)(hff:∀b∈j8 (env :: outer),H b=none)(hex:∀b o,h₀.get? b=some o->∃o',h.get? b=some o')(hx:Heap.MadeExcOf h s.heap e cls args)
  (hQ:∀h',(∀b o,h.get? b=some o->b∉j8 (env :: outer)->h'.get? b=some o)->(∀b o,h.get? b=some o->b∈j8 (env :: outer)->∃sl,h'.get? b=some {o with slots:=sl})->Lies h₀ H h' e cls->nI P w H h'->Q () {s with heap:=h'}) :
  wpAny M A (leaving env (.ref e)) Q E' s:=by
 obtain⟨t,he,_,_⟩:=hx.there
 unfold leaving
 refine OT (yF (cls:=cls) hfr (hfn.of_keeps λb o q _=>⟨o,hx.keeps b o q,rfl⟩) hf he rfl rfl rfl rfl rfl λh4 T kp sl tn rc4=>Ao rc4 λh5 kp5 rc5=>?_)
 have ne:∀b o,h.get? b=some o->b≠e:=λb o q z=>by rw[z,hx.new] at q;cases q
 have nT:∀b o,h.get? b=some o->b≠T:=λb o q z=>by
  have:=hx.keeps b o q
  rw[z,tn] at this;cases this
 have kept:∀b o,h.get? b=some o->b∉j8 (env :: outer)->h5.get? b=some o:=λb o q hb=>kp5 b o (kp b o (hx.keeps b o q) hb (by simp[ne b o q])) (by simp) (by simp[nT b o q])
 have slot:∀b o,h.get? b=some o->b∈j8 (env :: outer)->∃sl,h5.get? b=some {o with slots:=sl}:=λb o q hb=>by
  obtain⟨x,q4⟩:=sl b o (hx.keeps b o q) hb
  exact⟨x,kp5 b _ q4 (by simp) (by simp[nT b o q])⟩
 have fresh:∀{b:Addr},h.get? b=none->H b=none/\h₀.get? b=none:=λ{b} hb=>by
  refine⟨?_,?_⟩
  ·cases q:H b with
   |none=>rfl
   |some u=>obtain⟨o,qo⟩:=(hok b u q).there;rw[hb] at qo;cases qo
  ·cases q:h₀.get? b with
   |none=>rfl
   |some u=>obtain⟨o,qo⟩:=hex b u q;rw[hb] at qo;cases qo
 have no:h.get? T=none:=by
  cases q:h.get? T with
  |none=>rfl
  |some o=>exact absurd rfl (nT T o q)
 obtain⟨f1,f2⟩:=fresh hx.new
 obtain⟨g1,g2⟩:=fresh no
 refine hQ h5 kept slot ⟨f1,f2,T,rc5,g1,g2⟩ (xS hok λb o q hu=>kept b o q λz=>?_)
 obtain⟨u,hu⟩:=hu
 rw[hff b z] at hu;cases hu
end
section
variable {P:Program}{w:World}{K:Frag}{mg:Str->Option Value}{base:Heap}{N:List Str}{qual:Str}{scope:Scope}{f:Addr}{cd:Value}{A:Around}{outer:List Env}{s0:Shared}{H0:Hp}{E:XK}
def aS:Passes (l4 P w) (lD (l4 P w) P w K mg base N qual scope f cd A outer s0 H0 E) E:=by
 intro pins σ H s e s' I hcx
 obtain⟨ea,cls,H',rfl,os,bare,un,hok,Ly,q⟩:=hcx
 have I':=I.call' os un hok bare (λb hb=>absurd hb (by simp))
 have old:∀{b:Addr},s.heap.get? b=none->s0.heap.get? b=none:=λ{b} hb=>by
  cases z:s0.heap.get? b with
  |none=>rfl
  |some o=>obtain⟨o',z'⟩:=I.base.there b o z (show b∉([]:List Addr) by simp);rw[hb] at z';cases z'
 have Ly0:Lies s0.heap H' s'.heap ea cls:=by
  obtain⟨fr,nw,T,rc,hHT,hnT⟩:=Ly
  exact⟨fr,old nw,T,rc,hHT,old hnT⟩
 have above:s0.heap.objs.size<=(envOfC qual scope s0.heap.objs.size f cd).locals:=I.ok.above
 refine DN (base:=base) (h₀:=s0.heap) I'.ok.frames rfl I'.stack I'.hok I'.stkFree Ly0 (λb o z=>I'.base.there b o z (show b∉([]:List Addr) by simp)) λh' kept slot Ly' hok'=>?_
 have nL:∀{b:Addr} {o:Obj},s0.heap.get? b=some o->b∉j8 outer->b∉j8 (envOfC qual scope s0.heap.objs.size f cd :: outer):=λ{b o} z hb hm=>by
  rcases OR.mp (I'.stkSub b hm) with e |e
  ·have:=OZ z
   rw[e] at this
   exact absurd (Pk this above) (Pw _)
  ·exact hb e
 have inn:∀{b:Addr},b∈j8 outer->b∈j8 (envOfC qual scope s0.heap.objs.size f cd :: outer):=λ{b} hb=>by
  obtain⟨en,h1,h2⟩:=QF.mp hb
  exact QF.mpr ⟨en,OS _ h1,h2⟩
 refine⟨ea,cls,H',rfl,os.trans I.os,bare,⟨λb o z n hb _=>?_,λb o z n hb _=>?_,λb o z n _=>I'.base.free b o z n (show b∉([]:List Addr) by simp),λb o z _=>?_,I'.base.tups,I'.base.frzs,I'.base.tbls⟩,hok',Ly',q⟩
 ·exact kept b o (I'.base.keep b o z n hb (show b∉([]:List Addr) by simp)) (nL z hb) (.inl ⟨o,z⟩)
 ·obtain⟨sl,z1⟩:=I'.base.slot b o z n hb (show b∉([]:List Addr) by simp)
  obtain⟨sl2,z2⟩:=slot b _ z1 (inn hb)
  exact⟨sl2,z2⟩
 ·obtain⟨o',z1⟩:=I'.base.there b o z (show b∉([]:List Addr) by simp)
  by_cases hb:b∈j8 (envOfC qual scope s0.heap.objs.size f cd :: outer)
  ·obtain⟨sl,z2⟩:=slot b o' z1 hb
   exact⟨_,z2⟩
  ·exact⟨o',kept b o' z1 hb (.inl ⟨o,z⟩)⟩
def Jf (C:Addr)(E:XK)(t:TA):TS:=λ_ σ H=>t σ H λvs H1=>vs.length<=sizeLine/\E (.ref C) none H1
def Dr {x:Str}{C:Addr}{np cpos pos:Pos}{e0:Expr}{es:List Expr}{t:TA}{Bn newId initId:String}{bmB:List Value}(FB:ExcBaseFacts Bn newId initId bmB)(hbb:bmB.contains (.type "BaseException")=true)(q:PySem.W.excIn K C bmB newId=true)
  (hg:Gl (lD (l4 P w) P w K mg base N qual scope f cd A outer s0 H0 E) x) (hm:mg x=some (.ref C)) (ha:PA (lD (l4 P w) P w K mg base N qual scope f cd A outer s0 H0 E) (e0 :: es) t)
  (he:starEach (e0 :: es) (envOfC qual scope s0.heap.objs.size f cd)=(false,eval e0 (envOfC qual scope s0.heap.objs.size f cd)) :: starEach es (envOfC qual scope s0.heap.objs.size f cd):=by rfl)
  (hpl:(backTo cpos (starEach es (envOfC qual scope s0.heap.objs.size f cd))).any (·.1)=false:=by rfl) (hdb:(x == ("__debug__":Str))=false:=by decide) :
  PS (lD (l4 P w) P w K mg base N qual scope f cd A outer s0 H0 E) (.Raise (some (.Call (.Name x np) (e0 :: es) [] cpos)) none pos) (Jf C E t):=by
 intro pins s σ H D I h
 have own:∀{hh:Heap},K.In hh->∃bm Nn nm qn bs hdct sn sub ab col dd k0 k1 k2 k3 k5 mN,hh.get? C=some (excClassObj nm qn C Nn bs bm hdct sn sub ab col dd k0 k1 k2 k3 k5 newId)/\hh.Ns Nn mN/\mN "__init__"=none/\OwnTail hh bmB bm:=λ{hh} X=>by
  have q:=q
  unfold PySem.W.excIn at q
  split at q
  ·rename_i dd cdd sl ho
   split at q
   ·rename_i C' bm k0 k1 k2 k3 n k5 hm hs
    simp only[O2,beq_iff_eq,Qi] at q
    obtain⟨⟨⟨⟨⟨rfl,rfl⟩,hdel⟩,ht⟩,hok⟩,hni⟩:=q
    obtain⟨nm,bs,mro,ns,qn,hd,sn,sub,ab,col,del⟩:=cdd
    dsimp only at hm hdel hok hni
    subst hm hdel
    have hsl:sl=#[k0,k1,k2,k3,some (.builtin n),k5]:=by
     obtain⟨l⟩:=sl
     simp only at hs
     rw[hs]
    subst hsl
    exact⟨bm,ns,nm,qn,bs,hd,sn,sub,ab,col,dd,k0,k1,k2,k3,k5,_,X _ _ ho,.of_isNs (PySem.W.isNs_of_in X hok),PySem.W.nsMap_none_of_in X hok hni,PySem.W.tail_of_in X ht⟩
   ·cases q
  ·cases q
 obtain⟨bm,Nn,nm,qn,bs,hdct,sn,sub,ab,col,dd,k0,k1,k2,k3,k5,mN,hC,hN,hni,TL⟩:=own I.ok.mod.kin
 have hA:=ha cpos pins s σ H _ I h
 refine wpAny_Raise_call_subT (C:=C) (nm:=nm) (q:=qn) (N:=Nn) (bs:=bs) (bm:=bm) (hdct:=hdct) (sn:=sn) (sub:=sub) (ab:=ab) (col:=col) (dd:=dd) (k0:=k0) (k1:=k1) (k2:=k2) (k3:=k3) (k5:=k5) FB (mN:=mN) (TL.hasType hbb) (I.ok.hd rfl) ?_ hni (va I hg hm ⟨rfl,?_⟩ hdb)
 ·show (backTo cpos (starEach (e0 :: es) (envOfC qual scope s0.heap.objs.size f cd))).any (·.1)=false
  rw[he]
  show (false || (backTo cpos (starEach es (envOfC qual scope s0.heap.objs.size f cd))).any (·.1))=false
  rw[hpl];rfl
 have hA:wpAny _ _ (spliced (backTo cpos (starEach (e0 :: es) (envOfC qual scope s0.heap.objs.size f cd)))) _ _ s:=hA
 show wpAny _ _ (evalArgs (.ref C) true (backTo cpos (starEach (e0 :: es) (envOfC qual scope s0.heap.objs.size f cd))) []) _ _ s
 rw[he] at hA ⊢
 refine Calls.evalArgs_plain (cO hA λus s2 ⟨vs,H2,I2,r2,hl2,q2⟩=>⟨rfl,by show us.length<=_;rw[<-r2.length];exact hl2,I2.bk _ _ hC,hN.keeps I2.bk,TL.keeps I2.bk,λh' e hx=>?_⟩)
 have above:s0.heap.objs.size<=(envOfC qual scope s0.heap.objs.size f cd).locals:=I2.ok.above
 have nil:∀b:Addr,b∉([]:List Addr):=λb=>by simp
 refine yG (s:={s2 with heap:=h'}) (h:=s2.heap) (base:=base) (h₀:=s0.heap) I2.ok.frames rfl I2.stack I2.hok I2.stkFree (λb o z=>I2.base.there b o z (nil b)) hx λh2 kept slot Ly hok=>?_
 have nL:∀{b:Addr} {o:Obj},s0.heap.get? b=some o->b∉j8 outer->b∉j8 (envOfC qual scope s0.heap.objs.size f cd :: outer):=λ{b o} z hb hm=>by
  rcases OR.mp (I2.stkSub b hm) with e |e
  ·have:=OZ z
   rw[e] at this
   exact absurd (Pk this above) (Pw _)
  ·exact hb e
 have inn:∀{b:Addr},b∈j8 outer->b∈j8 (envOfC qual scope s0.heap.objs.size f cd :: outer):=λ{b} hb=>by
  obtain⟨en,h1,h2⟩:=QF.mp hb
  exact QF.mpr ⟨en,OS _ h1,h2⟩
 refine⟨e,.ref C,H2,rfl,I2.os,I2.bare,⟨λb o z n hb _=>?_,λb o z n hb _=>?_,λb o z n _=>I2.base.free b o z n (nil b),λb o z _=>?_,I2.base.tups,I2.base.frzs,I2.base.tbls⟩,hok,Ly,q2⟩
 ·exact kept b o (I2.base.keep b o z n hb (nil b)) (nL z hb)
 ·obtain⟨sl,z1⟩:=I2.base.slot b o z n hb (nil b)
  obtain⟨sl2,z2⟩:=slot b _ z1 (inn hb)
  exact⟨sl2,z2⟩
 ·obtain⟨o',z1⟩:=I2.base.there b o z (nil b)
  by_cases hb:b∈j8 (envOfC qual scope s0.heap.objs.size f cd :: outer)
  ·obtain⟨sl,z2⟩:=slot b o' z1 hb
   exact⟨_,z2⟩
  ·exact⟨o',kept b o' z1 hb⟩
end
def mroIn (K:Frag)(C:Addr):List Value:=match K.lookup C with
 |some ⟨_,_,.cls cd,_⟩=>cd.mro
 |_=>[]
structure Eu (k:Nat)(A:Around):Prop where
 dp:A.depth + 3 * k + 5 < recursionLimit
 un:A.units + 16 * k + 200 < cLine
 gd:A.guards=some []
def dW.h {k:Nat}{A:Around}(r:dW k A):Eu k A:=⟨r.dp,r.un,r.gd⟩
def Eu.units {k:Nat}{A:Around}(r:Eu k A):A.units + 64 < cLine:=by have:=r.un;omega
section
variable {P:Program}{w:World}{K:Frag}{mg:Str->Option Value}{base:Heap}
def B4.zC {x qual:Str}{st:Stmt}{f:Addr}{fd:FuncData}{N ps:List Str}{k:Nat}{sp:Sp}(F:B4 K x qual st f fd)(S:aH N ps (ar st))(len:∀vs H Q E,sp vs H Q E->vs.length=ps.length)
  (hbody:∀(cdv:Value) (A:Around) (outer:List Env) (s:Shared) (H:Hp) (vs:List V) (Q:VK) (E:XK),dW k (A.deeper (envOfC qual (ar st) s.heap.objs.size f cdv))->sp vs H Q E->
   ∃t,rR (lD (l4 P w) P w K mg base N qual (ar st) f cdv A outer s H E) (cZ st) t/\t {nx:=λ_ H'=>Q .non H',rt:=Q} (start N vs) H):fA P w K mg base (l4 P w) (k + 1) f fd ps sp:=by
 obtain⟨oc,od,kV,doc,pm,an,cdv,ct,osl,rfl,lk,hcd⟩:=F.ex
 exact C0 lk hcd S len λA outer s H vs Q E hr hsp=>hbody cdv A outer s H vs Q E hr hsp
end
section
variable {X:Cx}
def kl (hu:X.A.units + 100 < cLine):mT X (compareOp .NotIn) (I0 X.K true):=by
 intro pins s σ H x y v u Q I rx ry h
 obtain⟨p,xs,d,ds,rfl,hq,hs,hx,s1,s2,q⟩:=h
 cases ry
 obtain⟨bs,r2⟩:=hx.reads I rx
 have key:∀{e:PyData} {as:List Addr} {u:Value},SeqAt.shaped e=true->Reads s.heap u e as->SeqAt.EqAt X.A.in1 s u v (PyData.eqv e d):=λ{e as u} h1 h2=>by
  refine SeqAt.eqAt_reads _ _ _ _ _ _ _ _ h2 r2 (Qt h1) (Qt s1) ?_
  have:=SeqAt.depth_of_shaped h1
  show X.A.units + 1 + _ < _
  omega
 rcases hq with hq |hq
 ·obtain⟨its,r,pl,hz⟩:=I.list hq
  obtain⟨f,e1,e2⟩:=om I d r hs s2
  refine SeqAt.notIn_listAt f pl.isList (λw hw=>?_) ⟨.bl _,H,I,rfl,?_⟩
  ·obtain⟨e,as,hm,rd,ef⟩:=e2 w (by simpa using hw)
   rw[ef];exact key (s2 e hm) rd
  ·rw[show its.toArray.any f=its.any f by simp,e1];exact q
 ·obtain⟨its,r,pl,hz⟩:=I.tuple hq
  obtain⟨f,e1,e2⟩:=om I d r hs s2
  refine SeqAt.notIn_tupleAt f pl (λw hw=>?_) ⟨.bl _,H,I,rfl,?_⟩
  ·obtain⟨e,as,hm,rd,ef⟩:=e2 w (by simpa using hw)
   rw[ef];exact key (s2 e hm) rd
  ·rw[show its.toArray.any f=its.any f by simp,e1];exact q
end
abbrev D:=PyData
def kD:Key->D
 | .inl i=>.int i
 | .inr x=>.str x
mutual
inductive Rp (K:Frag)(G:Hp):V->D->Prop
 |non:Rp K G .non .none
 |bl (b:Bool):Rp K G (.bl b) (.bool b)
 |int (i:Int):Rp K G (.int i) (.int i)
 |str (x:Str):Rp K G (.str x) (.str x)
 |tup {a:Addr} {xs:List V} {ds:List D}:gA K G a xs->cx K G xs ds->Rp K G (.ref a) (.tuple ds)
 |lst {a:Addr} {xs:List V} {ds:List D}:G a=some (.lst xs)->cx K G xs ds->Rp K G (.ref a) (.list ds)
 |scr {a:Addr} {ns:List Int}:iF K G a (ns.map V.int)->Rp K G (.ref a) (.dict [(.none,.list (ns.map int))])
 |dK {a:Addr} {kvs:List (Key×V)} {ds:List (D×D)}:G a=some (.dK kvs)->B6 K G kvs ds->Rp K G (.ref a) (.dict ds)
 |dT {a:Addr} {kvs:List (List Key×V)} {ds:List (D×D)}:G a=some (.dT kvs)->B7 K G kvs ds->Rp K G (.ref a) (.dict ds)
inductive cx (K:Frag)(G:Hp):List V->List D->Prop
 |nil:cx K G [] []
 |cons {x:V} {xs:List V} {d:D} {ds:List D}:Rp K G x d->cx K G xs ds->cx K G (x :: xs) (d :: ds)
inductive B6 (K:Frag)(G:Hp):List (Key×V)->List (D×D)->Prop
 |nil:B6 K G [] []
 |cons {k:Key} {x:V} {xs:List (Key×V)} {d:D} {ds:List (D×D)}:Rp K G x d->B6 K G xs ds->B6 K G ((k,x) :: xs) ((kD k,d) :: ds)
inductive B7 (K:Frag)(G:Hp):List (List Key×V)->List (D×D)->Prop
 |nil:B7 K G [] []
 |cons {k:List Key} {x:V} {xs:List (List Key×V)} {d:D} {ds:List (D×D)}:Rp K G x d->B7 K G xs ds->B7 K G ((k,x) :: xs) ((.tuple (k.map kD),d) :: ds)
end
section
variable {K:Frag}{G G' H H':Hp}
def Lq {b:Addr}{o:HO}(h:Kt H b o)(hu:∀ps,o≠.tbl ps):H b=some o:=by
 obtain⟨u,e,k,_⟩:=h.some
 rw[e,k hu]
def uV {b:Addr}{o:HO}{xs:List V}(h:Kt H b o)(e:H b=some (.lst xs)):o=.lst xs:=by
 obtain⟨u,eu,k1,k2⟩:=h.some
 rw[e] at eu
 cases eu
 by_cases c:∃ps,o=.tbl ps
 ·obtain⟨ps,z⟩:=k2 c;cases z
 ·exact (k1 λps z=>c ⟨ps,z⟩).symm
theorem lR {a b:Addr}{o u:HO}(h:Kt H b u)(hb:b≠a)(ha:∀x y,H a≠some (.a9 x y)):Kt (upd H a o) b u:=by
 cases u with
 |tbl ps=>
  obtain⟨m,e,t,k⟩:=h
  refine⟨m,by rw[aA hb];exact e,t,λc hc=>?_⟩
  obtain⟨x,ex,ix⟩:=k c hc
  exact⟨x,by rw[aA (λz=>ha x _ (z▸ex))];exact ex,ix⟩
 |_=>exact (aA hb).trans h
def Rd.mono {a:Addr}{u:HO}(h:Rd G a u)(s:av G G')(hu:∀ps,u≠.tbl ps:=by intro _ z;cases z):Rd G' a u:=h.elim (λe=>.inl (Lq (s _ _ e) hu)) λ⟨o,e⟩=>.inr ⟨o,s _ _ e⟩
mutual
theorem Rp.mono (s:av G G'):∀{x:V} {d:D},Rp K G x d->Rp K G' x d
 |_,_,.non=>.non
 |_,_,.bl b=>.bl b
 |_,_,.int i=>.int i
 |_,_,.str x=>.str x
 |_,_,.tup h hs=>.tup (h.grow s.grow) (cx.mono s hs)
 |_,_,.lst h hs=>.lst (s _ _ h) (cx.mono s hs)
 |_,_,.scr h=>.scr (s.seq h)
 |_,_,.dK h hs=>.dK (s _ _ h) (B6.mono s hs)
 |_,_,.dT h hs=>.dT (s _ _ h) (B7.mono s hs)
theorem cx.mono (s:av G G'):∀{xs:List V} {ds:List D},cx K G xs ds->cx K G' xs ds
 |_,_,.nil=>.nil
 |_,_,.cons h hs=>.cons (Rp.mono s h) (cx.mono s hs)
theorem B6.mono (s:av G G'):∀{xs:List (Key×V)} {ds:List (D×D)},B6 K G xs ds->B6 K G' xs ds
 |_,_,.nil=>.nil
 |_,_,.cons h hs=>.cons (Rp.mono s h) (B6.mono s hs)
theorem B7.mono (s:av G G'):∀{xs:List (List Key×V)} {ds:List (D×D)},B7 K G xs ds->B7 K G' xs ds
 |_,_,.nil=>.nil
 |_,_,.cons h hs=>.cons (Rp.mono s h) (B7.mono s hs)
end
theorem cx.len:∀{xs:List V} {ds:List D},cx K G xs ds->xs.length=ds.length
 |_,_,.nil=>rfl
 |_,_,.cons _ t=>by simp[cx.len t]
theorem cx.at:∀{xs:List V} {ds:List D} {i:Nat} {d:D},cx K G xs ds->ds[i]? =some d->∃x,xs[i]? =some x/\Rp K G x d
 |_,_,_,_,.nil,e=>by simp at e
 |_,_,0,_,.cons r _,e=>by simp at e;subst e;exact⟨_,rfl,r⟩
 |_,_,i + 1,x,.cons _ t,e=>by
  obtain⟨u,h1,h2⟩:=cx.at (i:=i) (d:=x) t (by simpa using e)
  exact⟨u,by simpa using h1,h2⟩
theorem cx.at':∀{xs:List V} {ds:List D} {i:Nat} {x:V},cx K G xs ds->xs[i]? =some x->∃d,ds[i]? =some d/\Rp K G x d
 |_,_,_,_,.nil,e=>by simp at e
 |_,_,0,_,.cons r _,e=>by simp at e;subst e;exact⟨_,rfl,r⟩
 |_,_,i + 1,x,.cons _ t,e=>by
  obtain⟨u,h1,h2⟩:=cx.at' (i:=i) (x:=x) t (by simpa using e)
  exact⟨u,by simpa using h1,h2⟩
theorem cx.append:∀{xs ys:List V} {ds es:List D},cx K G xs ds->cx K G ys es->cx K G (xs ++ ys) (ds ++ es)
 |_,_,_,_,.nil,s=>s
 |_,_,_,_,.cons r t,s=>.cons r (cx.append t s)
def cx.snoc {xs:List V}{ds:List D}{x:V}{d:D}(h:cx K G xs ds)(q:Rp K G x d):cx K G (xs ++ [x]) (ds ++ [d]):=h.append (.cons q .nil)
theorem cx.take:∀{xs:List V} {ds:List D} (n:Nat),cx K G xs ds->cx K G (xs.take n) (ds.take n)
 |_,_,0,_=>.nil
 |_,_,_ + 1,.nil=>.nil
 |_,_,n + 1,.cons r t=>.cons r (cx.take n t)
theorem cx.drop:∀{xs:List V} {ds:List D} (n:Nat),cx K G xs ds->cx K G (xs.drop n) (ds.drop n)
 |_,_,0,r=>r
 |_,_,_ + 1,.nil=>.nil
 |_,_,n + 1,.cons _ t=>cx.drop n t
theorem cx.set {x:V}{d:D}(r:Rp K G x d):∀{xs:List V} {ds:List D} (i:Nat),cx K G xs ds->cx K G (xs.set i x) (ds.set i d)
 |_,_,_,.nil=>.nil
 |_,_,0,.cons _ t=>.cons r t
 |_,_,i + 1,.cons q t=>.cons q (cx.set r i t)
theorem cx.rep {n:Nat}{xs:List V}{ds:List D}(h:cx K G xs ds):cx K G (List.replicate n xs).flatten (List.replicate n ds).flatten:=by
 induction n with
 |zero=>exact .nil
 |succ n ih=>rw[Py,Py,Qh,Qh];exact h.append ih
mutual
def Dh:D->Bool
 | .dict _=>false
 | .list ds=>si ds
 | .tuple ds=>si ds
 |_=>true
def si:List D->Bool
 | []=>true
 |d :: ds=>Dh d && si ds
end
mutual
theorem Rp.rep:∀{x:V} {d:D},Rp K G x d->Dh d=true->Rep K G x d
 |_,_,.non,_=>.non
 |_,_,.bl b,_=>.bl b
 |_,_,.int i,_=>.int i
 |_,_,.str x,_=>.str x
 |_,_,.tup h hs,e=>.tup h (cx.reps hs (by simpa[Dh] using e))
 |_,_,.lst h hs,e=>.lst (.inl (.inl h)) (cx.reps hs (by simpa[Dh] using e))
 |_,_,.scr _,e=>by simp[Dh] at e
 |_,_,.dK _ _,e=>by simp[Dh] at e
 |_,_,.dT _ _,e=>by simp[Dh] at e
theorem cx.reps:∀{xs:List V} {ds:List D},cx K G xs ds->si ds=true->ko K G xs ds
 |_,_,.nil,_=>.nil
 |_,_,.cons h hs,e=>.cons (Rp.rep h (by simp[si] at e;exact e.1)) (cx.reps hs (by simp[si] at e;exact e.2))
end
def Own (K:Frag)(G H:Hp)(a:Addr):D->Prop
 | .list ds=>∃xs,H a=some (.lst xs)/\cx K G xs ds
 | .dict ds=>(∃kvs,H a=some (.dK kvs)/\B6 K G kvs ds)\/∃kvs,H a=some (.dT kvs)/\B7 K G kvs ds
 |_=>False
def Own.obj {a:Addr}{d:D}(h:Own K G H a d):∃o,H a=some o:=by
 cases d <;> first |exact h.elim |skip
 ·obtain⟨xs,e,_⟩:=h;exact⟨_,e⟩
 ·rcases h with⟨_,e,_⟩ | ⟨_,e,_⟩ <;> exact⟨_,e⟩
def Own.mono {a:Addr}{d:D}(h:Own K G H a d)(s:av G G')(m:∀o,H a=some o->Kt H' a o):Own K G' H' a d:=by
 cases d <;> first |exact h.elim |skip
 ·obtain⟨xs,e,r⟩:=h;exact⟨xs,m _ e,r.mono s⟩
 ·rcases h with⟨k,e,r⟩ | ⟨k,e,r⟩
  ·exact .inl ⟨k,m _ e,r.mono s⟩
  ·exact .inr ⟨k,m _ e,r.mono s⟩
def Own.rp {a:Addr}{d:D}(h:Own K G H a d)(n:G a=none){G':Hp}(s:av G G')(e:∀o,H a=some o->G' a=some o):Rp K G' (.ref a) d:=by
 cases d <;> first |exact h.elim |skip
 ·obtain⟨xs,q,r⟩:=h;exact .lst (e _ q) (r.mono s)
 ·rcases h with⟨k,q,r⟩ | ⟨k,q,r⟩
  ·exact .dK (e _ q) (r.mono s)
  ·exact .dT (e _ q) (r.mono s)
def mj (K:Frag)(B:Option Addr)(G H:Hp)(v:V)(d:D):Prop:=Rp K G v d\/∃a,v=.ref a/\B≠some a/\Own K G H a d
def iJ (B:Option Addr)(H H':Hp):Prop:=(∀b o,H b=some o->B≠some b->Kt H' b o)/\∀b o u,H b=some (.a9 o u)->H' b=some (.a9 o u)
def iJ.refl (B:Option Addr)(H:Hp):iJ B H H:=⟨λ_ _ h _=>Kt.of h,λ_ _ _ h=>h⟩
theorem zu {B:Option Addr}{b:Addr}{o:HO}(h1:Kt H b o)(y:iJ B H H')(n:B≠some b):Kt H' b o:=by
 cases o with
 |tbl ps=>
  obtain⟨m,e,t,k⟩:=h1
  obtain⟨m2,e2,t2,k2⟩:=y.1 b _ e n
  refine⟨m ++ m2,by rw[e2,Array.append_assoc],by rw[QC];exact t.app t2,λc hc=>?_⟩
  rw[QC,O4] at hc
  rcases hc with hc |hc
  ·obtain⟨o,eo,io⟩:=k c hc;exact⟨o,y.2 c _ _ eo,io⟩
  ·exact k2 c hc
 |_=>exact y.1 b _ h1 n
def iJ.trans {B:Option Addr}{H1:Hp}(x:iJ B H H1)(y:iJ B H1 H'):iJ B H H':=⟨λb o h n=>zu (x.1 b o h n) y n,λb o u h=>y.2 b o u (x.2 b o u h)⟩
def av.mov (s:av H H')(B:Option Addr):iJ B H H':=⟨λb o h _=>s b o h,λb o u h=>s b _ h⟩
def mj.mono {B:Option Addr}{v:V}{d:D}(h:mj K B G H v d)(s:av G G')(m:iJ B H H'):mj K B G' H' v d:=by
 rcases h with h | ⟨a,e,n,h⟩
 ·exact .inl (h.mono s)
 ·exact .inr ⟨a,e,n,h.mono s λo q=>m.1 a o q n⟩
def mj.rpH {B:Option Addr}{v:V}{d:D}(h:mj K B G H v d)(s:av G H):Rp K H v d:=by
 rcases h with h | ⟨a,rfl,n,h⟩
 ·exact h.mono s
 ·cases d <;> first |exact h.elim |skip
  ·obtain⟨xs,q,r⟩:=h;exact .lst q (r.mono s)
  ·rcases h with⟨k,q,r⟩ | ⟨k,q,r⟩
   ·exact .dK q (r.mono s)
   ·exact .dT q (r.mono s)
def mj.list {B:Option Addr}{v:V}{ds:List D}(h:mj K B G H v (.list ds))(s:av G H):∃a xs,v=.ref a/\Rd H a (.lst xs)/\cx K G xs ds:=by
 rcases h with h | ⟨a,rfl,n,xs,q,r⟩
 ·cases h with
  |lst h r=>exact⟨_,_,rfl,.inl (s _ _ h),r⟩
 ·exact⟨a,xs,rfl,.inl q,r⟩
def mj.tuple {B:Option Addr}{v:V}{ds:List D}(h:mj K B G H v (.tuple ds))(s:av G H):∃a xs,v=.ref a/\gA K H a xs/\cx K G xs ds:=by
 rcases h with h | ⟨a,rfl,n,h⟩
 ·cases h with
  |tup h r=>exact⟨_,_,rfl,h.grow s.grow,r⟩
 ·exact h.elim
def mj.int {B:Option Addr}{v:V}{i:Int}(h:mj K B G H v (.int i)):v=.int i:=by
 rcases h with h | ⟨a,rfl,n,h⟩
 ·cases h;rfl
 ·exact h.elim
def mj.bool {B:Option Addr}{v:V}{b:Bool}(h:mj K B G H v (.bool b)):v=.bl b:=by
 rcases h with h | ⟨a,rfl,n,h⟩
 ·cases h;rfl
 ·exact h.elim
def mj.str {B:Option Addr}{v:V}{x:Str}(h:mj K B G H v (.str x)):v=.str x:=by
 rcases h with h | ⟨a,rfl,n,h⟩
 ·cases h;rfl
 ·exact h.elim
def mj.none {B:Option Addr}{v:V}(h:mj K B G H v .none):v=.non:=by
 rcases h with h | ⟨a,rfl,n,h⟩
 ·cases h;rfl
 ·exact h.elim
end
def Fz:HO->Prop
 | .tup _=>True
 | .a9 _ _=>True
 |_=>False
def Mx (H:Hp)(b:Addr):Prop:=H b≠none/\∀o,H b=some o->¬Fz o
def Mx.lst {H:Hp}{b:Addr}{xs:List V}(h:H b=some (.lst xs)):Mx H b:=⟨by rw[h];simp,λys z=>by rw[h] at z;cases z;exact λy=>y⟩
theorem Mx.same {H H':Hp}{b:Addr}(h:Mx H b)(m:∀o,H b=some o->Kt H' b o):Mx H' b:=by
 obtain⟨h1,h2⟩:=h
 cases e:H b with
 |none=>exact absurd e h1
 |some o=>
  obtain⟨u,eu,k1,k2⟩:=(m o e).some
  refine⟨by rw[eu];simp,λxs z=>?_⟩
  rw[eu] at z
  cases z
  by_cases c:∃ps,o=.tbl ps
  ·obtain⟨ps,e⟩:=k2 c;rw[e];exact λy=>y
  ·rw[k1 λps e=>c ⟨ps,e⟩];exact h2 o e
def Own.mx {K:Frag}{G H:Hp}{a:Addr}{d:D}(h:Own K G H a d):Mx H a:=by
 cases d <;> first |exact h.elim |skip
 ·obtain⟨xs,e,_⟩:=h;exact Mx.lst e
 ·rcases h with⟨k,e,_⟩ | ⟨k,e,_⟩ <;> exact⟨by rw[e];simp,λys z=>by rw[e] at z;cases z;exact λy=>y⟩
open Classical in
noncomputable def gL (G H:Hp):Hp:=λb=>match G b with
 |some o=>some o
 |none=>match H b with
  |some o=>if Fz o then some o else none
  |none=>none
def oN {G H:Hp}:av G (gL G H):=λb o e=>Kt.of (by unfold gL;rw[e])
theorem uK {G H:Hp}(s:av G H){b:Addr}{o:HO}(e:H b=some o)(f:Fz o):gL G H b=some o:=by
 unfold gL
 cases q:G b with
 |some u=>
  obtain⟨u',eu,k1,k2⟩:=(s b u q).some
  rw[e] at eu
  cases eu
  by_cases c:∃ps,u=.tbl ps
  ·obtain⟨ps,z⟩:=k2 c;subst z;exact f.elim
  ·rw[k1 λps z=>c ⟨ps,z⟩]
 |none=>simp only[e];rw[OO f]
theorem kg {G H:Hp}(s:av G H):av (gL G H) H:=λb o e=>by
 unfold gL at e
 cases q:G b with
 |some u=>rw[q] at e;cases e;exact s b _ q
 |none=>
  rw[q] at e
  cases q2:H b with
  |none=>rw[q2] at e;cases e
  |some u=>
   rw[q2] at e
   dsimp only at e
   split at e
   ·cases e;exact Kt.of q2
   ·cases e
theorem u4 {G H H':Hp}(hh:av H H'){b:Addr}(m:Mx H b):gL G H' b=G b:=by
 unfold gL
 cases q:G b with
 |some u=>rfl
 |none=>
  obtain⟨h1,h2⟩:=m
  cases e:H b with
  |none=>exact absurd e h1
  |some o=>
   have hm:=(show Mx H b from⟨h1,h2⟩).same (hh b)
   cases e2:H' b with
   |none=>rfl
   |some u=>simp only;rw[OV (hm.2 u e2)]
def qJ {K:Frag}{G H:Hp}(s:av G H){a:Addr}{xs:List V}(h:gA K H a xs):gA K (gL G H) a xs:=by
 rcases h with (h | ⟨o,h⟩) |h
 ·exact .inl (.inl (uK s h trivial))
 ·exact .inl (.inr ⟨o,uK s h trivial⟩)
 ·exact .inr h
structure Fx where
 K:Frag
 H0:Hp
 G0:Hp
 par:List Addr
 ca:Str->Addr
 br:Nat->Bool
 bx:Option Addr
inductive Sl where
 |no |fz (d:D) |ow (d:D) |bx |br (d:D)
abbrev En:=List Sl
inductive Nv where
 |no |da (d:D) |bx
def Sl.val:Sl->Nv
 | .no=>.no
 | .fz d=>.da d
 | .ow d=>.da d
 | .br d=>.da d
 | .bx=>.bx
def vl (env:En):List Nv:=env.map Sl.val
def Nb (Γ:Fx)(B:Option Addr)(G H:Hp)(i:Nat)(o:Option (Option V)):Sl->Prop
 | .no=>True
 | .fz d=>∃v,o=some (some v)/\Rp Γ.K G v d
 | .ow d=>∃a,o=some (some (.ref a))/\Γ.H0 a=none/\G a=none/\B≠some a/\Own Γ.K G H a d
 | .bx=>∃a,o=some (some (.ref a))/\B=some a
 | .br d=>Γ.br i=true/\∃a,o=some (some (.ref a))/\B≠some a/\a∉Γ.par/\Own Γ.K G H a d
structure SR (Γ:Fx)(B:Option Addr)(G H:Hp)(σ:St)(env:En)(β:Int):Prop where
 sub:av G H
 old:av Γ.G0 G
 new:∀b,Mx Γ.H0 b->Γ.G0 b=none->G b=none
 keep:∀b o,Γ.H0 b=some o->b∉Γ.par->Kt H b o
 pin:∀b,b∈Γ.par->Mx H b
 fix:∀b,Γ.bx=some b->B=some b
 box:∀b,B=some b->H b=some (.lst [.int β])/\G b=none/\(b∈Γ.par\/Γ.H0 b=none)
 len:σ.length=env.length
 slot:∀(i:Nat) (s:Sl),env[i]? =some s->Nb Γ B G H i (σ[i]?) s
 sep:∀(i j:Nat) (a:Addr) (d e:D),env[i]? =some (.ow d)->env[j]? =some (.ow e)->σ[i]? =some (some (.ref a))->σ[j]? =some (some (.ref a))->i=j
structure Ext (G H G' H':Hp):Prop where
 hh:av H H'
 gg:av G G'
 gh:av G' H'
 on:∀b,Mx H b->G' b=G b
def Ext.refl {G H:Hp}(s:av G H):Ext G H G H:=⟨av.refl _,av.refl _,s,λ_ _=>rfl⟩
def Ext.new {G H:Hp}(s:av G H){p:Addr}{o:HO}(h:H p=none):Ext G H (upd G p o) (upd H p o):=by
 refine⟨av.new h,av.new (s.free h),λb u e=>?_,λb hb=>?_⟩
 ·by_cases z:b=p
  ·subst z;rw[aE] at e;exact Kt.of (by rw[aE];exact e)
  ·rw[aA z] at e;exact lR (s b u e) z (λx y w=>by rw[h] at w;cases w)
 ·exact aA (λz=>hb.1 (by rw[z];exact h))
def Ext.own {G H:Hp}(s:av G H){p:Addr}{o:HO}(h:H p=none):Ext G H G (upd H p o):=
 ⟨av.new h,av.refl _,s.trans (av.new h),λ_ _=>rfl⟩
def Ext.trans {G H G1 H1 G2 H2:Hp}(x:Ext G H G1 H1)(y:Ext G1 H1 G2 H2):Ext G H G2 H2:=by
 refine⟨x.hh.trans y.hh,x.gg.trans y.gg,y.gh,λb hb=>?_⟩
 rw[y.on b (hb.same λo e=>x.hh b o e),x.on b hb]
section
variable {Γ:Fx}{B:Option Addr}{G H G' H':Hp}{σ:St}{env:En}{β:Int}
def SR.there (I:SR Γ B G H σ env β){b:Addr}(h:Γ.H0 b≠none):H b≠none:=by
 by_cases hp:b∈Γ.par
 ·exact (I.pin b hp).1
 ·cases e:Γ.H0 b with
  |none=>exact absurd e h
  |some o=>obtain⟨u,eu,_⟩:=(I.keep b o e hp).some;rw[eu];simp
def SR.thereM (I:SR Γ B G H σ env β){b:Addr}(h:Mx Γ.H0 b):Mx H b:=by
 by_cases hp:b∈Γ.par
 ·exact I.pin b hp
 ·exact h.same λo e=>I.keep b o e hp
def SR.ext (I:SR Γ B G H σ env β)(x:Ext G H G' H'):SR Γ B G' H' σ env β:=by
 refine⟨x.gh,I.old.trans x.gg,λb h1 h2=>?_,λb o h1 h2=>(I.keep b o h1 h2).step x.hh,λb hb=>?_,I.fix,λb e=>?_,I.len,λi s e=>?_,I.sep⟩
 ·rw[x.on b (I.thereM h1)];exact I.new b h1 h2
 ·exact (I.pin b hb).same λo e=>x.hh b o e
 ·obtain⟨h1,h2,h3⟩:=I.box b e
  exact⟨x.hh b _ h1,by rw[x.on b (Mx.lst h1)];exact h2,h3⟩
 ·have q:=I.slot i s e
  cases s with
  |no=>trivial
  |fz d=>obtain⟨v,h1,h2⟩:=q;exact⟨v,h1,h2.mono x.gg⟩
  |ow d=>
   obtain⟨a,h1,h2,h3,h4,h5⟩:=q
   exact⟨a,h1,h2,by rw[x.on a h5.mx];exact h3,h4,h5.mono x.gg λo q=>x.hh a o q⟩
  |bx=>exact q
  |br d=>obtain⟨b1,a,h1,h4,hp,h5⟩:=q;exact⟨b1,a,h1,h4,hp,h5.mono x.gg λo q=>x.hh a o q⟩
def hZ (env:En)(i:Nat):En:=match env[i]? with
 |some (.ow d)=>env.set i (.fz d)
 |_=>env
def a9 (L:List Nat)(env:En):En:=L.foldl hZ env
def cq (L M:List Nat)(env:En):a9 (L ++ M) env=a9 M (a9 L env):=by unfold a9;rw[List.foldl_append]
def yu (env:En)(i:Nat)(s:Sl)(h:∀t,env[i]? =some t->t.val=s.val):vl (env.set i s)=vl env:=by
 unfold vl
 apply List.ext_getElem?
 intro j
 rw[OW,OW,List.getElem?_set]
 by_cases e:i=j
 ·subst e
  by_cases hi:i < env.length
  ·simp only[Qs,hi]
   have:=h _ (OJ hi)
   simp[OJ hi,this]
  ·simp only[Qs,hi,Q4]
   rw[Ql (by omega)]
 ·simp[e]
def Fq (env:En)(i:Nat):vl (hZ env i)=vl env:=by
 unfold hZ
 split
 ·rename_i d e
  exact yu _ _ _ λt ht=>by rw[e] at ht;cases ht;rfl
 ·rfl
theorem dH (L:List Nat)(env:En):vl (a9 L env)=vl env:=by
 unfold a9
 induction L generalizing env with
 |nil=>rfl
 |cons i L ih=>rw[foldl_cons,ih,Fq]
theorem DV {i:Nat}{d:D}(h:(vl env)[i]? =some (.da d)):env[i]? =some (.fz d)\/env[i]? =some (.ow d)\/env[i]? =some (.br d):=by
 unfold vl at h
 rw[OW] at h
 cases e:env[i]? with
 |none=>rw[e] at h;simp at h
 |some s=>
  rw[e] at h
  cases s with
  |no=>simp[Sl.val] at h
  |fz d'=>simp[Sl.val] at h;subst h;exact .inl rfl
  |ow d'=>simp[Sl.val] at h;subst h;exact .inr (.inl rfl)
  |bx=>simp[Sl.val] at h
  |br d'=>simp[Sl.val] at h;subst h;exact .inr (.inr rfl)
theorem LD {i:Nat}(h:(vl env)[i]? =some .bx):env[i]? =some .bx:=by
 unfold vl at h
 rw[OW] at h
 cases e:env[i]? with
 |none=>rw[e] at h;simp at h
 |some s=>
  rw[e] at h
  cases s with
  |bx=>rfl
  |_=>simp[Sl.val] at h
def SR.freeze (I:SR Γ B G H σ env β)(i:Nat)(hb:Γ.br i=false){d:D}(h:(vl env)[i]? =some (.da d)):∃G' v,SR Γ B G' H σ (hZ env i) β/\av G G'/\σ[i]? =some (some v)/\Rp Γ.K G' v d:=by
 rcases DV h with e |e |e
 ·obtain⟨v,h1,h2⟩:=I.slot i _ e
  exact⟨G,v,by unfold hZ;rw[e];exact I,av.refl _,h1,h2⟩
 rotate_left
 ·obtain⟨z,_⟩:=I.slot i _ e
  rw[hb] at z;cases z
 ·obtain⟨a,h1,h2,h3,h4,h5⟩:=I.slot i _ e
  obtain⟨o,ho⟩:=h5.obj
  have sG:av G (upd G a o):=av.new h3
  have hi:i < env.length:=(OQ.mp e).1
  have hr:Rp Γ.K (upd G a o) (.ref a) d:=h5.rp h3 sG λo' q=>by rw[ho] at q;cases q;exact aE
  refine⟨upd G a o,.ref a,?_,sG,h1,hr⟩
  unfold hZ
  rw[e]
  refine⟨λb u q=>?_,I.old.trans sG,λb n1 n2=>?_,I.keep,I.pin,I.fix,λb q=>?_,by rw[P8];exact I.len,λj s q=>?_,λj k c d1 d2 q1 q2 q3 q4=>?_⟩
  ·by_cases z:b=a
   ·subst z;rw[aE] at q;cases q;exact Kt.of ho
   ·rw[aA z] at q;exact I.sub b u q
  ·rw[aA (λz=>n1.1 (by rw[z];exact h2))];exact I.new b n1 n2
  ·obtain⟨k1,k2,k3⟩:=I.box b q
   exact⟨k1,by rw[aA (λz=>h4 (by rw[<-z];exact q))];exact k2,k3⟩
  ·by_cases z:j=i
   ·subst z
    rw[O7 hi] at q
    cases q
    exact⟨.ref a,h1,hr⟩
   ·rw[O6 (Ne.symm z)] at q
    have w:=I.slot j s q
    cases s with
    |no=>trivial
    |fz d'=>obtain⟨v,w1,w2⟩:=w;exact⟨v,w1,w2.mono sG⟩
    |ow d'=>
     obtain⟨c,w1,w2,w3,w4,w5⟩:=w
     have ca:c≠a:=λz2=>z (I.sep j i c d' d q e w1 (by rw[z2];exact h1))
     exact⟨c,w1,w2,by rw[aA ca];exact w3,w4,w5.mono sG λo q=>Kt.of q⟩
    |bx=>exact w
    |br d'=>obtain⟨b1,c,w1,w4,wp,w5⟩:=w;exact⟨b1,c,w1,w4,wp,w5.mono sG λo q=>Kt.of q⟩
  ·have ne:∀{j:Nat} {d':D},(env.set i (Sl.fz d))[j]? =some (.ow d')->env[j]? =some (.ow d'):=λ{j d'} q=>by
    by_cases z:j=i
    ·subst z;rw[O7 hi] at q;cases q
    ·rw[O6 (Ne.symm z)] at q;exact q
   exact I.sep j k c d1 d2 (ne q1) (ne q2) q3 q4
theorem SR.a9 (I:SR Γ B G H σ env β)(L:List Nat)(hb:∀i,i∈L->Γ.br i=false):∃G',SR Γ B G' H σ (a9 L env) β/\av G G':=by
 induction L generalizing env G with
 |nil=>exact⟨G,I,av.refl _⟩
 |cons i L ih=>
  show ∃G',SR Γ B G' H σ (L2.a9 L (hZ env i)) β/\av G G'
  have key:∃G1,SR Γ B G1 H σ (hZ env i) β/\av G G1:=by
   cases e:env[i]? with
   |none=>exact⟨G,by unfold hZ;rw[e];exact I,av.refl _⟩
   |some s=>
    cases s with
    |ow d=>
     obtain⟨G1,v,h1,h2,_⟩:=I.freeze i (hb i (OU ..)) (d:=d) (by unfold vl;rw[OW,e];rfl)
     exact⟨G1,h1,h2⟩
    |_=>exact⟨G,by unfold hZ;rw[e];exact I,av.refl _⟩
  obtain⟨G1,I1,s1⟩:=key
  obtain⟨G2,I2,s2⟩:=ih I1 λj hj=>hb j (OS _ hj)
  exact⟨G2,I2,s1.trans s2⟩
def SR.set (I:SR Γ B G H σ env β){i:Nat}(hi:i < env.length){v:V}{d:D}(h:Rp Γ.K G v d):SR Γ B G H (σ.set i (some v)) (env.set i (.fz d)) β:=by
 have hs:i < σ.length:=by rw[I.len];exact hi
 refine⟨I.sub,I.old,I.new,I.keep,I.pin,I.fix,I.box,by rw[P8,P8];exact I.len,λj s q=>?_,λj k c d1 d2 q1 q2 q3 q4=>?_⟩
 ·by_cases z:j=i
  ·subst z
   rw[O7 hi] at q
   cases q
   exact⟨v,by rw[O7 hs],h⟩
  ·rw[O6 (Ne.symm z)] at q ⊢
   exact I.slot j s q
 ·have ne:∀{j:Nat} {d':D},(env.set i (Sl.fz d))[j]? =some (.ow d')->j≠i/\env[j]? =some (.ow d'):=λ{j d'} q=>by
   by_cases z:j=i
   ·subst z;rw[O7 hi] at q;cases q
   ·rw[O6 (Ne.symm z)] at q;exact⟨z,q⟩
  obtain⟨n1,e1⟩:=ne q1
  obtain⟨n2,e2⟩:=ne q2
  rw[O6 (Ne.symm n1)] at q3
  rw[O6 (Ne.symm n2)] at q4
  exact I.sep j k c d1 d2 e1 e2 q3 q4
def SR.setOw (I:SR Γ B G H σ env β){i:Nat}(hi:i < env.length){a:Addr}{d:D}(h0:Γ.H0 a=none)(hg:G a=none)(hb:B≠some a)(h:Own Γ.K G H a d)(hn:∀(j:Nat) (d':D),env[j]? =some (.ow d')->j≠i->σ[j]?≠some (some (.ref a))):SR Γ B G H (σ.set i (some (.ref a))) (env.set i (.ow d)) β:=by
 have hs:i < σ.length:=by rw[I.len];exact hi
 refine⟨I.sub,I.old,I.new,I.keep,I.pin,I.fix,I.box,by rw[P8,P8];exact I.len,λj s q=>?_,λj k c d1 d2 q1 q2 q3 q4=>?_⟩
 ·by_cases z:j=i
  ·subst z
   rw[O7 hi] at q
   cases q
   exact⟨a,by rw[O7 hs],h0,hg,hb,h⟩
  ·rw[O6 (Ne.symm z)] at q ⊢
   exact I.slot j s q
 ·by_cases z1:j=i
  ·by_cases z2:k=i
   ·rw[z1,z2]
   ·subst z1
    rw[O6 (Ne.symm z2)] at q2 q4
    rw[O7 hs] at q3
    cases q3
    exact absurd q4 (hn k d2 q2 z2)
  ·by_cases z2:k=i
   ·subst z2
    rw[O6 (Ne.symm z1)] at q1 q3
    rw[O7 hs] at q4
    cases q4
    exact absurd q3 (hn j d1 q1 z1)
   ·rw[O6 (Ne.symm z1)] at q1 q3
    rw[O6 (Ne.symm z2)] at q2 q4
    exact I.sep j k c d1 d2 q1 q2 q3 q4
def SR.fresh (I:SR Γ B G H σ env β){a:Addr}(h:H a=none):Γ.H0 a=none/\G a=none/\B≠some a/\∀(j:Nat) (d:D),env[j]? =some (.ow d)->σ[j]?≠some (some (.ref a)):=by
 have hB:B≠some a:=λz=>by rw[(I.box a z).1] at h;cases h
 refine⟨?_,I.sub.free h,hB,λj d e z=>?_⟩
 ·cases e:Γ.H0 a with
  |none=>rfl
  |some o=>exact absurd h (I.there (by rw[e];simp))
 ·obtain⟨c,h1,_,_,_,h5⟩:=I.slot j _ e
  rw[z] at h1
  cases h1
  obtain⟨o,ho⟩:=h5.obj
  rw[h] at ho;cases ho
def SR.write (I:SR Γ B G H σ env β)(hb:∀j,Γ.br j=false){i:Nat}{a:Addr}{d d':D}{o:HO}(e:env[i]? =some (.ow d))(ea:σ[i]? =some (some (.ref a)))(h:∀H',H' a=some o->av G H'->Own Γ.K G H' a d'):SR Γ B G (upd H a o) σ (env.set i (.ow d')) β:=by
 obtain⟨a',h1,h2,h3,h4,h5⟩:=I.slot i _ e
 rw[ea] at h1;cases h1
 have hi:i < env.length:=(OQ.mp e).1
 have ha:∀x y,H a≠some (.a9 x y):=λx y w=>h5.mx.2 _ w trivial
 have sub:av G (upd H a o):=λb u q=>lR (I.sub b u q) (λz=>by rw[z,h3] at q;cases q) ha
 refine⟨sub,I.old,I.new,λb u q n=>?_,λb q=>?_,I.fix,λb q=>?_,by rw[P8];exact I.len,λj s q=>?_,λj k c d1 d2 q1 q2 q3 q4=>?_⟩
 ·exact lR (I.keep b u q n) (λz=>by rw[z,h2] at q;cases q) ha
 ·by_cases z:b=a
  ·subst z;exact (h _ aE sub).mx
  ·exact (I.pin b q).same λo e=>Kt.of (by rw[aA z];exact e)
 ·obtain⟨k1,k2,k3⟩:=I.box b q
  exact⟨by rw[aA (λz=>h4 (by rw[<-z];exact q))];exact k1,k2,k3⟩
 ·by_cases z:j=i
  ·subst z
   rw[O7 hi] at q
   cases q
   exact⟨a,ea,h2,h3,h4,h _ aE sub⟩
  ·rw[O6 (Ne.symm z)] at q
   have w:=I.slot j s q
   cases s with
   |no=>trivial
   |fz d1=>exact w
   |ow d1=>
    obtain⟨c,w1,w2,w3,w4,w5⟩:=w
    have ca:c≠a:=λz2=>z (I.sep j i c d1 d q e w1 (by rw[z2];exact ea))
    exact⟨c,w1,w2,w3,w4,w5.mono (av.refl _) λo q=>Kt.of (by rw[aA ca];exact q)⟩
   |bx=>exact w
   |br d1=>obtain⟨b1,_⟩:=w;rw[hb j] at b1;cases b1
 ·have back:∀{j:Nat} {d1:D},(env.set i (Sl.ow d'))[j]? =some (.ow d1)->∃d2,env[j]? =some (.ow d2):=λ{j d1} q=>by
   by_cases z:j=i
   ·subst z;exact⟨d,e⟩
   ·rw[O6 (Ne.symm z)] at q;exact⟨d1,q⟩
  obtain⟨_,b1⟩:=back q1
  obtain⟨_,b2⟩:=back q2
  exact I.sep j k c _ _ b1 b2 q3 q4
end
inductive R (α:Type) where
 |ok (a:α) (β:Int)
 |exc (c:Str)
 |bad
def R.bnd {α γ:Type}(r:R α)(k:α->Int->R γ):R γ:=match r with
 | .ok a β=>k a β
 | .exc c=>.exc c
 | .bad=>.bad
def R.of {α:Type}(o:Option α)(β:Int):R α:=match o with
 |some a=>.ok a β
 |none=>.bad
abbrev VF (α:Type):=List Nv->Int->R α
def Kp (Γ:Fx)(H':Hp):Prop:=∀b o,Γ.H0 b=some o->b∉Γ.par->Kt H' b o
def Out {α:Type}(Γ:Fx)(E:XK)(r:R α)(P:α->Int->Prop):Prop:=match r with
 | .ok a β=>P a β
 | .exc c=>∀H',Kp Γ H'->E (.ref (Γ.ca c)) none H'
 | .bad=>False
section
variable {α γ:Type}{Γ:Fx}{E:XK}
theorem Out.bnd {r:R α}{k:α->Int->R γ}{P:γ->Int->Prop}(h:Out Γ E (r.bnd k) P):Out Γ E r λa β=>Out Γ E (k a β) P:=by
 cases r with
 |ok a β=>exact h
 |exc c=>exact h
 |bad=>exact h
theorem Out.imp {r:R α}{P P':α->Int->Prop}(h:Out Γ E r P)(i:∀a β,P a β->P' a β):Out Γ E r P':=by
 cases r with
 |ok a β=>exact i a β h
 |exc c=>exact h
 |bad=>exact h
theorem Out.of {o:Option α}{β:Int}{P:α->Int->Prop}(h:Out Γ E (R.of o β) P):∃a,o=some a/\P a β:=by
 cases o with
 |none=>exact h.elim
 |some a=>exact⟨a,rfl,h⟩
end
inductive Md where
 |b |v |w
def VO (K:Frag)(B:Option Addr)(H G' H':Hp):Md->D->V->Prop
 | .b,d,v=>mj K B G' H' v d
 | .v,d,v=>Rp K G' v d
 | .w,d,v=>∃a,v=.ref a/\H a=none/\G' a=none/\Own K G' H' a d
def pT (Γ:Fx)(E:XK)(f:VF D)(L:List Nat)(md:Md):TE:=λσ H Q=>∃env G B β,SR Γ B G H σ env β/\
 Out Γ E (f (vl env) β) λd β'=>∀v G' H',SR Γ B G' H' σ (a9 L env) β'->av G G'->iJ B H H'->VO Γ.K B H G' H' md d v->Q v H'
def SE (X:Cx)(Γ:Fx)(E:XK)(e:Expr)(f:VF D)(L:List Nat)(md:Md):Prop:=PE X e (pT Γ E f L md)
def qT (Γ:Fx)(E:XK)(f:VF Bool)(L:List Nat):TT:=λσ H Q=>∃env G B β,SR Γ B G H σ env β/\
 Out Γ E (f (vl env) β) λc β'=>∀G' H',SR Γ B G' H' σ (a9 L env) β'->av G G'->iJ B H H'->Q c H'
def zP (X:Cx)(Γ:Fx)(E:XK)(e:Expr)(f:VF Bool)(L:List Nat):Prop:=PT X e (qT Γ E f L)
def v3 (X:Cx)(Γ:Fx)(E:XK)(e:Expr)(f:VF Bool)(L:List Nat):Prop:=PW X e (qT Γ E f L)
def aT (Γ:Fx)(E:XK)(f:VF (List D))(L:List Nat):TA:=λσ H Q=>∃env G B β,SR Γ B G H σ env β/\
 Out Γ E (f (vl env) β) λds β'=>∀vs G' H',SR Γ B G' H' σ (a9 L env) β'->av G G'->iJ B H H'->cx Γ.K G' vs ds->Q vs H'
def SA (X:Cx)(Γ:Fx)(E:XK)(es:List Expr)(f:VF (List D))(L:List Nat):Prop:=PA X es (aT Γ E f L)
def PE.post' {X:Cx}{e:Expr}{t u:TE}(h:PE X e t)(m:∀σ H Q,u σ H Q->t σ H Q):PE X e u:=λpins s σ H Q I q=>h pins s σ H Q I (m σ H Q q)
def PT.post {X:Cx}{e:Expr}{t u:TT}(h:PT X e t)(m:∀σ H Q,u σ H Q->t σ H Q):PT X e u:=λpins s σ H Q I q=>h pins s σ H Q I (m σ H Q q)
def PW.post {X:Cx}{e:Expr}{t u:TT}(h:PW X e t)(m:∀σ H Q,u σ H Q->t σ H Q):PW X e u:=λwh pins s σ H Q I q=>h wh pins s σ H Q I (m σ H Q q)
def PA.post {X:Cx}{es:List Expr}{t u:TA}(h:PA X es t)(m:∀σ H Q,u σ H Q->t σ H Q):PA X es u:=λpos pins s σ H Q I q=>h pos pins s σ H Q I (m σ H Q q)
def PS.post {X:Cx}{st:Stmt}{t u:TS}(h:PS X st t)(m:∀D σ H,u D σ H->t D σ H):PS X st u:=λpins s σ H D I q=>h pins s σ H D I (m D σ H q)
def dat:Option Nv->Option D
 |some (.da d)=>some d
 |_=>none
def gv (i:Nat):VF D:=λvs β=>R.of (dat vs[i]?) β
def cst (d:D):VF D:=λ_ β=>.ok d β
section
variable {X:Cx}{Γ:Fx}{E:XK}{e a b c:Expr}{f fa fb fc:VF D}{L La Lb Lc:List Nat}{md ma mb mc:Md}{pos:Pos}
theorem join_some {o:Option Nv}{d:D}(h:dat o=some d):o=some (.da d):=by
 cases o with
 |none=>cases h
 |some o=>cases o with
  |da x=>cases h;rfl
  |_=>cases h
def SR.letIn {B:Option Addr}{G H:Hp}{σ:St}{env:En}{β:Int}(I:SR Γ B G H σ env β){p:Addr}{d:D}(h0:Γ.H0 p=none)(hg:G p=none)(hb:B≠some p)(hn:∀(j:Nat) (d':D),env[j]? =some (.ow d')->σ[j]?≠some (some (.ref p)))(h:Own Γ.K G H p d) :
  ∃G',SR Γ B G' H σ env β/\av G G'/\Rp Γ.K G' (.ref p) d:=by
 obtain⟨o,ho⟩:=h.obj
 have sG:av G (upd G p o):=av.new hg
 refine⟨upd G p o,⟨λb u q=>?_,I.old.trans sG,λb n1 n2=>?_,I.keep,I.pin,I.fix,λb q=>?_,I.len,λj s q=>?_,I.sep⟩,sG,h.rp hg sG λo' q=>by rw[ho] at q;cases q;exact aE⟩
 ·by_cases z:b=p
  ·subst z;rw[aE] at q;cases q;exact Kt.of ho
  ·rw[aA z] at q;exact I.sub b u q
 ·rw[aA (λz=>n1.1 (by rw[z];exact h0))];exact I.new b n1 n2
 ·obtain⟨k1,k2,k3⟩:=I.box b q
  exact⟨k1,by rw[aA (λz=>hb (by rw[<-z];exact q))];exact k2,k3⟩
 ·have w:=I.slot j s q
  cases s with
  |no=>trivial
  |fz d'=>obtain⟨v,w1,w2⟩:=w;exact⟨v,w1,w2.mono sG⟩
  |ow d'=>
   obtain⟨c,w1,w2,w3,w4,w5⟩:=w
   have ca:c≠p:=λz2=>hn j d' q (by rw[<-z2];exact w1)
   exact⟨c,w1,w2,by rw[aA ca];exact w3,w4,w5.mono sG λo q=>Kt.of q⟩
  |bx=>exact w
  |br d'=>obtain⟨b1,c,w1,w4,wp,w5⟩:=w;exact⟨b1,c,w1,w4,wp,w5.mono sG λo q=>Kt.of q⟩
def vg {env:En}{i j:Nat}{d:D}(h:(hZ env i)[j]? =some (.ow d)):env[j]? =some (.ow d):=by
 unfold hZ at h
 split at h
 ·rename_i d' e
  by_cases z:i=j
  ·subst z
   rw[O7 (OQ.mp e).1] at h;cases h
  ·rw[O6 z] at h;exact h
 ·exact h
theorem qh {L:List Nat}{env:En}{j:Nat}{d:D}(h:(a9 L env)[j]? =some (.ow d)):env[j]? =some (.ow d):=by
 unfold a9 at h
 induction L generalizing env with
 |nil=>exact h
 |cons i L ih=>exact vg (ih h)
def SR.letW {B:Option Addr}{G H G' H':Hp}{σ:St}{env:En}{β β':Int}{L:List Nat}{d:D}{v:V}(I:SR Γ B G H σ env β)(I':SR Γ B G' H' σ (L2.a9 L env) β')(h:VO Γ.K B H G' H' .w d v):∃G2,SR Γ B G2 H' σ (L2.a9 L env) β'/\av G' G2/\Rp Γ.K G2 v d:=by
 obtain⟨p,rfl,h1,h2,h3⟩:=h
 obtain⟨q1,q2,q3,q4⟩:=I.fresh h1
 exact I'.letIn q1 h2 q3 (λj d' e=>q4 j d' (qh e)) h3
def SE.wv (h:SE X Γ E e f L .w):SE X Γ E e f L .v:=by
 refine PE.post' h λσ H Q ⟨env,G,B,β,I,o⟩=>⟨env,G,B,β,I,o.imp λd β' k v G' H' I' s m vo=>?_⟩
 obtain⟨G2,I2,s2,r⟩:=I.letW I' vo
 exact k v G2 H' I2 (s.trans s2) m r
theorem VO.brw {B:Option Addr}{H G' H':Hp}{d:D}{v:V}{K:Frag}(h:VO K B H G' H' md d v)(hB:∀x,B=some x->H x≠none):mj K B G' H' v d:=by
 cases md with
 |b=>exact h
 |v=>exact .inl h
 |w=>
  obtain⟨p,rfl,h1,h2,h3⟩:=h
  exact .inr ⟨p,rfl,λz=>hB p z h1,h3⟩
def SR.boxThere {B:Option Addr}{G H:Hp}{σ:St}{env:En}{β:Int}(I:SR Γ B G H σ env β):∀x,B=some x->H x≠none:=λx e=>by rw[(I.box x e).1];simp
def af (i:Nat){x:Str}(hN:X.N[i]? =some x:=by rfl)(hv:zJ X.env.scope x:=by first |exact Or.inl rfl |exact Or.inr (Or.inl rfl) |exact Or.inr (Or.inr rfl))(hd:(x == ("__debug__":Str))=false:=by decide)
  (hcd:(x == ("__classdict__":Str))=false:=by decide):SE X Γ E (.Name x pos) (gv i) [] .b:=by
 refine PE.post' (jQ hN hv hd hcd) λσ H Q ⟨env,G,B,β,I,o⟩=>?_
 obtain⟨d,e,k⟩:=o.of
 have e:=join_some e
 rcases DV e with q |q |q
 ·obtain⟨v,h1,h2⟩:=I.slot i _ q
  exact⟨v,h1,k v G H I (av.refl _) (iJ.refl _ _) (.inl h2)⟩
 ·obtain⟨p,h1,h2,h3,h4,h5⟩:=I.slot i _ q
  exact⟨.ref p,h1,k _ G H I (av.refl _) (iJ.refl _ _) (.inr ⟨p,rfl,h4,h5⟩)⟩
 ·obtain⟨_,p,h1,h4,_,h5⟩:=I.slot i _ q
  exact⟨.ref p,h1,k _ G H I (av.refl _) (iJ.refl _ _) (.inr ⟨p,rfl,h4,h5⟩)⟩
def aj (i:Nat)(hb:Γ.br i=false){x:Str}(hN:X.N[i]? =some x:=by rfl)(hv:zJ X.env.scope x:=by first |exact Or.inl rfl |exact Or.inr (Or.inl rfl) |exact Or.inr (Or.inr rfl))(hd:(x == ("__debug__":Str))=false:=by decide)
  (hcd:(x == ("__classdict__":Str))=false:=by decide):SE X Γ E (.Name x pos) (gv i) [i] .v:=by
 refine PE.post' (jQ hN hv hd hcd) λσ H Q ⟨env,G,B,β,I,o⟩=>?_
 obtain⟨d,e,k⟩:=o.of
 obtain⟨G',v,I',s,h1,h2⟩:=I.freeze i hb (join_some e)
 exact⟨v,h1,k v G' H I' s (iJ.refl _ _) h2⟩
def DC {v:V}{d:D}(h:PE X e (tC v))(r:∀G,Rp Γ.K G v d):SE X Γ E e (cst d) [] .v:=by
 refine PE.post' h λσ H Q ⟨env,G,B,β,I,o⟩=>?_
 exact o v G H I (av.refl _) (iJ.refl _ _) (r G)
def aw {i:Int}{j}:SE X Γ E (.Constant (.int i) j pos) (cst (.int i)) [] .v:=DC yB λ_=>.int i
def lP {i:Bool}{j}:SE X Γ E (.Constant (.bool i) j pos) (cst (.bool i)) [] .v:=DC Av λ_=>.bl i
def yy {j}:SE X Γ E (.Constant .none j pos) (cst .none) [] .v:=DC IE λ_=>.non
def mh {x:Str}{j}:SE X Γ E (.Constant (.str x) j pos) (cst (.str x)) [] .v:=DC JI λ_=>.str x
def zA {x:Str}{i:Int}{t:Tok}(hg:Gl X x)(hm:X.mg x=some (.int i t))(hd:(x == ("__debug__":Str))=false:=by decide):SE X Γ E (.Name x pos) (cst (.int i)) [] .v:=DC (Fd hg hm (show RelV (.int i) _ from⟨_,rfl⟩) hd) λ_=>.int i
def two {W:V->V->Hp->Prop}{B:Option Addr}{G H:Hp}{σ:St}{env:En}{β:Int}(I:SR Γ B G H σ env β)
  (h:Out Γ E (fa (vl env) β) λd1 β1=>Out Γ E (fb (vl env) β1) λd2 β2=>∀x y G2 H2,SR Γ B G2 H2 σ (a9 (La ++ Lb) env) β2->av G G2->iJ B H H2->mj Γ.K B G2 H2 x d1->mj Γ.K B G2 H2 y d2->W x y H2) :
  pT Γ E fa La ma σ H λx H1=>pT Γ E fb Lb mb σ H1 λy H2=>W x y H2:=by
 refine⟨env,G,B,β,I,h.imp λd1 β1 h x G1 H1 I1 s1 m1 vx=>⟨a9 La env,G1,B,β1,I1,?_⟩⟩
 rw[dH]
 refine h.imp λd2 β2 k y G2 H2 I2 s2 m2 vy=>?_
 refine k x y G2 H2 (by rw[cq];exact I2) (s1.trans s2) (m1.trans m2) ((vx.brw I.boxThere).mono s2 m2) (vy.brw I1.boxThere)
def nN (K:Frag)(r:R2)(g:D->D->Option D)(md:Md):Prop:=∀(B:Option Addr) (G H:Hp) (x y:V) (dx dy d:D) (Q:VK),av G H->(∀x,B=some x->H x≠none)->mj K B G H x dx->mj K B G H y dy->g dx dy=some d->
 (∀v G' H',Ext G H G' H'->VO K B H G' H' md d v->Q v H')->r x y H Q
def f2 (fa fb:VF D)(g:D->D->Option D):VF D:=λvs β=>(fa vs β).bnd λx β1=>(fb vs β1).bnd λy β2=>R.of (g x y) β2
theorem fP {B:Option Addr}{H H2:Hp}(m:iJ B H H2)(hB:∀x,B=some x->H2 x≠none){p:Addr}(h:H2 p=none):H p=none:=by
 cases e:H p with
 |none=>rfl
 |some o=>obtain⟨u,eu,_⟩:=(m.1 p o e λz=>hB p z h).some;rw[eu] at h;cases h
theorem VO.back {K:Frag}{B:Option Addr}{H H2 G' H':Hp}{d:D}{v:V}(h:VO K B H2 G' H' md d v)(m:iJ B H H2)(hB:∀x,B=some x->H2 x≠none):VO K B H G' H' md d v:=by
 cases md with
 |b=>exact h
 |v=>exact h
 |w=>obtain⟨p,e,h1,h2,h3⟩:=h;exact⟨p,e,fP m hB h1,h2,h3⟩
def nV {r:R2}{g:D->D->Option D}{Q:VK}(pr:nN Γ.K r g md){B:Option Addr}{G H:Hp}{σ:St}{env:En}{β:Int}(I:SR Γ B G H σ env β)
  (h:Out Γ E (f2 fa fb g (vl env) β) λd β'=>∀v G' H',SR Γ B G' H' σ (a9 (La ++ Lb) env) β'->av G G'->iJ B H H'->VO Γ.K B H G' H' md d v->Q v H') :
  pT Γ E fa La ma σ H λx H1=>pT Γ E fb Lb mb σ H1 λy H2=>r x y H2 Q:=by
 refine two I (h.bnd.imp λd1 β1 h=>h.bnd.imp λd2 β2 h x y G2 H2 I2 s2 m2 bx by'=>?_)
 obtain⟨d,e,k⟩:=h.of
 refine pr B G2 H2 x y d1 d2 d Q I2.sub I2.boxThere bx by' e λv G' H' x' vo=>?_
 exact k v G' H' (I2.ext x') (s2.trans x'.gg) (m2.trans (x'.hh.mov B)) (vo.back m2 I2.boxThere)
def bL {op:Operator}{r:R2}{g:D->D->Option D}(ho:mT X (binaryOp op) r)(pr:nN Γ.K r g md)(ha:SE X Γ E a fa La ma)(hb:SE X Γ E b fb Lb mb):SE X Γ E (.BinOp a op b pos) (f2 fa fb g) (La ++ Lb) md:=
 PE.post' (tT ho ha hb) λσ H Q ⟨env,G,B,β,I,o⟩=>nV pr I o
def eG {op:CmpOp}{r:R2}{g:D->D->Option D}(ho:mT X (compareOp op) r)(pr:nN Γ.K r g md)(ha:SE X Γ E a fa La ma)(hb:SE X Γ E b fb Lb mb)(hm:behindInMarks op b=false):SE X Γ E (.Compare a [op] [b] pos) (f2 fa fb g) (La ++ Lb) md:=
 PE.post' (Gq ho ha hb hm) λσ H Q ⟨env,G,B,β,I,o⟩=>nV pr I o
def aO {r:R2}{g:D->D->Option D}(hr:CU X r)(pr:nN Γ.K r g md)(ha:SE X Γ E a fa La ma)(hb:SE X Γ E b fb Lb mb)(hs:Au b):SE X Γ E (.Subscript a b pos) (f2 fa fb g) (La ++ Lb) md:=
 PE.post' (m6 hr ha hb hs) λσ H Q ⟨env,G,B,β,I,o⟩=>nV pr I o
def EH (K:Frag)(r:V->Hp->VK->Prop)(g:D->Option D)(md:Md):Prop:=∀(B:Option Addr) (G H:Hp) (x:V) (dx d:D) (Q:VK),av G H->(∀x,B=some x->H x≠none)->mj K B G H x dx->g dx=some d->
 (∀v G' H',Ext G H G' H'->VO K B H G' H' md d v->Q v H')->r x H Q
def f1 (fa:VF D)(g:D->Option D):VF D:=λvs β=>(fa vs β).bnd λx β1=>R.of (g x) β1
def kB {r:V->Hp->VK->Prop}{g:D->Option D}{Q:VK}(pr:EH Γ.K r g md){B:Option Addr}{G H:Hp}{σ:St}{env:En}{β:Int}(I:SR Γ B G H σ env β)
  (h:Out Γ E (f1 fa g (vl env) β) λd β'=>∀v G' H',SR Γ B G' H' σ (a9 La env) β'->av G G'->iJ B H H'->VO Γ.K B H G' H' md d v->Q v H') :
  pT Γ E fa La ma σ H λx H1=>r x H1 Q:=by
 refine⟨env,G,B,β,I,h.bnd.imp λd1 β1 h x G1 H1 I1 s1 m1 vx=>?_⟩
 obtain⟨d,e,k⟩:=h.of
 refine pr B G1 H1 x d1 d Q I1.sub I1.boxThere (vx.brw I.boxThere) e λv G' H' x' vo=>?_
 exact k v G' H' (I1.ext x') (s1.trans x'.gg) (m1.trans (x'.hh.mov B)) (vo.back m1 I1.boxThere)
def wZ {op:UnaryOp}{r:V->Hp->VK->Prop}{g:D->Option D}(ho:Mv X (unaryOp op) r)(pr:EH Γ.K r g md)(ha:SE X Γ E a fa La ma):SE X Γ E (.UnaryOp op a pos) (f1 fa g) La md:=
 PE.post' (LO ho ha) λσ H Q ⟨env,G,B,β,I,o⟩=>kB pr I o
def a7 {id:String}{r:List V->Hp->VK->Prop}{g:D->Option D}{x:Str}{p:Pos}(hc:fU X (.builtin id) r)(pr:EH Γ.K (λx=>r [x]) g md)(hg:Gl X x)(hm:X.mg x=none)(hv:bootBuiltins x=some (.builtin id))(ha:SE X Γ E a fa La ma)(hn:x≠"__name__":=by decide)(hdb:(x == ("__debug__":Str))=false:=by decide)
  (he:starEach [a] X.env=(false,eval a X.env) :: starEach [] X.env:=by rfl):SE X Γ E (.Call (.Name x p) [a] [] pos) (f1 fa g) La md:=
 PE.post' (lK hc hg hm hv (a8 ha bV he) hn hdb he) λσ H Q ⟨env,G,B,β,I,o⟩=>kB (r:=λx=>r [x]) pr I o
def jm {id:String}{r:List V->Hp->VK->Prop}{g:D->Option D}{x:Str}{p:Pos}(hc:fU X (.type id) r)(pr:EH Γ.K (λx=>r [x]) g md)(hg:Gl X x)(hm:X.mg x=none)(hv:bootBuiltins x=some (.type id))(ha:SE X Γ E a fa La ma)(hn:x≠"__name__":=by decide)(hdb:(x == ("__debug__":Str))=false:=by decide)
  (he:starEach [a] X.env=(false,eval a X.env) :: starEach [] X.env:=by rfl):SE X Γ E (.Call (.Name x p) [a] [] pos) (f1 fa g) La md:=
 PE.post' (j9 hc hg hm hv (a8 ha bV he) hn hdb he) λσ H Q ⟨env,G,B,β,I,o⟩=>kB (r:=λx=>r [x]) pr I o
def xx {id:String}{r:List V->Hp->VK->Prop}{g:D->D->Option D}{x:Str}{p:Pos}(hc:fU X (.builtin id) r)(pr:nN Γ.K (λx y=>r [x,y]) g md)(hg:Gl X x)(hm:X.mg x=none)(hv:bootBuiltins x=some (.builtin id))(ha:SE X Γ E a fa La ma)(hb:SE X Γ E b fb Lb mb)(hn:x≠"__name__":=by decide)(hdb:(x == ("__debug__":Str))=false:=by decide)
  (he:starEach [a,b] X.env=(false,eval a X.env) :: starEach [b] X.env:=by rfl) (he2:starEach [b] X.env=(false,eval b X.env) :: starEach [] X.env:=by rfl) (hpl:(backTo pos (starEach [b] X.env)).any (·.1)=false:=by rfl):SE X Γ E (.Call (.Name x p) [a,b] [] pos) (f2 fa fb g) (La ++ Lb) md:=
 PE.post' (lK hc hg hm hv (a8 ha (a8 hb bV he2) he) hn hdb he hpl) λσ H Q ⟨env,G,B,β,I,o⟩=>nV (r:=λx y=>r [x,y]) pr I o
def gy (fa fb:VF D):VF D:=λvs β=>(fa vs β).bnd λx β1=>match x with
 | .bool true=>fb vs β1
 | .bool false=>.ok (.bool false) β1
 |_=>.bad
def Kh (fa fb:VF D):VF D:=λvs β=>(fa vs β).bnd λx β1=>match x with
 | .bool false=>fb vs β1
 | .bool true=>.ok (.bool true) β1
 |_=>.bad
def k8 {op}(h:SE X Γ E a fa La md):SE X Γ E (.BoolOp op [a] pos) fa La md:=JV h
theorem kL {rest:List Expr}(ha:SE X Γ E a fa La ma)(hb:SE X Γ E (.BoolOp .And (b :: rest) pos) fb Lb .v)(hbr:∀i,i∈Lb->Γ.br i=false):SE X Γ E (.BoolOp .And (a :: b :: rest) pos) (gy fa fb) (La ++ Lb) .v:=by
 refine PE.post' (IU ha hb) λσ H Q ⟨env,G,B,β,I,o⟩=>?_
 refine⟨env,G,B,β,I,o.bnd.imp λd1 β1 h x G1 H1 I1 s1 m1 vx=>?_⟩
 have bx:=vx.brw I.boxThere
 cases d1 with
 |bool c=>
  obtain rfl:=bx.bool
  refine⟨c,rfl,?_⟩
  cases c with
  |true=>exact sP ⟨_,G1,B,β1,I1,by rw[dH];exact h.imp λd β' k v G' H' I' s' m' vo=>k v G' H' (by rw[cq];exact I') (s1.trans s') (m1.trans m') vo⟩
  |false=>
   obtain⟨G2,I2,s2⟩:=I1.a9 Lb hbr
   exact sv (h _ G2 H1 (by rw[cq];exact I2) (s1.trans s2) m1 (.bl false))
 |_=>exact h.elim
theorem LU {rest:List Expr}(ha:SE X Γ E a fa La ma)(hb:SE X Γ E (.BoolOp .Or (b :: rest) pos) fb Lb .v)(hbr:∀i,i∈Lb->Γ.br i=false):SE X Γ E (.BoolOp .Or (a :: b :: rest) pos) (Kh fa fb) (La ++ Lb) .v:=by
 refine PE.post' (LQ ha hb) λσ H Q ⟨env,G,B,β,I,o⟩=>?_
 refine⟨env,G,B,β,I,o.bnd.imp λd1 β1 h x G1 H1 I1 s1 m1 vx=>?_⟩
 have bx:=vx.brw I.boxThere
 cases d1 with
 |bool c=>
  obtain rfl:=bx.bool
  refine⟨c,rfl,?_⟩
  cases c with
  |true=>
   obtain⟨G2,I2,s2⟩:=I1.a9 Lb hbr
   exact sP (h _ G2 H1 (by rw[cq];exact I2) (s1.trans s2) m1 (.bl true))
  |false=>exact sv ⟨_,G1,B,β1,I1,by rw[dH];exact h.imp λd β' k v G' H' I' s' m' vo=>k v G' H' (by rw[cq];exact I') (s1.trans s') (m1.trans m') vo⟩
 |_=>exact h.elim
def CQ:D->Option D
 | .bool c=>some (.bool (!c))
 |_=>none
theorem DQ (ha:SE X Γ E a fa La ma):SE X Γ E (.UnaryOp .Not a pos) (f1 fa CQ) La .v:=by
 refine PE.post' (IX ha) λσ H Q ⟨env,G,B,β,I,o⟩=>?_
 refine kB (r:=λx H1 Q=>∃c,x=.bl c/\Q (.bl (!c)) H1) ?_ I o
 intro B G H x dx d Q s hB bx e k
 cases dx with
 |bool c=>
  obtain rfl:=bx.bool
  cases e
  exact⟨c,rfl,k _ G H (Ext.refl s) (.bl _)⟩
 |_=>cases e
def JP:D->Option Bool
 | .none=>some false
 | .bool b=>some b
 | .int i=>some (i != 0)
 | .str y=>if y.length<=sizeLine then some ((y.length:Int) != 0) else none
 | .list ds=>some (!ds.isEmpty)
 | .tuple ds=>some (!ds.isEmpty)
 | .dict _=>none
def gu (fa:VF D):VF Bool:=λvs β=>(fa vs β).bnd λx β1=>R.of (JP x) β1
def pf {K:Frag}{G:Hp}{xs:List V}{ds:List D}(r:cx K G xs ds):(!ds.isEmpty)= !xs.isEmpty:=by cases r <;> rfl
theorem cm (hK:X.K=Γ.K)(ha:SE X Γ E a fa La ma)(he:∀whole,isTrue a X.env whole=(do let v <-whole;standAt a.pos;holding [v] (truthy v)):=by intro _;rfl):zP X Γ E a (gu fa) La:=by
 refine PT.post (CK ha he) λσ H Q ⟨env,G,B,β,I,o⟩=>?_
 refine⟨env,G,B,β,I,o.bnd.imp λd1 β1 h x G1 H1 I1 s1 m1 vx=>?_⟩
 obtain⟨c,e,k⟩:=h.of
 have bx:=vx.brw I.boxThere
 refine⟨c,?_,k G1 H1 I1 s1 m1⟩
 rw[hK]
 cases d1 with
 |none=>obtain rfl:=bx.none;cases e;rfl
 |bool b=>obtain rfl:=bx.bool;cases e;rfl
 |int i=>obtain rfl:=bx.int;cases e;rfl
 |str y=>
  obtain rfl:=bx.str
  simp only[JP] at e
  split at e
  ·cases e;exact⟨by assumption,rfl⟩
  ·cases e
 |list ds=>obtain⟨p,xs,rfl,hq,r⟩:=bx.list I1.sub;cases e;exact .inl ⟨xs,.inl hq,pf r⟩
 |tuple ds=>obtain⟨p,xs,rfl,hq,r⟩:=bx.tuple I1.sub;cases e;exact .inr (.inl ⟨xs,hq,pf r⟩)
 |dict ds=>cases e
def dv (fa:VF D):VF Bool:=λvs β=>(fa vs β).bnd λx β1=>match x with
 | .bool c=>.ok c β1
 |_=>.bad
theorem bQ {op:CmpOp}{r:R2}{g:D->D->Option D}(ho:mT X (compareOp op) r)(pr:nN Γ.K r g .v)(ha:SE X Γ E a fa La ma)(hb:SE X Γ E b fb Lb mb)(hm:behindInMarks op b=false):zP X Γ E (.Compare a [op] [b] pos) (dv (f2 fa fb g)) (La ++ Lb):=by
 refine PT.post (GJ ho ha hb hm) λσ H Q ⟨env,G,B,β,I,o⟩=>?_
 refine nV pr I (o.bnd.imp λd β' h v G' H' I' s' m' vo=>?_)
 cases d with
 |bool c=>cases vo;exact⟨c,rfl,h G' H' I' s' m'⟩
 |_=>exact h.elim
def oz (t:VF Bool):VF Bool:=λvs β=>(t vs β).bnd λc β1=>.ok (!c) β1
def BU (t u:VF Bool):VF Bool:=λvs β=>(t vs β).bnd λc β1=>if c=true then u vs β1 else .ok false β1
def nH (t u:VF Bool):VF Bool:=λvs β=>(t vs β).bnd λc β1=>if c=true then .ok true β1 else u vs β1
variable {ta tb tc:VF Bool}
def eM (ha:zP X Γ E a ta La):zP X Γ E (.UnaryOp .Not a pos) (oz ta) La:=by
 refine PT.post (JY ha) λσ H Q ⟨env,G,B,β,I,o⟩=>?_
 exact⟨env,G,B,β,I,o.bnd.imp λc β1 h=>h⟩
def v3.t (h:v3 X Γ E e ta La):zP X Γ E e ta La:=PW.pt h
def u3 (ha:zP X Γ E a ta La):v3 X Γ E (.BoolOp .And [a] pos) ta La:=Aj ha
def ni (ha:zP X Γ E a ta La):v3 X Γ E (.BoolOp .Or [a] pos) ta La:=Iz ha
theorem zg {rest:List Expr}(ha:zP X Γ E a ta La)(hb:v3 X Γ E (.BoolOp .And (b :: rest) pos) tb Lb)(hbr:∀i,i∈Lb->Γ.br i=false):v3 X Γ E (.BoolOp .And (a :: b :: rest) pos) (BU ta tb) (La ++ Lb):=by
 refine PW.post (CC ha hb) λσ H Q ⟨env,G,B,β,I,o⟩=>?_
 refine⟨env,G,B,β,I,o.bnd.imp λc β1 h G1 H1 I1 s1 m1=>?_⟩
 cases c with
 |true=>exact sP ⟨_,G1,B,β1,I1,by rw[dH];exact Out.imp h λd β' k G' H' I' s' m'=>k G' H' (by rw[cq];exact I') (s1.trans s') (m1.trans m')⟩
 |false=>
  obtain⟨G2,I2,s2⟩:=I1.a9 Lb hbr
  exact sv (h G2 H1 (by rw[cq];exact I2) (s1.trans s2) m1)
theorem pe {rest:List Expr}(ha:zP X Γ E a ta La)(hb:v3 X Γ E (.BoolOp .Or (b :: rest) pos) tb Lb)(hbr:∀i,i∈Lb->Γ.br i=false):v3 X Γ E (.BoolOp .Or (a :: b :: rest) pos) (nH ta tb) (La ++ Lb):=by
 refine PW.post (L9 ha hb) λσ H Q ⟨env,G,B,β,I,o⟩=>?_
 refine⟨env,G,B,β,I,o.bnd.imp λc β1 h G1 H1 I1 s1 m1=>?_⟩
 cases c with
 |true=>
  obtain⟨G2,I2,s2⟩:=I1.a9 Lb hbr
  exact sP (h G2 H1 (by rw[cq];exact I2) (s1.trans s2) m1)
 |false=>exact sv ⟨_,G1,B,β1,I1,by rw[dH];exact Out.imp h λd β' k G' H' I' s' m'=>k G' H' (by rw[cq];exact I') (s1.trans s') (m1.trans m')⟩
def Iu (t:VF Bool)(fa fb:VF D):VF D:=λvs β=>(t vs β).bnd λc β1=>if c=true then fa vs β1 else fb vs β1
theorem Hq (hc:zP X Γ E c tc Lc)(ha:SE X Γ E a fa La md)(hb:SE X Γ E b fb Lb md)(hbr:∀i,i∈La ++ Lb->Γ.br i=false):SE X Γ E (.IfExp c a b pos) (Iu tc fa fb) (Lc ++ (La ++ Lb)) md:=by
 refine PE.post' (Dy hc ha hb) λσ H Q ⟨env,G,B,β,I,o⟩=>?_
 refine⟨env,G,B,β,I,o.bnd.imp λc β1 h G1 H1 I1 s1 m1=>?_⟩
 obtain⟨G2,I2,s2⟩:=I1.a9 (La ++ Lb) hbr
 have idem:∀M:List Nat,(∀i,i∈M->i∈La ++ Lb)->a9 M (a9 (La ++ Lb) (a9 Lc env))=a9 (La ++ Lb) (a9 Lc env):=by
  have key:∀(M:List Nat) (en:En) (k:Nat),k∈M->∀d',(a9 M en)[k]?≠some (.ow d'):=by
   intro M
   induction M with
   |nil=>intro en k hm;cases hm
   |cons i M ih=>
    intro en k hm d' z
    rcases OR.mp hm with y |y
    ·subst y
     have z1:(hZ en k)[k]? =some (.ow d'):=qh (L:=M) z
     have z2:=vg z1
     unfold hZ at z1
     rw[z2] at z1
     dsimp only at z1
     rw[O7 (OQ.mp z2).1] at z1;cases z1
    ·exact ih (hZ en i) k y d' z
  intro M
  induction M with
  |nil=>intro _;rfl
  |cons i M ih=>
   intro hM
   show a9 M (hZ _ i)=_
   have:hZ (a9 (La ++ Lb) (a9 Lc env)) i=a9 (La ++ Lb) (a9 Lc env):=by
    have hn:=key (La ++ Lb) (a9 Lc env) i (hM i (OU ..))
    generalize a9 (La ++ Lb) (a9 Lc env)=en at hn ⊢
    unfold hZ
    split
    ·rename_i d e;exact absurd e (hn d)
    ·rfl
   rw[this]
   exact ih λj hj=>hM j (OS _ hj)
 have go:∀{f:VF D} {M:List Nat},(∀i,i∈M->i∈La ++ Lb)->Out Γ E (f (vl env) β1) (λd β'=>∀v G' H',SR Γ B G' H' σ (a9 (Lc ++ (La ++ Lb)) env) β'->av G G'->iJ B H H'->VO Γ.K B H G' H' md d v->Q v H')->pT Γ E f M md σ H1 Q:=λ{f M} hM h=>by
  refine⟨_,G2,B,β1,I2,?_⟩
  rw[dH,dH]
  refine h.imp λd β' k v G' H' I' s' m' vo=>?_
  rw[idem M hM,<-cq] at I'
  exact k v G' H' I' ((s1.trans s2).trans s') (m1.trans m') (vo.back m1 I1.boxThere)
 cases c with
 |true=>exact sP (go (λi hi=>Qn _ hi) h)
 |false=>exact sv (go (λi hi=>Pn _ hi) h)
def ag:VF (List D):=λ_ β=>.ok [] β
def aa (fa:VF D)(fr:VF (List D)):VF (List D):=λvs β=>(fa vs β).bnd λx β1=>(fr vs β1).bnd λxs β2=>.ok (x :: xs) β2
variable {fr:VF (List D)}{es:List Expr}
def ah:SA X Γ E [] ag []:=PA.post bV λσ H Q ⟨env,G,B,β,I,o⟩=>o [] G H I (av.refl _) (iJ.refl _ _) .nil
def ae (ha:SE X Γ E a fa La .v)(hr:SA X Γ E es fr Lb)(hs:starEach (a :: es) X.env=(false,eval a X.env) :: starEach es X.env:=by rfl):SA X Γ E (a :: es) (aa fa fr) (La ++ Lb):=by
 refine PA.post (a8 ha hr hs) λσ H Q ⟨env,G,B,β,I,o⟩=>?_
 refine⟨env,G,B,β,I,o.bnd.imp λd1 β1 h x G1 H1 I1 s1 m1 vx=>⟨a9 La env,G1,B,β1,I1,?_⟩⟩
 rw[dH]
 refine h.bnd.imp λds β2 k xs G2 H2 I2 s2 m2 r=>?_
 exact k (x :: xs) G2 H2 (by rw[cq];exact I2) (s1.trans s2) (m1.trans m2) (.cons (vx.mono s2) r)
def cC (fr:VF (List D)):VF D:=λvs β=>(fr vs β).bnd λds β1=>if ds.length<=sizeLine then .ok (.tuple ds) β1 else .bad
def cy (fr:VF (List D)):VF D:=λvs β=>(fr vs β).bnd λds β1=>if ds.length<=sizeLine then .ok (.list ds) β1 else .bad
def cK {x1}(h:SA X Γ E es fr L):SE X Γ E (.Tuple es x1 pos) (cC fr) L .v:=by
 refine PE.post' (yH h) λσ H Q ⟨env,G,B,β,I,o⟩=>?_
 refine⟨env,G,B,β,I,o.bnd.imp λds β1 k xs G1 H1 I1 s1 m1 r=>?_⟩
 by_cases hz:ds.length<=sizeLine
 ·rw[OO hz] at k
  refine⟨by rw[r.len];exact hz,λp hp=>?_⟩
  have x:=Ext.new I1.sub (o:=.tup xs) hp
  exact k _ _ _ (I1.ext x) (s1.trans x.gg) (m1.trans (x.hh.mov B)) (.tup (.inl (.inl aE)) (r.mono x.gg))
 ·rw[OV hz] at k;exact k.elim
def bX (h:SA X Γ E es fr L):SE X Γ E (.List es pos) (cy fr) L .w:=by
 refine PE.post' (C1 h) λσ H Q ⟨env,G,B,β,I,o⟩=>?_
 refine⟨env,G,B,β,I,o.bnd.imp λds β1 k xs G1 H1 I1 s1 m1 r=>?_⟩
 by_cases hz:ds.length<=sizeLine
 ·rw[OO hz] at k
  refine⟨by rw[r.len];exact hz,λp hp=>?_⟩
  have x:=Ext.own I1.sub (o:=.lst xs) hp
  exact k _ _ _ (I1.ext x) s1 (m1.trans (x.hh.mov B)) ⟨p,rfl,fP m1 I1.boxThere hp,I1.sub.free hp,xs,aE,r⟩
 ·rw[OV hz] at k;exact k.elim
inductive FR where
 |ok (d:D) (fresh:Bool)
 |exc (c:Str)
 |bad
def FV (K:Frag)(H G' H':Hp)(fr:Bool)(d:D)(v:V):Prop:=if fr=true then ∃a,v=.ref a/\H a=none/\G' a=none/\Own K G' H' a d else Rp K G' v d
def EB (K:Frag)(ca:Str->Addr)(n:Nat)(F:List D->FR):Sp:=λvs H Q E=>∃G ds,av G H/\ds.length=n/\cx K G vs ds/\match F ds with
 | .ok d fr=>∀v G' H',av H H'->av G G'->av G' H'->(∀b,Mx H b->G b=none->G' b=none)->FV K H G' H' fr d v->Q v H'
 | .exc c=>∀H',av H H'->E (.ref (ca c)) none H'
 | .bad=>False
structure bM (P:Program)(w:World)(K:Frag)(mg:Str->Option Value)(base:Heap)(ca:Str->Addr)(x:Str)(ps:List Str)(k:Nat)(F:List D->FR):Prop where
 ex:∃f fd,mg x=some (.ref f)/\PySem.W.keepIn K (.ref f)=true/\Binds K fd ps []/\fA P w K mg base (l4 P w) k f fd ps (EB K ca ps.length F)
 len:∀ds,F ds≠.bad->ds.length=ps.length
def ai (F:List D->FR)(fr:VF (List D)):VF D:=λvs β=>(fr vs β).bnd λds β1=>match F ds with
 | .ok d _=>.ok d β1
 | .exc c=>.exc c
 | .bad=>.bad
def pj (F:List D->FR)(fr:VF (List D)):VF D:=λvs β=>(fr vs β).bnd λds β1=>match F ds with
 | .ok d true=>.ok d β1
 | .ok _ false=>.bad
 | .exc c=>.exc c
 | .bad=>.bad
def SR.called {B:Option Addr}{G1 H1 G2 H2:Hp}{σ:St}{env:En}{β:Int}(I1:SR Γ B G1 H1 σ env β)(h:av H1 H2)(g:av G1 G2)(s:av G2 H2)(n:∀b,Mx H1 b->G1 b=none->G2 b=none):SR Γ B G2 H2 σ env β/\iJ B H1 H2:=by
 refine⟨⟨s,I1.old.trans g,λb n1 n2=>?_,λb o e np=>(I1.keep b o e np).step h,λb hb=>?_,I1.fix,λb e=>?_,I1.len,λi t e=>?_,I1.sep⟩,h.mov B⟩
 ·exact n b (I1.thereM n1) (I1.new b n1 n2)
 ·exact (I1.pin b hb).same λo e=>h b o e
 ·obtain⟨h1,h2,h3⟩:=I1.box b e
  exact⟨h b _ h1,n b (Mx.lst h1) h2,h3⟩
 ·have q:=I1.slot i t e
  cases t with
  |no=>trivial
  |fz d=>obtain⟨v,h1,h2⟩:=q;exact⟨v,h1,h2.mono g⟩
  |ow d=>
   obtain⟨p,h1,h2,h3,h4,h5⟩:=q
   exact⟨p,h1,h2,n p h5.mx h3,h4,h5.mono g λo q=>h p o q⟩
  |bx=>exact q
  |br d=>obtain⟨b1,p,h1,h4,hp,h5⟩:=q;exact⟨b1,p,h1,h4,hp,h5.mono g λo q=>h p o q⟩
def SR.kp {B:Option Addr}{G H H':Hp}{σ:St}{env:En}{β:Int}(I:SR Γ B G H σ env β)(h:av H H'):Kp Γ H':=λb o e n=>(I.keep b o e n).step h
theorem tI {F:List D->FR}{ps:List Str}{Q:VK}{B:Option Addr}{G H:Hp}{σ:St}{env:En}{β:Int}(I:SR Γ B G H σ env β)(hK:X.K=Γ.K){wv:Bool}
  (h:Out Γ E (if wv=true then pj F fr (vl env) β else ai F fr (vl env) β) λd β'=>∀v G' H',SR Γ B G' H' σ (a9 L env) β'->av G G'->iJ B H H'->VO Γ.K B H G' H' (if wv=true then .w else .v) d v->Q v H') (hl:∀ds,F ds≠.bad->ds.length=ps.length) :
  aT Γ E fr L σ H λvs H1=>EB X.K Γ.ca ps.length F vs H1 Q E:=by
 refine⟨env,G,B,β,I,?_⟩
 have h:Out Γ E (fr (vl env) β) λds β1=>Out Γ E (match F ds with
   | .ok d true=>.ok d β1
   | .ok d false=>if wv=true then .bad else .ok d β1
   | .exc c=>.exc c
   | .bad=>.bad) λd β'=>∀v G' H',SR Γ B G' H' σ (a9 L env) β'->av G G'->iJ B H H'->VO Γ.K B H G' H' (if wv=true then .w else .v) d v->Q v H':=by
  cases wv with
  |true=>
   simp only[Qs] at h ⊢
   refine h.bnd.imp λds β1 h=>?_
   cases q:F ds with
   |ok d b=>rw[q] at h;cases b <;> exact h
   |exc c=>rw[q] at h;exact h
   |bad=>rw[q] at h;exact h
  |false=>
   simp only[Qw,Q4] at h ⊢
   refine h.bnd.imp λds β1 h=>?_
   cases q:F ds with
   |ok d b=>rw[q] at h;cases b <;> exact h
   |exc c=>rw[q] at h;exact h
   |bad=>rw[q] at h;exact h
 refine h.imp λds β1 k vs G1 H1 I1 s1 m1 r=>?_
 refine⟨G1,ds,I1.sub,?_,by rw[hK];exact r,?_⟩
 ·exact hl ds λz=>by rw[z] at k;exact k
 cases q:F ds with
 |bad=>rw[q] at k;exact k
 |exc c=>rw[q] at k;exact λH' s=>k H' (I1.kp s)
 |ok d b=>
  rw[q] at k
  intro v G' H' hh hg hs hn fv
  obtain⟨I2,m2⟩:=I1.called hh hg hs hn
  cases b with
  |true=>
   obtain⟨p,rfl,p1,p2,p3⟩:∃a,v=.ref a/\H1 a=none/\G' a=none/\Own X.K G' H' a d:=fv
   rw[hK] at p3
   have hp:=fP m1 I1.boxThere p1
   cases wv with
   |true=>exact k _ G' H' I2 (s1.trans hg) (m1.trans m2) ⟨p,rfl,hp,p2,p3⟩
   |false=>
    obtain⟨q1,q2,q3,q4⟩:=I1.fresh p1
    obtain⟨G3,I3,s3,r3⟩:=I2.letIn q1 p2 q3 q4 p3
    exact k _ G3 H' I3 ((s1.trans hg).trans s3) (m1.trans m2) r3
  |false=>
   cases wv with
   |true=>exact k.elim
   |false=>
    have fv:Rp X.K G' v d:=fv
    rw[hK] at fv
    exact k _ G' H' I2 (s1.trans hg) (m1.trans m2) fv
def az {x:Str}{ps:List Str}{k:Nat}{F:List D->FR}{p:Pos}(hf:bM X.prog X.w X.K X.mg X.base Γ.ca x ps k F)(hr:dW k X.A)(hx:Passes (l4 X.prog X.w) X E)(hK:X.K=Γ.K)(hg:Gl X x)(ha:SA X Γ E (a :: es) fr L)(hdb:(x == ("__debug__":Str))=false:=by decide)
  (he:starEach (a :: es) X.env=(false,eval a X.env) :: starEach es X.env:=by rfl) (hpl:(backTo pos (starEach es X.env)).any (·.1)=false:=by rfl):SE X Γ E (.Call (.Name x p) (a :: es) [] pos) (ai F fr) L .v:=by
 obtain⟨f,fd,hm,hk,hb,hF⟩:=hf.ex
 refine PE.post' (mP (dvs:=[]) hF hr hg hm hk hb .nil hx ha hdb he hpl) λσ H Q ⟨env,G,B,β,I,o⟩=>?_
 show aT Γ E fr L σ H λvs H1=>EB X.K Γ.ca ps.length F (vs ++ []) H1 Q E
 have:=tI (Q:=Q) (wv:=false) (ps:=ps) I hK o hf.len
 simpa using this
def DB {x:Str}{ps:List Str}{k:Nat}{F:List D->FR}{p:Pos}(hf:bM X.prog X.w X.K X.mg X.base Γ.ca x ps k F)(hr:dW k X.A)(hx:Passes (l4 X.prog X.w) X E)(hK:X.K=Γ.K)(hg:Gl X x)(ha:SA X Γ E (a :: es) fr L)(hdb:(x == ("__debug__":Str))=false:=by decide)
  (he:starEach (a :: es) X.env=(false,eval a X.env) :: starEach es X.env:=by rfl) (hpl:(backTo pos (starEach es X.env)).any (·.1)=false:=by rfl):SE X Γ E (.Call (.Name x p) (a :: es) [] pos) (pj F fr) L .w:=by
 obtain⟨f,fd,hm,hk,hb,hF⟩:=hf.ex
 refine PE.post' (mP (dvs:=[]) hF hr hg hm hk hb .nil hx ha hdb he hpl) λσ H Q ⟨env,G,B,β,I,o⟩=>?_
 show aT Γ E fr L σ H λvs H1=>EB X.K Γ.ca ps.length F (vs ++ []) H1 Q E
 have:=tI (Q:=Q) (wv:=true) (ps:=ps) I hK o hf.len
 simpa using this
end
inductive SO where
 |nx (env:En) (β:Int)
 |bk (env:En) (β:Int)
 |ct (env:En) (β:Int)
 |rt (d:D) (fr:Bool) (β:Int)
 |exc (c:Str)
 |bad
abbrev SF:=En->Int->SO
def RV (Γ:Fx)(G' H':Hp)(fr:Bool)(d:D)(v:V):Prop:=if fr=true then ∃a,v=.ref a/\Γ.H0 a=none/\G' a=none/\Own Γ.K G' H' a d else Rp Γ.K G' v d
def rZ (Γ:Fx)(E:XK)(G:Hp)(N:Ends):SO->Prop
 | .nx env β=>∀B G' H' σ,SR Γ B G' H' σ env β->av G G'->N.nx σ H'
 | .bk env β=>∀B G' H' σ,SR Γ B G' H' σ env β->av G G'->N.bk σ H'
 | .ct env β=>∀B G' H' σ,SR Γ B G' H' σ env β->av G G'->N.ct σ H'
 | .rt d fr β=>∀B G' H' σ env v,SR Γ B G' H' σ env β->av G G'->RV Γ G' H' fr d v->N.rt v H'
 | .exc c=>∀H',Kp Γ H'->E (.ref (Γ.ca c)) none H'
 | .bad=>False
def sT (Γ:Fx)(E:XK)(m:SF):TS:=λN σ H=>∃env G B β,SR Γ B G H σ env β/\rZ Γ E G N (m env β)
def SS (X:Cx)(Γ:Fx)(E:XK)(st:Stmt)(m:SF):Prop:=PS X st (sT Γ E m)
def El (X:Cx)(Γ:Fx)(E:XK)(st:List Stmt)(m:SF):Prop:=rR X st (sT Γ E m)
def rR.post {X:Cx}{st:List Stmt}{t u:TS}(h:rR X st t)(m:∀D σ H,u D σ H->t D σ H):rR X st u:=λpins s σ H D I q=>h pins s σ H D I (m D σ H q)
def aG (m m':SF):SF:=λenv β=>match m env β with
 | .nx env' β'=>m' env' β'
 |r=>r
def lC:SF:=λenv β=>.nx env β
section
variable {X:Cx}{Γ:Fx}{E:XK}{e a b c:Expr}{f fa fb:VF D}{L La Lb:List Nat}{md ma mb:Md}{pos:Pos}{st:Stmt}{sts:List Stmt}{m m':SF}{ta:VF Bool}
theorem rZ.weak {G G1:Hp}{N:Ends}{r:SO}(h:rZ Γ E G N r)(s:av G G1):rZ Γ E G1 N r:=by
 cases r with
 |nx env β=>exact λB G' H' σ I s'=>h B G' H' σ I (s.trans s')
 |bk env β=>exact λB G' H' σ I s'=>h B G' H' σ I (s.trans s')
 |ct env β=>exact λB G' H' σ I s'=>h B G' H' σ I (s.trans s')
 |rt d fr β=>exact λB G' H' σ env v I s'=>h B G' H' σ env v I (s.trans s')
 |exc c=>exact h
 |bad=>exact h
def cn:El X Γ E [] lC:=rR.post zM λN σ H ⟨env,G,B,β,I,o⟩=>o B G H σ I (av.refl _)
theorem ak (h:SS X Γ E st m)(h':El X Γ E sts m'):El X Γ E (st :: sts) (aG m m'):=by
 refine rR.post (jd h h') λN σ H ⟨env,G,B,β,I,o⟩=>?_
 refine⟨env,G,B,β,I,?_⟩
 unfold aG at o
 cases q:m env β with
 |nx env' β'=>rw[q] at o;exact λB' G' H' σ' I' s'=>⟨env',G',B',β',I',o.weak s'⟩
 |bk env' β'=>rw[q] at o;exact o
 |ct env' β'=>rw[q] at o;exact o
 |rt d fr β'=>rw[q] at o;exact o
 |exc c=>rw[q] at o;exact o
 |bad=>rw[q] at o;exact o
def ax (h:SS X Γ E st m):El X Γ E [st] m:=jt h
def toS {α:Type}(r:R α)(k:α->Int->SO):SO:=match r with
 | .ok x β=>k x β
 | .exc c=>.exc c
 | .bad=>.bad
theorem cS {α:Type}{G:Hp}{N:Ends}{r:R α}{k:α->Int->SO}{P:α->Int->Prop}(h:rZ Γ E G N (toS r k))(i:∀x β,rZ Γ E G N (k x β)->P x β):Out Γ E r P:=by
 cases r with
 |ok x β=>exact i x β h
 |exc c=>exact h
 |bad=>exact h
def SR.set' {B:Option Addr}{G H:Hp}{σ:St}{env:En}{β:Int}(I:SR Γ B G H σ env β)(i:Nat){v:V}{d:D}(h:Rp Γ.K G v d):SR Γ B G H (σ.set i (some v)) (env.set i (.fz d)) β:=by
 by_cases hi:i < env.length
 ·exact I.set hi h
 ·have h1:env.set i (.fz d)=env:=Qy (by omega)
  have h2:σ.set i (some v)=σ:=Qy (by rw[I.len];omega)
  rw[h1,h2];exact I
def SR.setOw' {B:Option Addr}{G H:Hp}{σ:St}{env:En}{β:Int}(I:SR Γ B G H σ env β)(i:Nat){a:Addr}{d:D}(h0:Γ.H0 a=none)(hg:G a=none)(hb:B≠some a)(h:Own Γ.K G H a d)(hn:∀(j:Nat) (d':D),env[j]? =some (.ow d')->σ[j]?≠some (some (.ref a))):SR Γ B G H (σ.set i (some (.ref a))) (env.set i (.ow d)) β:=by
 by_cases hi:i < env.length
 ·exact I.setOw hi h0 hg hb h λj d' e _=>hn j d' e
 ·have h1:env.set i (.ow d)=env:=Qy (by omega)
  have h2:σ.set i (some (.ref a))=σ:=Qy (by rw[I.len];omega)
  rw[h1,h2];exact I
def bg (i:Nat)(L:List Nat)(f:VF D):SF:=λenv β=>toS (f (vl env) β) λd β'=>.nx ((a9 L env).set i (.fz d)) β'
def aY {i:Nat}{x:Str}{pos':Pos}(he:SE X Γ E e f L .v)(hN:X.N.Nodup)(hi:X.N[i]? =some x:=by rfl)(hx:Loc X.env.scope x:=by first |exact Or.inl rfl |exact Or.inr rfl)(hs:swapsWith e (some (.Name x pos')) pos.line X.env=pure false:=by rfl)(hf:X.fn x=true\/X.env.scope.names.lookup x=some .local:=by first |exact .inl rfl |exact .inr rfl |assumption) :
  SS X Γ E (.Assign [.Name x pos'] e pos) (bg i L f):=by
 refine PS.post (qq hN hi hx he hs hf) λN σ H ⟨env,G,B,β,I,o⟩=>?_
 refine⟨env,G,B,β,I,cS o λd β' k v G' H' I' s' m' vo=>?_⟩
 exact k B G' H' _ (I'.set' i vo) s'
def ic (i:Nat)(L:List Nat)(f:VF D):SF:=λenv β=>toS (f (vl env) β) λd β'=>.nx ((a9 L env).set i (.ow d)) β'
def dU {i:Nat}{x:Str}{pos':Pos}(he:SE X Γ E e f L .w)(hN:X.N.Nodup)(hi:X.N[i]? =some x:=by rfl)(hx:Loc X.env.scope x:=by first |exact Or.inl rfl |exact Or.inr rfl)(hs:swapsWith e (some (.Name x pos')) pos.line X.env=pure false:=by rfl)(hf:X.fn x=true\/X.env.scope.names.lookup x=some .local:=by first |exact .inl rfl |exact .inr rfl |assumption) :
  SS X Γ E (.Assign [.Name x pos'] e pos) (ic i L f):=by
 refine PS.post (qq hN hi hx he hs hf) λN σ H ⟨env,G,B,β,I,o⟩=>?_
 refine⟨env,G,B,β,I,cS o λd β' k v G' H' I' s' m' vo=>?_⟩
 obtain⟨p,rfl,h1,h2,h3⟩:=vo
 obtain⟨q1,q2,q3,q4⟩:=I.fresh h1
 exact k B G' H' _ (I'.setOw' i q1 h2 q3 h3 λj d' z=>q4 j d' (qh z)) s'
def lx (L:List Nat)(f:VF D):SF:=λenv β=>toS (f (vl env) β) λ_ β'=>.nx (a9 L env) β'
def kN (he:SE X Γ E e f L md)(hs:swapsWith e none pos.line X.env=pure false:=by rfl):SS X Γ E (.Expr e pos) (lx L f):=by
 refine PS.post (pZ he hs) λN σ H ⟨env,G,B,β,I,o⟩=>?_
 exact⟨env,G,B,β,I,cS o λd β' k v G' H' I' s' m' vo=>k B G' H' _ I' s'⟩
def bJ (f:VF D):SF:=λenv β=>toS (f (vl env) β) λd β'=>.rt d false β'
def aX (he:SE X Γ E e f L .v):SS X Γ E (.Return (some e) pos) (bJ f):=by
 refine PS.post (oP he) λN σ H ⟨env,G,B,β,I,o⟩=>?_
 exact⟨env,G,B,β,I,cS o λd β' k v G' H' I' s' m' vo=>k B G' H' σ _ v I' s' vo⟩
def km (f:VF D):SF:=λenv β=>toS (f (vl env) β) λd β'=>.rt d true β'
def iM (he:SE X Γ E e f L .w):SS X Γ E (.Return (some e) pos) (km f):=by
 refine PS.post (oP he) λN σ H ⟨env,G,B,β,I,o⟩=>?_
 refine⟨env,G,B,β,I,cS o λd β' k v G' H' I' s' m' vo=>?_⟩
 obtain⟨p,rfl,h1,h2,h3⟩:=vo
 obtain⟨q1,_⟩:=I.fresh h1
 exact k B G' H' σ _ _ I' s' ⟨p,rfl,q1,h2,h3⟩
def mW (i:Nat):SF:=λenv β=>match env[i]? with
 |some (.fz d)=>.rt d false β
 |some (.ow d)=>.rt d true β
 |_=>.bad
theorem kJ (i:Nat){x:Str}{p:Pos}(hN:X.N[i]? =some x:=by rfl)(hv:zJ X.env.scope x:=by first |exact Or.inl rfl |exact Or.inr (Or.inl rfl) |exact Or.inr (Or.inr rfl))(hd:(x == ("__debug__":Str))=false:=by decide)
  (hcd:(x == ("__classdict__":Str))=false:=by decide):SS X Γ E (.Return (some (.Name x p)) pos) (mW i):=by
 refine PS.post (oP (jQ hN hv hd hcd)) λN σ H ⟨env,G,B,β,I,o⟩=>?_
 unfold mW at o
 cases q:env[i]? with
 |none=>rw[q] at o;exact o.elim
 |some s=>
  rw[q] at o
  cases s with
  |no=>exact o.elim
  |bx=>exact o.elim
  |br d=>exact o.elim
  |fz d=>
   obtain⟨v,h1,h2⟩:=I.slot i _ q
   exact⟨v,h1,o B G H σ env v I (av.refl _) h2⟩
  |ow d=>
   obtain⟨p,h1,h2,h3,h4,h5⟩:=I.slot i _ q
   exact⟨_,h1,o B G H σ env _ I (av.refl _) ⟨p,rfl,h2,h3,h5⟩⟩
def j4 (L:List Nat)(t:VF Bool)(m m':SF):SF:=λenv β=>toS (t (vl env) β) λc β'=>if c=true then m (a9 L env) β' else m' (a9 L env) β'
theorem c7 {x y:List Stmt}(hc:zP X Γ E c ta L)(ha:El X Γ E x m)(hb:El X Γ E y m'):SS X Γ E (.If c x y pos) (j4 L ta m m'):=by
 refine PS.post (HK hc ha hb) λN σ H ⟨env,G,B,β,I,o⟩=>?_
 refine⟨env,G,B,β,I,cS o λd β' k G' H' I' s' m'=>?_⟩
 cases d with
 |true=>exact sP ⟨_,G',B,β',I',rZ.weak k s'⟩
 |false=>exact sv ⟨_,G',B,β',I',rZ.weak k s'⟩
def gE (L:List Nat)(t:VF Bool)(m:SF):Nat->SF
 | 0=>λ_ _=>.bad
 |n + 1=>λenv β=>toS (t (vl env) β) λc β'=>if c=true then (match m (a9 L env) β' with
   | .nx env2 β2=>gE L t m n env2 β2
   | .ct env2 β2=>gE L t m n env2 β2
   | .bk env2 β2=>.nx env2 β2
   |r=>r) else .nx (a9 L env) β'
theorem lY {x:List Stmt}(n:Nat)(hp:PassesOwn (model X.prog X.w) X.A X.env X.xe)(hc:zP X Γ E c ta L)(hb:El X Γ E x m):SS X Γ E (.While c x [] pos) (gE L ta m n):=by
 refine PS.post (Dz hp hc hb) λN σ H ⟨env,G,B,β,I,o⟩=>?_
 refine⟨λk σ H=>∃env G1 B β,SR Γ B G1 H σ env β/\av G G1/\rZ Γ E G1 N (gE L ta m k env β),⟨n,env,G,B,β,I,av.refl _,o⟩,?_⟩
 rintro k σ H ⟨env,G1,B,β,I,sG,o⟩
 cases k with
 |zero=>exact o.elim
 |succ k=>
  refine⟨env,G1,B,β,I,cS o λd β' q G' H' I' s' m'=>?_⟩
  cases d with
  |false=>exact sv (q B G' H' σ I' s')
  |true=>
   refine sP ⟨λσ H=>∃env G1 B β,SR Γ B G1 H σ env β/\av G G1/\rZ Γ E G1 N (gE L ta m k env β),λσ' H' h=>⟨k,Nat.lt_succ_self k,h⟩,a9 L env,G',B,β',I',?_⟩
   rw[OO rfl] at q
   cases r:m (a9 L env) β' with
   |nx env2 β2=>rw[r] at q;exact λB2 G2 H2 σ2 I2 s2=>⟨env2,G2,B2,β2,I2,(sG.trans s').trans s2,rZ.weak q (s'.trans s2)⟩
   |ct env2 β2=>rw[r] at q;exact λB2 G2 H2 σ2 I2 s2=>⟨env2,G2,B2,β2,I2,(sG.trans s').trans s2,rZ.weak q (s'.trans s2)⟩
   |bk env2 β2=>rw[r] at q;exact λB2 G2 H2 σ2 I2 s2=>q B2 G2 H2 σ2 I2 (s'.trans s2)
   |rt d fr β2=>rw[r] at q;exact rZ.weak q s'
   |exc c=>rw[r] at q;exact q
   |bad=>rw[r] at q;exact q
def Walk (K:Frag)(B:Option Addr)(G H1:Hp)(ds:List D)(J:It):Prop:=∀Gc H (i:Nat),av G Gc->av Gc H->iJ B H1 H->
 (i < ds.length->J.go i H/\∀x H',J.yld i H x H'->∃G' d,Ext Gc H G' H'/\ds[i]? =some d/\Rp K G' x d)/\(ds.length<=i->J.stop i H)
def Walk.any {K:Frag}{B:Option Addr}{G H1:Hp}{ds:List D}{J:It}(h:Walk K B G (λ_=>none) ds J):Walk K B G H1 ds J:=λGc H i s1 s2 _=>h Gc H i s1 s2 ⟨(λb o e=>by cases e),λb o u e=>by cases e⟩
def iT (Γ:Fx)(E:XK)(f:VF (List D))(L:List Nat)(md:Md):TI:=λσ H Rr=>∃env G B β,SR Γ B G H σ env β/\
 Out Γ E (f (vl env) β) λds β'=>∀J G' H',SR Γ B G' H' σ (a9 L env) β'->av G G'->iJ B H H'->Walk Γ.K B G' (match md with | .b=>H' |_=>λ_=>none) ds J->Rr J H'
def SI (X:Cx)(Γ:Fx)(E:XK)(tg e:Expr)(f:VF (List D))(L:List Nat)(md:Md):Prop:=PI X tg e (iT Γ E f L md)
def PI.post {X:Cx}{tg e:Expr}{t u:TI}(h:PI X tg e t)(m:∀σ H Q,u σ H Q->t σ H Q):PI X tg e u:=λpins s σ H Q I q=>h pins s σ H Q I (m σ H Q q)
variable {tg:Expr}
def lH:D->Option (List D)
 | .list ds=>some ds
 | .tuple ds=>some ds
 |_=>none
def ba (fa:VF D):VF (List D):=λvs β=>(fa vs β).bnd λx β1=>R.of (lH x) β1
end
def Oq (K:Frag)(tl:TE):TI:=λσ H R=>tl σ H λx H1=>∃a xs,x=.ref a/\((iF K H1 a xs/\R (AX K a) H1)\/(gA K H1 a xs/\R (HA K a) H1))
section
variable {X:Cx}{tg l:Expr}{tl:TE}
def Hv (hl:PE X l tl):PI X tg l (Oq X.K tl):=by
 intro pins s σ H R I h
 refine cO (hl pins s σ H _ I h) λv s1 ⟨x,H1,I1,r1,q1⟩=>?_
 obtain⟨a,xs,e,q⟩:=q1
 subst e
 cases r1
 rcases q with⟨hq,q⟩ | ⟨hq,q⟩
 ·obtain⟨its,rv,p,hz⟩:=I1.list hq
  refine QJ p.isList ?_
  refine⟨s1.heap.objs.size,[s1.heap.objs.size],_,_,H1,rfl,I1.kept (t':=s1.toks) λb o e=>OL _ e,oK a _,⟨_,O0 _ rfl,rfl,rfl⟩,λb hb=>?_,q⟩
  have e:b=s1.heap.objs.size:=by simpa using hb
  subst e
  exact I1.fpOk (ON _) (I1.hok.fresh (ON _))
 ·obtain⟨its,rv,p,hz⟩:=I1.tuple hq
  refine QR (show s1.heap.IsTuple a its.toArray from p) ?_
  refine⟨s1.heap.objs.size,[s1.heap.objs.size],_,_,H1,rfl,I1.kept (t':=s1.toks) λb o e=>OL _ e,qS a _,⟨_,O0 _ rfl,rfl,rfl⟩,λb hb=>?_,q⟩
  have e:b=s1.heap.objs.size:=by simpa using hb
  subst e
  exact I1.fpOk (ON _) (I1.hok.fresh (ON _))
end
section
variable {X:Cx}{Γ:Fx}{E:XK}{e a b c:Expr}{f fa fb:VF D}{L La Lb:List Nat}{md ma mb:Md}{pos:Pos}{st:Stmt}{sts:List Stmt}{m m':SF}{ta:VF Bool}{tg:Expr}
def oE {K:Frag}{B:Option Addr}{G H1:Hp}{p:Addr}{xs:List V}{ds:List D}(h:∀Gc H,av G Gc->av Gc H->iJ B H1 H->iF K H p xs)(r:cx K G xs ds):Walk K B G H1 ds (AX K p):=λGc H i s1 s2 m=>by
 have hq:=h Gc H s1 s2 m
 refine⟨λhi=>⟨?_,λx H' y=>?_⟩,λhi=>⟨xs,hq,by rw[r.len];exact hi⟩⟩
 ·have hi':i < xs.length:=by rw[r.len];exact hi
  exact⟨xs,xs[i],hq,by simp[hi']⟩
 ·obtain⟨rfl,y⟩:=y
  obtain⟨d,e,q⟩:=r.at' (y xs hq)
  exact⟨Gc,d,Ext.refl s2,e,q.mono s1⟩
def wQ {K:Frag}{B:Option Addr}{G H1:Hp}{p:Addr}{xs:List V}{ds:List D}(h:∀Gc H,av G Gc->av Gc H->iJ B H1 H->gA K H p xs)(r:cx K G xs ds):Walk K B G H1 ds (HA K p):=λGc H i s1 s2 m=>by
 have hq:=h Gc H s1 s2 m
 refine⟨λhi=>⟨?_,λx H' y=>?_⟩,λhi=>⟨xs,hq,by rw[r.len];exact hi⟩⟩
 ·have hi':i < xs.length:=by rw[r.len];exact hi
  exact⟨xs,xs[i],hq,by simp[hi']⟩
 ·obtain⟨rfl,y⟩:=y
  obtain⟨d,e,q⟩:=r.at' (y xs hq)
  exact⟨Gc,d,Ext.refl s2,e,q.mono s1⟩
theorem Bd (hK:X.K=Γ.K)(ha:SE X Γ E a fa La .v):SI X Γ E tg a (ba fa) La .v:=by
 refine PI.post (Hv ha) λσ H Q ⟨env,G,B,β,I,o⟩=>?_
 refine⟨env,G,B,β,I,o.bnd.imp λd1 β1 h x G1 H1 I1 s1 m1 vx=>?_⟩
 obtain⟨ds,e,k⟩:=h.of
 rw[hK]
 have vx:Rp Γ.K G1 x d1:=vx
 cases d1 with
 |list l=>
  cases e
  cases vx with
  | @lst p xs _ hq r=>exact⟨p,xs,rfl,.inl ⟨.inl (Rd.mono (.inl hq) I1.sub),k _ G1 H1 I1 s1 m1 (oE (λGc H t1 t2 _=>.inl (Rd.mono (.inl hq) (t1.trans t2))) r)⟩⟩
 |tuple l=>
  cases e
  cases vx with
  | @tup p xs _ hq r=>exact⟨p,xs,rfl,.inr ⟨hq.grow I1.sub.grow,k _ G1 H1 I1 s1 m1 (wQ (λGc H t1 t2 _=>hq.grow (t1.trans t2).grow) r)⟩⟩
 |_=>cases e
theorem iS (hK:X.K=Γ.K)(ha:SE X Γ E a fa La ma):SI X Γ E tg a (ba fa) La .b:=by
 refine PI.post (Hv ha) λσ H Q ⟨env,G,B,β,I,o⟩=>?_
 refine⟨env,G,B,β,I,o.bnd.imp λd1 β1 h x G1 H1 I1 s1 m1 vx=>?_⟩
 obtain⟨ds,e,k⟩:=h.of
 rw[hK]
 have vx:=vx.brw I.boxThere
 cases d1 with
 |list l=>
  cases e
  rcases vx with vx | ⟨p,rfl,hb,xs,q,r⟩
  ·cases vx with
   | @lst p xs _ hq r=>exact⟨p,xs,rfl,.inl ⟨.inl (Rd.mono (.inl hq) I1.sub),k _ G1 H1 I1 s1 m1 (oE (λGc H t1 t2 _=>.inl (Rd.mono (.inl hq) (t1.trans t2))) r)⟩⟩
  ·exact⟨p,xs,rfl,.inl ⟨.inl (.inl q),k _ G1 H1 I1 s1 m1 (oE (λGc H t1 t2 mv=>.inl (.inl (mv.1 p _ q hb))) r)⟩⟩
 |tuple l=>
  cases e
  rcases vx with vx | ⟨p,rfl,hb,q⟩
  ·cases vx with
   | @tup p xs _ hq r=>exact⟨p,xs,rfl,.inr ⟨hq.grow I1.sub.grow,k _ G1 H1 I1 s1 m1 (wQ (λGc H t1 t2 _=>hq.grow (t1.trans t2).grow) r)⟩⟩
  ·exact q.elim
 |_=>cases e
def fX (lo:Int)(n:Nat):List D:=(List.range n).map λ(k:Nat)=>int (lo + k)
def dO (lo:Int)(n:Nat):(fX lo n).length=n:=by unfold fX;simp
def DO {K:Frag}{B:Option Addr}{G H1:Hp}(lo:Int)(n:Nat):Walk K B G H1 (fX lo n) (Ea lo n):=λGc H i s1 s2 m=>by
 rw[dO]
 refine⟨λhi=>⟨hi,λx H' y=>?_⟩,λhi=>hi⟩
 obtain⟨rfl,rfl⟩:=y
 refine⟨Gc,.int (lo + i),Ext.refl s2,?_,.int _⟩
 unfold fX
 rw[OW,Qj hi];rfl
def zC (j:Int):Bool:=Nat.ble j.natAbs 1000000
def oU {j:Int}(h:zC j=true): -(2 ^ 62)<=j/\j < 2 ^ 62:=by
 have:=Nat.le_of_ble_eq_true h
 omega
def uh {j:Int}(h: -1000<=j)(h2:j<=10000):zC j=true:=Nat.ble_eq_true_of_le (by omega)
def dM (fa:VF D):VF (List D):=λvs β=>(fa vs β).bnd λx β1=>match x with
 | .int j=>if zC j=true then .ok (fX 0 j.toNat) β1 else .bad
 |_=>.bad
theorem lA {p:Pos}(hg:Gl X "range")(hm:X.mg "range"=none)(ha:SE X Γ E a fa La ma)(hs:starEach [a] X.env= [(false,eval a X.env)]:=by rfl)(hs':starEach [a] X.env=(false,eval a X.env) :: starEach [] X.env:=by rfl):SI X Γ E tg (.Call (.Name "range" p) [a] [] pos) (dM fa) La md:=by
 refine PI.post (mH hg hm (a8 ha bV hs') hs) λσ H Q ⟨env,G,B,β,I,o⟩=>?_
 refine⟨env,G,B,β,I,o.bnd.imp λd1 β1 h x G1 H1 I1 s1 m1 vx=>?_⟩
 have vx:=vx.brw I.boxThere
 cases d1 with
 |int j=>
  obtain rfl:=vx.int
  dsimp only at h
  by_cases hj:zC j=true
  ·rw[OO hj] at h
   exact⟨j,rfl,(oU hj).1,(oU hj).2,h _ G1 H1 I1 s1 m1 (DO 0 _)⟩
  ·rw[OV hj] at h;exact h.elim
 |_=>exact h.elim
inductive Tg where
 |nm (i:Nat)
 |two (i j:Nat)
def pairD:D->Option (D×D)
 | .tuple [x,y]=>some (x,y)
 |_=>none
def Cp {d x y:D}(h:pairD d=some (x,y)):d=.tuple [x,y]:=by
 unfold pairD at h
 split at h
 ·cases h;rfl
 ·cases h
def fL:Tg->D->En->Option En
 | .nm i,d,env=>some (env.set i (.fz d))
 | .two i j,d,env=>(pairD d).map λp=>(env.set i (.fz p.1)).set j (.fz p.2)
def nY:Tg->D->List Nv->Option (List Nv)
 | .nm i,d,vs=>some (vs.set i (.da d))
 | .two i j,d,vs=>(pairD d).map λp=>(vs.set i (.da p.1)).set j (.da p.2)
def yj (env:En)(i:Nat)(s:Sl):vl (env.set i s)=(vl env).set i s.val:=by unfold vl;rw[List.map_set]
theorem GG (t:Tg)(d:D)(env:En):(fL t d env).map vl=nY t d (vl env):=by
 cases t with
 |nm i=>show some (vl _)=some _;rw[yj];rfl
 |two i j=>
  show ((pairD d).map _).map vl=(pairD d).map _
  cases pairD d with
  |none=>rfl
  |some p=>show some (vl _)=some _;rw[yj,yj];rfl
def gT (Γ:Fx)(t:Tg):TG:=λv σ H Q=>∃env G B β d env',SR Γ B G H σ env β/\Rp Γ.K G v d/\fL t d env=some env'/\∀σ',SR Γ B G H σ' env' β->Q σ' H
def SG (X:Cx)(Γ:Fx)(tg:Expr)(t:Tg):Prop:=PG X tg (gT Γ t)
def PG.post {X:Cx}{tg:Expr}{t u:TG}(h:PG X tg t)(m:∀v σ H Q,u v σ H Q->t v σ H Q):PG X tg u:=λpins s σ H v uu Q I r q=>h pins s σ H v uu Q I r (m v σ H Q q)
def cA {i:Nat}{x:Str}(hN:X.N.Nodup)(hi:X.N[i]? =some x:=by rfl)(hx:Loc X.env.scope x:=by first |exact Or.inl rfl |exact Or.inr rfl)(hf:X.fn x=true\/X.env.scope.names.lookup x=some .local:=by first |exact .inl rfl |exact .inr rfl |assumption):SG X Γ (.Name x pos) (.nm i):=by
 refine PG.post (dq hN hi hx hf) λv σ H Q ⟨env,G,B,β,d,env',I,r,e,k⟩=>?_
 cases e
 exact k _ (I.set' i r)
theorem fB {i j:Nat}{x y:Str}{px py:Pos}{n:Nat}(hN:X.N.Nodup)(hc:X.calm=true:=by rfl)(hK:X.K=Γ.K:=by rfl)(hi:X.N[i]? =some x:=by rfl)(hj:X.N[j]? =some y:=by rfl)(hx:Loc X.env.scope x:=by first |exact Or.inl rfl |exact Or.inr rfl)(hy:Loc X.env.scope y:=by first |exact Or.inl rfl |exact Or.inr rfl)
  (hf:X.fn x=true\/X.env.scope.names.lookup x=some .local:=by first |exact .inl rfl |exact .inr rfl |assumption) (hf':X.fn y=true\/X.env.scope.names.lookup y=some .local:=by first |exact .inl rfl |exact .inr rfl |assumption):SG X Γ (.Tuple [.Name x px,.Name y py] n pos) (.two i j):=by
 refine PG.post (qW (n:=2) hc (eO (dq hN hi hx hf) (eO (dq hN hj hy hf') nJ))) λv σ H Q ⟨env,G,B,β,d,env',I,r,e,k⟩=>?_
 rw[hK]
 have e:(pairD d).map (λp=>(env.set i (.fz p.1)).set j (.fz p.2))=some env':=e
 cases q:pairD d with
 |none=>rw[q] at e;cases e
 |some p=>
  obtain⟨dx,dy⟩:=p
  rw[q] at e
  cases e
  obtain rfl:=Cp q
  cases r with
  | @tup p xs _ hq r=>
   cases r with
   |cons r1 r=>
    cases r with
    |cons r2 r=>
     cases r
     exact⟨p,_,rfl,hq.grow I.sub.grow,rfl,_,_,rfl,_,_,rfl,rfl,k _ ((I.set' i r1).set' j r2)⟩
def eY (t:Tg)(m:SF):List D->SF
 | []=>λenv β=>.nx env β
 |d :: ds=>λenv β=>match fL t d env with
  |none=>.bad
  |some env1=>match m env1 β with
   | .nx env2 β2=>eY t m ds env2 β2
   | .ct env2 β2=>eY t m ds env2 β2
   | .bk env2 β2=>.nx env2 β2
   |r=>r
def cW (t:Tg)(L:List Nat)(fi:VF (List D))(m:SF):SF:=λenv β=>toS (fi (vl env) β) λds β'=>eY t m ds (a9 L env) β'
def dD {t:Tg}{fi:VF (List D)}{x:List Stmt}(hp:PassesOwn (model X.prog X.w) X.A X.env X.xe)(hc:X.calm=true)(hi:SI X Γ E tg e fi L .v)(hg:SG X Γ tg t)(hb:El X Γ E x m)(hs:∀x,foldedSetIterable e X.env x=pure x:=by intro _;rfl):SS X Γ E (.For tg e x [] pos) (cW t L fi m):=by
 refine PS.post (vp hp hc hi hg hb hs) λN σ H ⟨env,G,B,β,I,o⟩=>?_
 refine⟨env,G,B,β,I,cS o λds β' q J G' H' I' s' m' w=>?_⟩
 have w:Walk Γ.K B G' (λ_=>none) ds J:=w
 refine⟨λi n σ H=>n=ds.length - i/\i<=ds.length/\∃env G1 B β,SR Γ B G1 H σ env β/\av G' G1/\rZ Γ E G1 N (eY t m (ds.drop i) env β),⟨ds.length,by simp,PX _,a9 L env,G',B,β',I',av.refl _,by rw[List.drop_zero];exact rZ.weak q s'⟩,?_⟩
 rintro i n σ H ⟨rfl,hi,env,G1,B1,β1,I1,s1,q⟩
 obtain⟨w1,w2⟩:=w G1 H i s1 I1.sub ⟨(λb o e=>by cases e),λb o u e=>by cases e⟩
 by_cases hlt:i < ds.length
 ·obtain⟨go,yl⟩:=w1 hlt
  refine .inr ⟨go,λσ H=>∃env G2 B β,SR Γ B G2 H σ env β/\av G' G2/\rZ Γ E G2 N (eY t m (ds.drop (i + 1)) env β),λσ2 H2 h=>⟨ds.length - (i + 1),by omega,rfl,hlt,h⟩,λx H2 y=>?_⟩
  obtain⟨G2,d,x2,ed,rd⟩:=yl x H2 y
  have I2:=I1.ext x2
  have q:=rZ.weak q x2.gg
  rw[Qx hlt] at q
  have ed':ds[i]=d:=by rw[OJ hlt] at ed;exact Option.some.inj ed
  rw[ed'] at q
  unfold eY at q
  cases eb:fL t d env with
  |none=>rw[eb] at q;exact q.elim
  |some env1=>
   rw[eb] at q
   refine⟨env,G2,B1,β1,d,env1,I2,rd,eb,λσ3 I3=>⟨env1,G2,B1,β1,I3,?_⟩⟩
   have s2:=s1.trans x2.gg
   dsimp only at q
   cases r:m env1 β1 with
   |nx env2 β2=>rw[r] at q;exact λB2 G3 H3 σ2 I2 s3=>⟨env2,G3,B2,β2,I2,s2.trans s3,rZ.weak q s3⟩
   |ct env2 β2=>rw[r] at q;exact λB2 G3 H3 σ2 I2 s3=>⟨env2,G3,B2,β2,I2,s2.trans s3,rZ.weak q s3⟩
   |bk env2 β2=>rw[r] at q;exact λB2 G3 H3 σ2 I2 s3=>q B2 G3 H3 σ2 I2 s3
   |rt d fr β2=>rw[r] at q;exact q
   |exc c=>rw[r] at q;exact q
   |bad=>rw[r] at q;exact q
 ·have e:i=ds.length:=by omega
  subst e
  rw[drop_length] at q
  exact .inl ⟨w2 (ON _),q B1 G1 H σ I1 (av.refl _)⟩
end
abbrev Fx.jq (Γ:Fx)(H0 G0:Hp)(par:List Addr)(br:Nat->Bool)(bx:Option Addr):Fx:=⟨Γ.K,H0,G0,par,Γ.ca,br,bx⟩
def iu (own:Nat)(ixs:List Nat)(vs:List Nv):List Nv:=List.replicate own .no ++ ixs.map λi=>(vs[i]?).getD .no
def LZ:Option Sl->Sl
 |some (.ow d)=>.br d
 |some s=>s
 |none=>.no
def benv (own:Nat)(ixs:List Nat)(env:En):En:=List.replicate own .no ++ ixs.map λi=>LZ env[i]?
theorem F0 (o:Option Sl):(LZ o).val=(o.map Sl.val).getD .no:=by
 cases o with
 |none=>rfl
 |some s=>cases s <;> rfl
def ET (own:Nat)(ixs:List Nat)(env:En):vl (benv own ixs env)=iu own ixs (vl env):=by
 unfold vl benv iu
 rw[Pq,List.map_replicate,Q0]
 congr 1
 refine P5 λi _=>?_
 show (LZ env[i]?).val=_
 rw[F0,OW]
def yk (env:En):Prop:=∀(i:Nat) (d:D),env[i]?≠some (.ow d)
theorem xH {env:En}(h:yk env)(L:List Nat):a9 L env=env:=by
 unfold a9
 induction L with
 |nil=>rfl
 |cons i L ih=>
  rw[foldl_cons]
  have:hZ env i=env:=by
   unfold hZ
   split
   ·rename_i d e;exact absurd e (h i d)
   ·rfl
  rw[this];exact ih
def tj (own:Nat)(ixs:List Nat)(env:En):yk (benv own ixs env):=λi d e=>by
 unfold benv at e
 have hm:=Pb e
 rcases O4.mp hm with h |h
 ·have:=Qm h;cases this
 ·obtain⟨k,_,hk⟩:=Pp.mp h
  cases q:env[k]? with
  |none=>rw[q] at hk;cases hk
  |some s=>rw[q] at hk;cases s <;> cases hk
def rm {env:En}(h:yk env)(i:Nat)(d:D):yk (env.set i (.fz d)):=λj d' e=>by
 by_cases z:i=j
 ·subst z
  by_cases hi:i < env.length
  ·rw[O7 hi] at e;cases e
  ·rw[Qy (by omega)] at e;exact h _ _ e
 ·rw[O6 z] at e;exact h _ _ e
theorem Bv {env env1:En}{t:Tg}{d:D}(h:yk env)(e:fL t d env=some env1):yk env1:=by
 cases t with
 |nm i=>cases e;exact rm h i d
 |two i j=>
  have e:(pairD d).map _=some env1:=e
  cases q:pairD d with
  |none=>rw[q] at e;cases e
  |some p=>rw[q] at e;cases e;exact rm (rm h _ _) _ _
theorem Bh {env env1:En}{t:Tg}{d:D}(e:fL t d env=some env1)(d':D):fL t d' env1=fL t d' env:=by
 cases t with
 |nm i=>cases e;show some _=some _;rw[set_set]
 |two i j=>
  have e:(pairD d).map _=some env1:=e
  cases q:pairD d with
  |none=>rw[q] at e;cases e
  |some p=>
   rw[q] at e;cases e
   show (pairD d').map _=(pairD d').map _
   cases pairD d' with
   |none=>rfl
   |some p'=>
    show some _=some _
    congr 1
    dsimp only
    by_cases z:i=j
    ·subst z;simp[set_set]
    ·rw[List.set_comm _ _ (Ne.symm z),set_set,set_set]
def Ext.mov {G H G' H':Hp}(x:Ext G H G' H')(B:Option Addr):iJ B H H':=x.hh.mov B
section
variable {Γ:Fx}{B:Option Addr}{G H G1 H1 Gc Hc:Hp}{σ σ':St}{env envb:En}{β β':Int}{own:Nat}{ixs:List Nat}{Da:Addr}{acc:List V}
def zj (envb:En):Nat->Bool:=λj=>match envb[j]? with
 |some (.br _)=>true
 |_=>false
def SR.block (I:SR Γ B G H σ env β)(own:Nat)(ixs:List Nat)(hD:H Da=none):SR (Γ.jq (upd H Da (.lst [])) G (Da :: B.toList) (zj (benv own ixs env)) B) B G (upd H Da (.lst [])) (bO own ixs σ) (benv own ixs env) β:=by
 obtain⟨q1,q2,q3,q4⟩:=I.fresh hD
 have nB:∀b,B=some b->b≠Da:=λb e z=>q3 (by rw[<-z];exact e)
 refine⟨I.sub.trans (av.new hD),av.refl _,λb _ h=>h,λb o h _=>Kt.of h,λb hb=>?_,λb e=>e,λb e=>?_,?_,λi s e=>?_,λi j c d d' e=>absurd e (tj own ixs env i d)⟩
 ·rcases OR.mp hb with z |z
  ·subst z;exact Mx.lst aE
  ·have z':B=some b:=by simpa using z
   exact Mx.lst (by rw[aA (nB b z')];exact (I.box b z').1)
 ·obtain⟨h1,h2,_⟩:=I.box b e
  exact⟨by rw[aA (nB b e)];exact h1,h2,.inl (OS _ (by simpa using e))⟩
 ·unfold bO benv;simp
 ·by_cases hi:i < own
  ·unfold benv at e
   rw[Pg (by simpa using hi),P6,OO hi] at e
   cases e;trivial
  ·have e0:=e
   unfold benv at e
   rw[Pj (by simpa using hi),PU,OW] at e
   cases ek:ixs[i - own]? with
   |none=>rw[ek] at e;cases e
   |some k=>
    rw[ek] at e
    have e:LZ env[k]? =s:=Option.some.inj e
    have es:(bO own ixs σ)[i]? =some ((σ[k]?).join):=by
     unfold bO
     rw[Pj (by simpa using hi),PU,OW,ek];rfl
    rw[es]
    cases q:env[k]? with
    |none=>rw[q] at e;subst e;trivial
    |some t=>
     rw[q] at e
     have w:=I.slot k t q
     cases t with
     |no=>subst e;trivial
     |fz d=>subst e;obtain⟨v,h1,h2⟩:=w;exact⟨v,by rw[h1];rfl,h2⟩
     |bx=>subst e;obtain⟨a,h1,h2⟩:=w;exact⟨a,by rw[h1];rfl,h2⟩
     |ow d=>
      subst e
      obtain⟨a,h1,h2,h3,h4,h5⟩:=w
      obtain⟨o,ho⟩:=h5.obj
      have aD:a≠Da:=aM ho hD
      refine⟨by show zj _ i=true;unfold zj;rw[e0];rfl,a,by rw[h1];rfl,h4,?_,h5.mono (av.refl _) λo q=>Kt.of (by rw[aA aD];exact q)⟩
      intro hm
      rcases OR.mp hm with z |z
      ·exact aD z
      ·exact h4 (by simpa using z)
     |br d=>
      subst e
      obtain⟨b1,a,h1,h4,hp,h5⟩:=w
      obtain⟨o,ho⟩:=h5.obj
      have aD:a≠Da:=aM ho hD
      refine⟨by show zj _ i=true;unfold zj;rw[e0];rfl,a,by rw[h1];rfl,h4,?_,h5.mono (av.refl _) λo q=>Kt.of (by rw[aA aD];exact q)⟩
      intro hm
      rcases OR.mp hm with z |z
      ·exact aD z
      ·exact h4 (by simpa using z)
def SR.unblock (I:SR Γ B G H σ env β){br:Nat->Bool}(hD:H Da=none)(J:SR (Γ.jq (upd H Da (.lst [])) G (Da :: B.toList) br B) B Gc Hc σ' envb β'):SR Γ B Gc Hc σ env β'/\iJ B H Hc/\Gc Da=none:=by
 obtain⟨q1,q2,q3,q4⟩:=I.fresh hD
 have up:∀{b:Addr},Mx H b->Mx (upd H Da (.lst [])) b:=λ{b} h=>h.same λo e=>Kt.of (by rw[aA (aM e hD)];exact e)
 have mv0:∀b o,H b=some o->B≠some b->Kt Hc b o:=λb o e n=>J.keep b o (show upd H Da (.lst []) b=some o by rw[aA (aM e hD)];exact e) λhm=>by
  rcases OR.mp hm with z |z
  ·rw[z,hD] at e;cases e
  ·exact n (by simpa using z)
 have mv:iJ B H Hc:=⟨mv0,λb o u e=>mv0 b _ e λz=>by rw[(I.box b z).1] at e;cases e⟩
 refine⟨⟨J.sub,I.old.trans J.old,λb h1 h2=>J.new b (up (I.thereM h1)) (I.new b h1 h2),λb o h1 h2=>zu (I.keep b o h1 h2) mv λz=>?_,λb hb=>J.thereM (up (I.pin b hb)),I.fix,λb e=>?_,I.len,λi s e=>?_,I.sep⟩,mv,J.new Da (Mx.lst (show upd H Da (.lst []) Da=some (.lst []) from aE)) q2⟩
 ·obtain⟨_,_,h3⟩:=I.box b z
  rcases h3 with h3 |h3
  ·exact h2 h3
  ·rw[h1] at h3;cases h3
 ·obtain⟨j1,j2,_⟩:=J.box b e
  exact⟨j1,j2,(I.box b e).2.2⟩
 ·have w:=I.slot i s e
  cases s with
  |no=>trivial
  |fz d=>obtain⟨v,h1,h2⟩:=w;exact⟨v,h1,h2.mono J.old⟩
  |bx=>exact w
  |ow d=>
   obtain⟨a,h1,h2,h3,h4,h5⟩:=w
   exact⟨a,h1,h2,J.new a (up h5.mx) h3,h4,h5.mono J.old λo q=>mv.1 a o q h4⟩
  |br d=>
   obtain⟨b1,a,h1,h4,hp,h5⟩:=w
   exact⟨b1,a,h1,h4,hp,h5.mono J.old λo q=>mv.1 a o q h4⟩
def SR.updD {ys:List V}(J:SR Γ B G H σ env β)(hp:Da∈Γ.par)(h0:Mx Γ.H0 Da)(g0:Γ.G0 Da=none)(hB:B≠some Da):SR Γ B G (upd H Da (.lst ys)) σ env β:=by
 have gD:=J.new Da h0 g0
 have ha:∀x y,H Da≠some (.a9 x y):=λx y w=>(J.pin Da hp).2 _ w trivial
 refine⟨λb u q=>lR (J.sub b u q) (λz=>by rw[z,gD] at q;cases q) ha,J.old,J.new,λb u q n=>lR (J.keep b u q n) (λz=>n (by rw[z];exact hp)) ha,λb hb=>?_,J.fix,λb e=>?_,J.len,λi s e=>?_,J.sep⟩
 ·by_cases z:b=Da
  ·subst z;exact Mx.lst aE
  ·exact (J.pin b hb).same λo e=>Kt.of (by rw[aA z];exact e)
 ·obtain⟨h1,h2⟩:=J.box b e
  exact⟨by rw[aA (λz=>hB (by rw[<-z];exact e))];exact h1,h2⟩
 ·have w:=J.slot i s e
  cases s with
  |no=>trivial
  |fz d=>exact w
  |bx=>exact w
  |ow d=>
   obtain⟨a,h1,h2,h3,h4,h5⟩:=w
   have aD:a≠Da:=λz=>h0.1 (by rw[<-z];exact h2)
   exact⟨a,h1,h2,h3,h4,h5.mono (av.refl _) λo q=>Kt.of (by rw[aA aD];exact q)⟩
  |br d=>
   obtain⟨b1,a,h1,h4,hpa,h5⟩:=w
   have aD:a≠Da:=λz=>hpa (by rw[z];exact hp)
   exact⟨b1,a,h1,h4,hpa,h5.mono (av.refl _) λo q=>Kt.of (by rw[aA aD];exact q)⟩
end
def R.okb {α γ:Type}(r:R α)(k:α->Int->R γ):R γ:=match r with
 | .ok a β=>k a β
 |_=>.bad
def iz (t:Tg)(ft:VF Bool)(fe:VF D)(vs:List Nv):List D->Int->R (List D)
 | [],β=>.ok [] β
 |d :: ds,β=>match nY t d vs with
  |none=>.bad
  |some vs1=>(ft vs1 β).okb λc β1=>if c=true then (fe vs1 β1).okb λx β2=>(iz t ft fe vs ds β2).okb λxs β3=>.ok (x :: xs) β3 else iz t ft fe vs ds β1
def aK (own:Nat)(ixs:List Nat)(t:Tg)(fi:VF (List D))(ft:VF Bool)(fe:VF D):VF D:=λvs β=>(fi vs β).bnd λds β1=>if ds.length<=sizeLine then (iz t ft fe (iu own ixs vs) ds β1).okb λxs β2=>.ok (.list xs) β2 else .bad
def iB:VF Bool:=λ_ β=>.ok true β
def HQ (own:Nat)(ixs Lc:List Nat)(j:Nat):Bool:=decide (j < own) || (match ixs[j - own]? with
 |some i=>Lc.contains i
 |none=>false)
theorem GO {α γ:Type}{Γ:Fx}{E:XK}{r:R α}{k:α->Int->R γ}{P:γ->Int->Prop}(h:Out Γ E (r.okb k) P):∃a β,r=.ok a β/\Out Γ E (k a β) P:=by
 cases r with
 |ok a β=>exact⟨a,β,rfl,h⟩
 |exc c=>exact h.elim
 |bad=>exact h.elim
section
variable {X:Cx}{Γ:Fx}{E:XK}{tg iter elt:Expr}{ifs:List Expr}{scope:Scope}{NB:List Str}{own:Nat}{ixs Li Lc Lt Le:List Nat}{t:Tg}{fi:VF (List D)}{ft:VF Bool}{fe:VF D}{pos:Pos}
def cH {X:Cx}{Γ:Fx}{E:XK}:DW X [] (qT Γ E iB []):=λpins s σ H Q I ⟨env,G,B,β,J,o⟩=>ux pins s σ H Q I (o G H J (av.refl _) (iJ.refl _ _))
def fj {X:Cx}{Γ:Fx}{E:XK}{c:Expr}{ta:VF Bool}{L:List Nat}(h:zP X Γ E c ta L):DW X [c] (qT Γ E ta L):=Ak h
def jo {NB:List Str}{scope:Scope}{C:Addr}{ex:List Addr}{s3:Shared}{H3:Hp}{pn:List (Addr×Obj)}{P:Program}{w:World}:Passes (l4 P w) (jq X NB scope C ex s3 H3 pn) E0:=λpins σ H s e s' I h=>by
 obtain⟨_,_,_,_,_,_,_,_,_,q⟩:=h
 exact q.elim
abbrev gU (Γ:Fx)(t:Tg):TG:=λv σ H Q=>∃H0 G0 par br bx,gT (Γ.jq H0 G0 par br bx) t v σ H Q
abbrev tU (Γ:Fx)(own:Nat)(ixs Lc:List Nat)(ft:VF Bool)(Lt:List Nat):TT:=λσ H Q=>∃H0 G0 par br bx,(∀j,HQ own ixs Lc j=true->br j=false)/\qT (Γ.jq H0 G0 par br bx) E0 ft Lt σ H Q
abbrev eU (Γ:Fx)(own:Nat)(ixs Lc:List Nat)(fe:VF D)(Le:List Nat):TE:=λσ H Q=>∃H0 G0 par br bx,(∀j,HQ own ixs Lc j=true->br j=false)/\pT (Γ.jq H0 G0 par br bx) E0 fe Le .v σ H Q
def HJ {σ:St}{H:Hp}{Q:VK}(hLc:∀i,i∈Lc->Γ.br i=false)(h:pT Γ E (aK own ixs t fi ft fe) (Li ++ Lc) .w σ H Q):yf own ixs (iT Γ E fi Li .b) (gU Γ t) (tU Γ own ixs Lc ft Lt) (eU Γ own ixs Lc fe Le) σ H Q:=by
 obtain⟨env,G,B,β,I,o⟩:=h
 refine⟨env,G,B,β,I,o.bnd.imp λds β1 h J G1 H1 I1 s1 m1 wk Da hD=>?_⟩
 have wk:Walk Γ.K B G1 H1 ds J:=wk
 by_cases hz:ds.length<=sizeLine
 case neg=>rw[OV hz] at h;exact h.elim
 rw[OO hz] at h
 obtain⟨xs0,β0,e0,h⟩:=GO h
 have h:∀v G' H',SR Γ B G' H' σ (a9 (Li ++ Lc) env) β0->av G G'->iJ B H H'->VO Γ.K B H G' H' .w (.list xs0) v->Q v H':=h
 obtain⟨G2,I2,s2⟩:=I1.a9 Lc hLc
 rw[<-cq] at I2
 obtain⟨q1,q2,q3,q4⟩:=I2.fresh hD
 have Ib0:=I2.block own ixs hD
 generalize hbr:zj (benv own ixs (a9 (Li ++ Lc) env))=br at Ib0
 have hbo:∀j,HQ own ixs Lc j=true->br j=false:=by
  intro j hj
  rw[<-hbr]
  unfold zj
  split
  ·rename_i d e
   exfalso
   unfold benv at e
   by_cases hjo:j < own
   ·rw[Pg (by simpa using hjo),P6,OO hjo] at e;cases e
   ·rw[Pj (by simpa using hjo),PU,OW] at e
    unfold HQ at hj
    rw[OY hjo,Bool.false_or] at hj
    cases ek:ixs[j - own]? with
    |none=>rw[ek] at hj;cases hj
    |some k=>
     rw[ek] at hj e
     have hk:k∈Lc:=by simpa using hj
     have e:LZ (a9 (Li ++ Lc) env)[k]? =.br d:=Option.some.inj e
     cases q:(a9 (Li ++ Lc) env)[k]? with
     |none=>rw[q] at e;cases e
     |some s=>
      rw[q] at e
      cases s with
      |no=>cases e
      |fz _=>cases e
      |bx=>cases e
      |br d'=>
       obtain⟨b1,_⟩:=I2.slot k _ q
       rw[hLc k hk] at b1;cases b1
      |ow d'=>
       rw[cq] at q
       have key:∀(M:List Nat) (en:En),k∈M->∀d',(a9 M en)[k]?≠some (.ow d'):=by
        intro M
        induction M with
        |nil=>intro en hm;cases hm
        |cons i M ih=>
         intro en hm d' z
         rcases OR.mp hm with y |y
         ·subst y
          have z1:(hZ en k)[k]? =some (.ow d'):=qh (L:=M) z
          have z2:=vg z1
          unfold hZ at z1
          rw[z2] at z1
          dsimp only at z1
          rw[O7 (OQ.mp z2).1] at z1;cases z1
         ·exact ih (hZ en i) y d' z
       exact key Lc _ hk d' q
  ·rfl
 have evb:vl (benv own ixs (a9 (Li ++ Lc) env))=iu own ixs (vl env):=by rw[ET,dH]
 refine⟨λi n σ' H'=>n=ds.length - i/\i<=ds.length/\∃envb Gc β' acc accd,SR (Γ.jq (upd H1 Da (.lst [])) G2 (Da :: B.toList) br B) B Gc H' σ' envb β'/\(envb=benv own ixs (a9 (Li ++ Lc) env)\/∃d,fL t d (benv own ixs (a9 (Li ++ Lc) env))=some envb)/\
   H' Da=some (.lst acc)/\cx Γ.K Gc acc accd/\accd.length<=i/\∃xs,iz t ft fe (iu own ixs (vl env)) (ds.drop i) β'=.ok xs β0/\accd ++ xs=xs0,
  ⟨ds.length,by simp,PX _,_,G2,β1,[],[],Ib0,.inl rfl,aE,.nil,PX _,xs0,by rw[List.drop_zero];exact e0,rfl⟩,?_⟩
 rintro i n σ' H' ⟨rfl,hi',envb,Gc,β',acc,accd,Ib,eb,hacc,racc,lacc,xs,ec,exs⟩
 obtain⟨Io,mv,gD⟩:=I2.unblock hD Ib
 obtain⟨w1,w2⟩:=wk Gc H' i (s2.trans Ib.old) Ib.sub mv
 by_cases hlt:i < ds.length
 ·obtain⟨go,yl⟩:=w1 hlt
  refine .inr ⟨go,λσ' H'=>∃envb Gc β' acc accd,SR (Γ.jq (upd H1 Da (.lst [])) G2 (Da :: B.toList) br B) B Gc H' σ' envb β'/\(envb=benv own ixs (a9 (Li ++ Lc) env)\/∃d,fL t d (benv own ixs (a9 (Li ++ Lc) env))=some envb)/\
   H' Da=some (.lst acc)/\cx Γ.K Gc acc accd/\accd.length<=i + 1/\∃xs,iz t ft fe (iu own ixs (vl env)) (ds.drop (i + 1)) β'=.ok xs β0/\accd ++ xs=xs0,λσ2 H2 hh=>⟨ds.length - (i + 1),by omega,rfl,hlt,hh⟩,λx H2 y=>?_⟩
  obtain⟨G3,d,x3,ed,rd⟩:=yl x H2 y
  have I3:=Ib.ext x3
  have ed':ds[i]=d:=by rw[OJ hlt] at ed;exact Option.some.inj ed
  rw[Qx hlt,ed'] at ec
  unfold iz at ec
  cases ebv:nY t d (iu own ixs (vl env)) with
  |none=>rw[ebv] at ec;cases ec
  |some vs1=>
   rw[ebv] at ec
   dsimp only at ec
   obtain⟨env1,eb1,ev1⟩:∃env1,fL t d (benv own ixs (a9 (Li ++ Lc) env))=some env1/\vl env1=vs1:=by
    have:=GG t d (benv own ixs (a9 (Li ++ Lc) env))
    rw[evb,ebv] at this
    cases q:fL t d (benv own ixs (a9 (Li ++ Lc) env)) with
    |none=>rw[q] at this;cases this
    |some env1=>rw[q] at this;exact⟨env1,rfl,Option.some.inj this⟩
   have eb2:fL t d envb=some env1:=by
    rcases eb with rfl | ⟨d0,eb⟩
    ·exact eb1
    ·rw[Bh eb];exact eb1
   have no1:yk env1:=Bv (tj _ _ _) eb1
   have a2:H2 Da=some (.lst acc):=x3.hh _ _ hacc
   refine⟨_,_,_,_,_,envb,G3,B,β',d,env1,I3,rd,eb2,λσ3 I4=>?_⟩
   refine⟨_,_,_,_,_,hbo,env1,G3,B,β',I4,?_⟩
   rw[ev1]
   cases et:ft vs1 β' with
   |exc c=>rw[et] at ec;cases ec
   |bad=>rw[et] at ec;cases ec
   |ok c β2=>
    rw[et] at ec
    intro G4 H4 I5 s4 m4
    rw[xH no1] at I5
    have a4:H4 Da=some (.lst acc):=m4.1 _ _ a2 q3
    cases c with
    |false=>
     refine sv ⟨env1,G4,β2,acc,accd,I5,.inr ⟨d,eb1⟩,a4,racc.mono (x3.gg.trans s4),by omega,xs,?_,exs⟩
     exact ec
    |true=>
     refine sP ⟨_,_,_,_,_,hbo,env1,G4,B,β2,I5,?_⟩
     rw[ev1]
     have ec:((fe vs1 β2).okb λx β3=>(iz t ft fe (iu own ixs (vl env)) (ds.drop (i + 1)) β3).okb λxs β4=>R.ok (x :: xs) β4)=R.ok xs β0:=ec
     cases ee:fe vs1 β2 with
     |exc c=>rw[ee] at ec;cases ec
     |bad=>rw[ee] at ec;cases ec
     |ok dx β3=>
      rw[ee] at ec
      intro v G5 H5 I6 s5 m5 vo
      rw[xH no1] at I6
      have a5:H5 Da=some (.lst acc):=m5.1 _ _ a4 q3
      have ec:((iz t ft fe (iu own ixs (vl env)) (ds.drop (i + 1)) β3).okb λxs β4=>R.ok (dx :: xs) β4)=R.ok xs β0:=ec
      cases er:iz t ft fe (iu own ixs (vl env)) (ds.drop (i + 1)) β3 with
      |exc c=>rw[er] at ec;cases ec
      |bad=>rw[er] at ec;cases ec
      |ok ys β4=>
       rw[er] at ec
       cases ec
       refine⟨acc,a5,by rw[racc.len];omega,env1,G5,β3,acc ++ [v],accd ++ [dx],?_,.inr ⟨d,eb1⟩,aE,(racc.mono ((x3.gg.trans s4).trans s5)).snoc vo,by rw[OX];simp;omega,ys,er,by rw[<-exs,PD];rfl⟩
       refine I6.updD (OU ..) (Mx.lst (show upd H1 Da (.lst []) Da=some (.lst []) from aE)) (I2.sub.free hD) q3
 ·have e:i=ds.length:=by omega
  subst e
  rw[drop_length] at ec
  cases ec
  rw[P2] at exs
  subst exs
  refine .inl ⟨w2 (ON _),⟨acc,hacc⟩,h _ Gc H' Io ((s1.trans s2).trans Ib.old) (m1.trans mv) ⟨Da,rfl,fP m1 I1.boxThere hD,gD,acc,hacc,racc⟩⟩
def bU (hg:∀H0 G0 par br bx C ex s3 H3 pn,SG (jq X NB scope C ex s3 H3 pn) (Γ.jq H0 G0 par br bx) tg t)(C:Addr)(ex:List Addr)(s3:Shared)(H3:Hp)(pn:List (Addr×Obj)):PG (jq X NB scope C ex s3 H3 pn) tg (gU Γ t):=by
 rintro pins s σ H v u Q I r ⟨H0,G0,par,br,bx,q⟩
 exact hg H0 G0 par br bx C ex s3 H3 pn pins s σ H v u Q I r q
def bF (Lc:List Nat)(hc:X.calm=true)(S:cg X NB own ixs scope)(hLc:∀i,i∈Lc->Γ.br i=false)(hi:SI X Γ E tg iter fi Li .b)
  (hg:∀H0 G0 par br bx C ex s3 H3 pn,SG (jq X NB scope C ex s3 H3 pn) (Γ.jq H0 G0 par br bx) tg t)
  (ht:∀H0 G0 par br bx C ex s3 H3 pn,(∀j,HQ own ixs Lc j=true->br j=false)->DW (jq X NB scope C ex s3 H3 pn) ifs (qT (Γ.jq H0 G0 par br bx) E0 ft Lt))
  (he:∀H0 G0 par br bx C ex s3 H3 pn,(∀j,HQ own ixs Lc j=true->br j=false)->SE (jq X NB scope C ex s3 H3 pn) (Γ.jq H0 G0 par br bx) E0 elt fe Le .v)
  (hs:∀x,foldedSetIterable iter X.env x=pure x:=by intro _;rfl) :
  SE X Γ E (.ListComp elt [⟨tg,iter,ifs,0⟩] scope pos) (aK own ixs t fi ft fe) (Li ++ Lc) .w:=by
 refine PE.post' (xg (g:=gU Γ t) (tt:=tU Γ own ixs Lc ft Lt) (te:=eU Γ own ixs Lc fe Le) hc S hi (bU hg) (λC ex s3 H3 pn=>?_) (λC ex s3 H3 pn=>?_) hs) λσ H Q h=>HJ hLc h
 ·rintro pins s σ H Q I ⟨H0,G0,par,br,bx,b,q⟩
  exact ht H0 G0 par br bx C ex s3 H3 pn b pins s σ H Q I q
 ·rintro pins s σ H Q I ⟨H0,G0,par,br,bx,b,q⟩
  exact he H0 G0 par br bx C ex s3 H3 pn b pins s σ H Q I q
def um {i:Nat}{y:Str}{py spos:Pos}(Lc:List Nat)(hc:X.calm=true)(S:cg X NB own ixs scope)(hLc:∀i,i∈Lc->Γ.br i=false)(hi:SI X Γ E tg iter fi Li .b)
  (hg:∀H0 G0 par br bx C ex s3 H3 pn,SG (jq X NB scope C ex s3 H3 pn) (Γ.jq H0 G0 par br bx) tg t)
  (ht:∀H0 G0 par br bx C ex s3 H3 pn,(∀j,HQ own ixs Lc j=true->br j=false)->DW (jq X NB scope C ex s3 H3 pn) ifs (qT (Γ.jq H0 G0 par br bx) E0 ft Lt))
  (he:∀H0 G0 par br bx C ex s3 H3 pn,(∀j,HQ own ixs Lc j=true->br j=false)->SE (jq X NB scope C ex s3 H3 pn) (Γ.jq H0 G0 par br bx) E0 elt fe Le .v)
  (hN:X.N.Nodup) (hy:X.N[i]? =some y:=by rfl) (hl:X.env.scope.names.lookup y=some .local:=by rfl)
  (hsw:swapsWith (.ListComp elt [⟨tg,iter,ifs,0⟩] scope pos) (some (.Name y py)) spos.line X.env=pure true:=by rfl)
  (hs:∀x,foldedSetIterable iter X.env x=pure x:=by intro _;rfl) :
  SS X Γ E (.Assign [.Name y py] (.ListComp elt [⟨tg,iter,ifs,0⟩] scope pos) spos) (bg i (Li ++ Lc) (aK own ixs t fi ft fe)):=by
 refine PS.post (CA (g:=gU Γ t) (tt:=tU Γ own ixs Lc ft Lt) (te:=eU Γ own ixs Lc fe Le) hc S hi (bU hg) (λC ex s3 H3 pn=>?_) (λC ex s3 H3 pn=>?_) hN hy hl hsw hs) λN σ H ⟨env,G,B,β,I,o⟩=>?_
 ·rintro pins s σ H Q I ⟨H0,G0,par,br,bx,b,q⟩
  exact ht H0 G0 par br bx C ex s3 H3 pn b pins s σ H Q I q
 ·rintro pins s σ H Q I ⟨H0,G0,par,br,bx,b,q⟩
  exact he H0 G0 par br bx C ex s3 H3 pn b pins s σ H Q I q
 refine HJ hLc ⟨env,G,B,β,I,cS o λd β' k v G' H' I' s' m' vo=>?_⟩
 obtain⟨G2,I2,s2,r⟩:=I.letW I' vo
 exact k B G2 H' _ (I2.set' i r) (s'.trans s2)
end
def fin:SO->FR
 | .nx _ _=>.ok .none false
 | .rt d fr _=>.ok d fr
 | .exc c=>.exc c
 |_=>.bad
def yI (n:Nat)(ds:List D):En:=ds.map Sl.fz ++ List.replicate (n - ds.length) .no
def aR (n p:Nat)(m:SF):List D->FR:=λds=>if ds.length=p then fin (m (yI n ds) 0) else .bad
abbrev Fx.fn (K:Frag)(H G:Hp)(ca:Str->Addr):Fx:=⟨K,H,G,[],ca,λ_=>false,none⟩
def SR.start {K:Frag}{H G:Hp}{ca:Str->Addr}{N:List Str}{vs:List V}{ds:List D}(s:av G H)(r:cx K G vs ds)(hn:ds.length<=N.length):SR (Fx.fn K H G ca) none G H (start N vs) (yI N.length ds) 0:=by
 have hl:=r.len
 refine⟨s,av.refl _,λb _ h=>h,λb o h _=>Kt.of h,λb h=>(by cases h),λb h=>(by cases h),λb h=>(by cases h),?_,λi t e=>?_,λi j a d e h=>?_⟩
 ·unfold L2.start yI;simp;omega
 ·unfold yI at e
  by_cases hi:i < ds.length
  ·rw[Pg (by simpa using hi),OW,OJ hi] at e
   cases e
   obtain⟨x,hx,rx⟩:=r.at (OJ hi)
   refine⟨x,?_,rx⟩
   unfold L2.start
   rw[Pg (by simpa[hl] using hi),OW,hx];rfl
  ·rw[Pj (by simpa using hi),P6] at e
   split at e
   ·cases e;trivial
   ·cases e
 ·unfold yI at h
  have hm:=Pb h
  rcases O4.mp hm with z |z
  ·obtain⟨_,_,z⟩:=Pp.mp z;cases z
  ·have:=Qm z;cases this
section
variable {P:Program}{w:World}{K:Frag}{mg:Str->Option Value}{base:Heap}{ca:Str->Addr}
def aQ {x qual:Str}{st:Stmt}{f:Addr}{fd:FuncData}{N ps:List Str}{k:Nat}{m:SF}(F:B4 K x qual st f fd)(S:aH N ps (ar st))
  (hbody:∀(cdv:Value) (A:Around) (outer:List Env) (s:Shared) (H G:Hp) (E:XK),dW k (A.deeper (envOfC qual (ar st) s.heap.objs.size f cdv))->El (lD (l4 P w) P w K mg base N qual (ar st) f cdv A outer s H E) (Fx.fn K H G ca) E (cZ st) m) :
  fA P w K mg base (l4 P w) (k + 1) f fd ps (EB K ca ps.length (aR N.length ps.length m)):=by
 have hpn:ps.length<=N.length:=by have:=congrArg List.length S.pre;rw[PZ] at this;omega
 refine F.zC S (λvs H Q E h=>?_) (λcdv A outer s H vs Q E hr h=>?_)
 ·obtain⟨G,ds,sG,hl,r,_⟩:=h
  rw[r.len];exact hl
 ·obtain⟨G,ds,sG,hl,r,h⟩:=h
  refine⟨_,hbody cdv A outer s H G E hr,?_⟩
  have I:=SR.start (ca:=ca) (N:=N) sG r (by omega)
  refine⟨_,G,none,0,I,?_⟩
  unfold aR at h
  rw[OO hl] at h
  have fin':∀{B G' H' σ env β},SR (Fx.fn K H G ca) B G' H' σ env β->av H H':=λJ b o e=>J.keep b o e (λz=>by cases z)
  cases q:m (yI N.length ds) 0 with
  |nx env β=>rw[q] at h;exact λB G' H' σ J s'=>h .non G' H' (fin' J) s' J.sub (λb h1 h2=>J.new b h1 h2) Rp.non
  |bk env β=>rw[q] at h;exact h.elim
  |ct env β=>rw[q] at h;exact h.elim
  |rt d fr β=>
   rw[q] at h
   refine λB G' H' σ env v J s' rv=>h v G' H' (fin' J) s' J.sub (λb h1 h2=>J.new b h1 h2) ?_
   cases fr with
   |true=>exact rv
   |false=>exact rv
  |exc c=>rw[q] at h;exact λH' kp=>h H' λb o e=>kp b o e (λz=>by cases z)
  |bad=>rw[q] at h;exact h.elim
def Dc {f:Addr}{fd:FuncData}{ps:List Str}{k:Nat}:fA P w K mg base (l4 P w) k f fd ps (EB K ca ps.length λ_=>.bad):=
 ⟨λvs H Q E h=>by obtain⟨_,_,_,_,_,h⟩:=h;exact h.elim,λA outer s H args us vs Q E _ _ _ _ h=>by obtain⟨_,_,_,_,_,h⟩:=h;exact h.elim⟩
def Fj {n:Nat}{F F':List D->FR}(h:∀ds,ds.length=n->F' ds≠.bad->F ds=F' ds){vs:List V}{H:Hp}{Q:VK}{E:XK}(q:EB K ca n F' vs H Q E):EB K ca n F vs H Q E:=by
 obtain⟨G,ds,s,hl,r,q⟩:=q
 refine⟨G,ds,s,hl,r,?_⟩
 by_cases hb:F' ds=.bad
 ·rw[hb] at q;exact q.elim
 ·rw[h ds hl hb];exact q
def bM.imp {x:Str}{ps:List Str}{k:Nat}{F F':List D->FR}(h:bM P w K mg base ca x ps k F)(i:∀ds,F' ds≠.bad->F ds=F' ds):bM P w K mg base ca x ps k F':=by
 obtain⟨f,fd,a,b,c,d⟩:=h.ex
 exact⟨⟨f,fd,a,b,c,d.imp λvs H Q E q=>Fj (λds _=>i ds) q⟩,λds hn=>h.len ds (by rw[i ds hn];exact hn)⟩
def aI {n p:Nat}{m:SF}(ds:List D)(h:aR n p m ds≠.bad):ds.length=p:=by
 unfold aR at h
 by_cases hl:ds.length=p
 ·exact hl
 ·rw[OV hl] at h;exact absurd rfl h
def qj {N:List Str}{qual:Str}{scope:Scope}{f:Addr}{cd:Value}{A:Around}{outer:List Env}{s0:Shared}{H0:Hp}{E:XK}{Γ:Fx}{x:Str}{C:Addr}{np cpos pos:Pos}{e0:Expr}{es:List Expr}{fr:VF (List D)}{L:List Nat}(q:PySem.W.excIn K C [.type "ValueError",.type "Exception",.type "BaseException",.type "object"] "ValueError.__new__"=true)(hca:Γ.ca x=C)
  (hg:Gl (lD (l4 P w) P w K mg base N qual scope f cd A outer s0 H0 E) x) (hm:mg x=some (.ref C)) (ha:SA (lD (l4 P w) P w K mg base N qual scope f cd A outer s0 H0 E) Γ E (e0 :: es) fr L)
  (he:starEach (e0 :: es) (envOfC qual scope s0.heap.objs.size f cd)=(false,eval e0 (envOfC qual scope s0.heap.objs.size f cd)) :: starEach es (envOfC qual scope s0.heap.objs.size f cd):=by rfl)
  (hpl:(backTo cpos (starEach es (envOfC qual scope s0.heap.objs.size f cd))).any (·.1)=false:=by rfl) (hdb:(x == ("__debug__":Str))=false:=by decide) :
  SS (lD (l4 P w) P w K mg base N qual scope f cd A outer s0 H0 E) Γ E (.Raise (some (.Call (.Name x np) (e0 :: es) [] cpos)) none pos) (λenv β=>toS (fr (vl env) β) λds _=>if ds.length<=sizeLine then .exc x else .bad):=by
 refine PS.post (Dr PySem.F.excBase_ValueError (by decide +kernel) q hg hm ha he hpl hdb) λD σ H ⟨env,G,B,β,I,o⟩=>?_
 refine⟨env,G,B,β,I,cS o λds β' k vs G' H' I' s' m' r=>?_⟩
 by_cases hz:ds.length<=sizeLine
 ·rw[OO hz] at k
  refine⟨by rw[r.len];exact hz,?_⟩
  have:=k H' (I'.kp (av.refl _))
  rw[hca] at this
  exact this
 ·rw[OV hz] at k;exact k.elim
end
section
variable {X:Cx}{Γ:Fx}{E:XK}{e a b c:Expr}{f fa fb:VF D}{L La Lb:List Nat}{md ma mb:Md}{pos apos cpos np:Pos}
def rb:Option Sl->Bool
 |some (.ow (.list _))=>true
 |_=>false
theorem nM {o:Option Sl}(h:rb o=true):∃ds,o=some (.ow (.list ds)):=by
 cases o with
 |none=>cases h
 |some s=>
  cases s with
  |ow d=>cases d with
   |list ds=>exact⟨ds,rfl⟩
   |_=>cases h
  |_=>cases h
def HU (i:Nat)(env:En)(β:Int)(g:List D->Option (List D)):SO:=match env[i]? with
 |some (.ow (.list ds))=>(match g ds with
  |some es=>.nx (env.set i (.ow (.list es))) β
  |none=>.bad)
 |_=>.bad
def lF (i:Nat)(L:List Nat)(f:VF D):SF:=λenv β=>if rb env[i]? =true then toS (f (vl env) β) λd β'=>HU i (a9 L env) β' λds=>if ds.length < sizeLine then some (ds ++ [d]) else none else .bad
def p6 {Γ:Fx}{E:XK}{G:Hp}{N:Ends}{i:Nat}{env:En}{β:Int}{g:List D->Option (List D)}(h:rZ Γ E G N (HU i env β g)):∃ds es,env[i]? =some (.ow (.list ds))/\g ds=some es/\rZ Γ E G N (.nx (env.set i (.ow (.list es))) β):=by
 unfold HU at h
 split at h
 ·rename_i ds q
  cases e:g ds with
  |none=>rw[e] at h;exact h.elim
  |some es=>rw[e] at h;exact⟨ds,es,q,e,h⟩
 ·exact h.elim
def gC (i:Nat){x:Str}(hb:∀j,Γ.br j=false)(he:SE X Γ E e f L .v)(hN:X.N[i]? =some x:=by rfl)(hv:zJ X.env.scope x:=by first |exact Or.inl rfl |exact Or.inr (Or.inl rfl) |exact Or.inr (Or.inr rfl))(hd:(x == ("__debug__":Str))=false:=by decide)
  (hcd:(x == ("__classdict__":Str))=false:=by decide)
  (hbase:attributeBase (.Name x np) "append" X.env (eval (.Name x np) X.env)=eval (.Name x np) X.env:=by rfl)
  (hfew:((backTo cpos (starEach [e] X.env)).all (λx=> !x.1) && (backToKw cpos (keywordEach [] X.env)).all (λx=>x.1.isSome)
   && decide ([e].length + ([]:List Keyword).length + (if ([]:List Keyword).isEmpty then 0 else 1) < 30))=true:=by rfl)
  (hline:(apos.endLine == cpos.line)=true:=by rfl) (hs:starEach [e] X.env=(false,eval e X.env) :: starEach [] X.env:=by rfl)
  (hsw:swapsWith (.Call (.Attribute (.Name x np) "append" apos) [e] [] cpos) none pos.line X.env=pure false:=by rfl) :
  SS X Γ E (.Expr (.Call (.Attribute (.Name x np) "append" apos) [e] [] cpos) pos) (lF i L f):=by
 refine PS.post (pZ (zx QN PySem.F.slot_list_append PySem.F.type_list_append o5 (jQ hN hv hd hcd) (a8 he bV hs) hbase hfew hline hs rfl) hsw) λN σ H ⟨env,G,B,β,I,o⟩=>?_
 unfold lF at o
 by_cases hO:rb env[i]? =true
 case neg=>rw[OV hO] at o;exact o.elim
 rw[OO hO] at o
 obtain⟨ds0,q0⟩:=nM hO
 obtain⟨p,h1,_,_,_,xs,h5,_⟩:=I.slot i _ q0
 refine⟨_,h1,.inl ⟨rfl,xs,.inl (.inl h5)⟩,?_⟩
 refine⟨env,G,B,β,I,cS o λd β' k v G' H' I' s' m' vo=>?_⟩
 obtain⟨ds,es,q,eg,k⟩:=p6 k
 by_cases hz:ds.length < sizeLine
 case neg=>rw[OV hz] at eg;cases eg
 rw[OO hz] at eg
 cases eg
 obtain⟨p',g1,_,_,_,ys,g5,g6⟩:=I'.slot i _ q
 rw[h1] at g1;cases g1
 refine⟨p,ys,v,rfl,rfl,g5,by rw[g6.len];exact hz,?_⟩
 exact k B G' _ σ (I'.write hb q h1 λH2 e2 s2=>⟨_,e2,g6.snoc vo⟩) s'
def Ks:V->List V->Hp->VK->Prop:=λx vs H Q=>∃l b xs zs,x=.ref l/\vs= [.ref b]/\H l=some (.lst xs)/\Rd H b (.lst zs)/\xs.length + zs.length<=sizeLine/\Q .non (upd H l (.lst (xs ++ zs)))
def Inv.lstR {pins:List (Addr×Obj)}{σ:St}{H:Hp}{s:Shared}{l:Addr}{xs:List V}(I:Inv X pins σ H s)(hH:Rd H l (.lst xs)):xs.length<=sizeLine/\∃(its:List Value) (n:Nat),Vals xs its/\xs.length=its.length/\s.heap.get? l=some {cls:=.type "list",data:=.seq its.toArray n}:=by
 obtain⟨z,its,n,r,e⟩:=hH.ok I.hok
 exact⟨z,its,n,r,r.length,e⟩
def Gn:Mc X "list.extend" Ks:=by
 intro pins s σ H x vs v us Q I rx rv h
 obtain⟨l,b,xs,zs,rfl,rfl,hH,hB,hz,q⟩:=h
 cases rx
 obtain⟨u,rfl,ru⟩:=rv.one
 cases ru
 obtain⟨z,its,n,r,hl,e⟩:=I.lstM hH
 obtain⟨z2,its2,n2,r2,hl2,e2⟩:=I.lstR hB
 have hsz:its.toArray.size + its2.toArray.size<=sizeLine:=by rw[O1,O1];omega
 have hlong:¬(!its.toArray.isEmpty && Builtin.List.listTooLong (its.toArray.size + its2.toArray.size))=true:=by
  rw[xR hsz,Bool.and_false]
  exact O8
 refine call_meets F.slot_list_extend ⟨_,e,rfl⟩ F.entry_list_extend (F.args_list_extend_2 _ _)
  (AutoSeq1.list_extend_list_list_0 l its.toArray n b its2.toArray n2 hlong (by rw[O1];omega) (by omega)) ⟨e,e2,?_⟩
 refine⟨.non,_,I.lset (its':=its ++ its2) hH e (by simp) (r.append r2) ?_,rfl,q⟩
 rw[OX]
 omega
def A4 (i:Nat)(L:List Nat)(f:VF D):SF:=λenv β=>if rb env[i]? =true then toS (f (vl env) β) λd β'=>HU i (a9 L env) β' λds=>match d with
 | .list es=>if ds.length + es.length<=sizeLine then some (ds ++ es) else none
 |_=>none else .bad
theorem AG (i:Nat){x:Str}(hb:∀j,Γ.br j=false)(he:SE X Γ E e f L md)(hN:X.N[i]? =some x:=by rfl)(hv:zJ X.env.scope x:=by first |exact Or.inl rfl |exact Or.inr (Or.inl rfl) |exact Or.inr (Or.inr rfl))(hd:(x == ("__debug__":Str))=false:=by decide)
  (hcd:(x == ("__classdict__":Str))=false:=by decide)
  (hbase:attributeBase (.Name x np) "extend" X.env (eval (.Name x np) X.env)=eval (.Name x np) X.env:=by rfl)
  (hfew:((backTo cpos (starEach [e] X.env)).all (λx=> !x.1) && (backToKw cpos (keywordEach [] X.env)).all (λx=>x.1.isSome)
   && decide ([e].length + ([]:List Keyword).length + (if ([]:List Keyword).isEmpty then 0 else 1) < 30))=true:=by rfl)
  (hline:(apos.endLine == cpos.line)=true:=by rfl) (hs:starEach [e] X.env=(false,eval e X.env) :: starEach [] X.env:=by rfl)
  (hsw:swapsWith (.Call (.Attribute (.Name x np) "extend" apos) [e] [] cpos) none pos.line X.env=pure false:=by rfl) :
  SS X Γ E (.Expr (.Call (.Attribute (.Name x np) "extend" apos) [e] [] cpos) pos) (A4 i L f):=by
 refine PS.post (pZ (zx QN PySem.F.slot_list_extend PySem.F.type_list_extend Gn (jQ hN hv hd hcd) (a8 he bV hs) hbase hfew hline hs rfl) hsw) λN σ H ⟨env,G,B,β,I,o⟩=>?_
 unfold A4 at o
 by_cases hO:rb env[i]? =true
 case neg=>rw[OV hO] at o;exact o.elim
 rw[OO hO] at o
 obtain⟨ds0,q0⟩:=nM hO
 obtain⟨p,h1,_,_,_,xs,h5,_⟩:=I.slot i _ q0
 refine⟨_,h1,.inl ⟨rfl,xs,.inl (.inl h5)⟩,?_⟩
 refine⟨env,G,B,β,I,cS o λd β' k v G' H' I' s' m' vo=>?_⟩
 obtain⟨ds,es,q,eg,k⟩:=p6 k
 cases d with
 |list fs=>
  dsimp only at eg
  by_cases hz:ds.length + fs.length<=sizeLine
  case neg=>rw[OV hz] at eg;cases eg
  rw[OO hz] at eg
  cases eg
  obtain⟨p',g1,_,_,_,ys,g5,g6⟩:=I'.slot i _ q
  rw[h1] at g1;cases g1
  obtain⟨pb,zs,rfl,hq,rz⟩:=(vo.brw I.boxThere).list I'.sub
  refine⟨p,pb,ys,zs,rfl,rfl,g5,hq,by rw[g6.len,rz.len];exact hz,?_⟩
  exact k B G' _ σ (I'.write hb q h1 λH2 e2 s2=>⟨_,e2,g6.append rz⟩) s'
 |_=>cases eg
def n5 (i:Nat)(Le Li:List Nat)(fe fi:VF D):SF:=λenv β=>toS (fe (vl env) β) λd β1=>if rb (a9 Le env)[i]? =true then toS (fi (vl env) β1) λk β2=>HU i (a9 (Le ++ Li) env) β2 λds=>match k with
 | .int j=>(tD ds.length j).map λn=>ds.set n d
 |_=>none else .bad
theorem vd (i:Nat){x:Str}{spos:Pos}(hb:∀j,Γ.br j=false)(he:SE X Γ E e f La .v)(hi:SE X Γ E a fa Lb mb)(hN:X.N[i]? =some x:=by rfl)(hv:zJ X.env.scope x:=by first |exact Or.inl rfl |exact Or.inr (Or.inl rfl) |exact Or.inr (Or.inr rfl))(hd:(x == ("__debug__":Str))=false:=by decide)
  (hcd:(x == ("__classdict__":Str))=false:=by decide)
  (hA:∀v,assign (.Subscript (.Name x np) a spos) X.env v=(do
   let ov <-holding [v] (eval (.Name x np) X.env)
   let iv <-holding [v,ov] (eval a X.env)
   standAt spos
   holding [v,ov,iv] (setItem ov iv v)
   release [v,ov,iv] []):=by intro _;rfl)
  (hs:swapsWithSole [.Subscript (.Name x np) a spos] e pos.line X.env=pure false:=by rfl) (hw:swappedStores [.Subscript (.Name x np) a spos] e X.env=pure none:=by rfl)
  (h1:(assignEach [.Subscript (.Name x np) a spos] X.env).map (·.2)= [assign (.Subscript (.Name x np) a spos) X.env]:=by rfl) :
  SS X Γ E (.Assign [.Subscript (.Name x np) a spos] e pos) (n5 i La Lb f fa):=by
 refine PS.post (rg he (uM (jQ hN hv hd hcd) hi set_list hA) hs hw h1) λN σ H ⟨env,G,B,β,I,o⟩=>?_
 refine⟨env,G,B,β,I,cS o λd β1 o v G1 H1 I1 s1 m1 vo=>?_⟩
 by_cases hO:rb (a9 La env)[i]? =true
 case neg=>rw[OV hO] at o;exact o.elim
 rw[OO hO] at o
 obtain⟨ds0,q0⟩:=nM hO
 obtain⟨p,h1,_,_,_,xs,h5,_⟩:=I1.slot i _ q0
 refine⟨_,h1,a9 La env,G1,B,β1,I1,?_⟩
 rw[dH]
 refine cS o λk β2 o w G2 H2 I2 s2 m2 vi=>?_
 rw[<-cq] at I2
 obtain⟨ds,es,q,eg,o⟩:=p6 o
 cases k with
 |int j=>
  dsimp only at eg
  obtain rfl:=(vi.brw I1.boxThere).int
  obtain⟨p',g1,_,_,_,ys,g5,g6⟩:=I2.slot i _ q
  rw[h1] at g1;cases g1
  cases en:tD ds.length j with
  |none=>rw[en] at eg;cases eg
  |some n=>
   rw[en] at eg
   cases eg
   have vo:Rp Γ.K G1 v d:=vo
   refine⟨p,ys,j,n,rfl,rfl,g5,by rw[g6.len];exact en,?_⟩
   exact o B G2 _ σ (I2.write hb q h1 λH3 e3 s3=>⟨_,e3,g6.set (vo.mono s2) n⟩) (s1.trans s2)
 |_=>cases eg
end
section
variable {K:Frag}{X:Cx}
def pA {g:Int->Int->V}{gd:D->D->Option D}(h:∀dx dy d,gd dx dy=some d->∃i j,dx=.int i/\dy=.int j/\∀G,Rp K G (g i j) d):nN K (vV g) gd .v:=by
 intro B G H x y dx dy d Q s hB bx by' e k
 obtain⟨i,j,rfl,rfl,r⟩:=h _ _ _ e
 obtain rfl:=bx.int
 obtain rfl:=by'.int
 exact⟨i,j,rfl,rfl,k _ G H (Ext.refl s) (r G)⟩
def zQ {C:Int->Int->Prop}{g:Int->Int->V}{gd:D->D->Option D}(h:∀dx dy d,gd dx dy=some d->∃i j,dx=.int i/\dy=.int j/\C i j/\∀G,Rp K G (g i j) d):nN K (rI C g) gd .v:=by
 intro B G H x y dx dy d Q s hB bx by' e k
 obtain⟨i,j,rfl,rfl,c,r⟩:=h _ _ _ e
 obtain rfl:=bx.int
 obtain rfl:=by'.int
 exact⟨i,j,rfl,rfl,c,k _ G H (Ext.refl s) (r G)⟩
def gI (c:Int->Int->Bool)(g:Int->Int->D):D->D->Option D
 | .int i,.int j=>if c i j=true then some (g i j) else none
 |_,_=>none
def v5 (g:Int->Int->D):D->D->Option D
 | .int i,.int j=>some (g i j)
 |_,_=>none
def zR {c:Int->Int->Bool}{g:Int->Int->D}{dx dy d:D}(h:gI c g dx dy=some d):∃i j,dx=.int i/\dy=.int j/\c i j=true/\d=g i j:=by
 unfold gI at h
 split at h
 ·split at h
  ·cases h;exact⟨_,_,rfl,rfl,by assumption,rfl⟩
  ·cases h
 ·cases h
def jT {g:Int->Int->D}{dx dy d:D}(h:v5 g dx dy=some d):∃i j,dx=.int i/\dy=.int j/\d=g i j:=by
 unfold v5 at h
 split at h
 ·cases h;exact⟨_,_,rfl,rfl,rfl⟩
 ·cases h
def ua:D->D->Option D:=v5 λi j=>.int (i - j)
def CZ:nN K (vV λi j=>.int (i - j)) ua .v:=pA λdx dy d h=>by obtain⟨i,j,rfl,rfl,rfl⟩:=jT h;exact⟨i,j,rfl,rfl,λ_=>.int _⟩
def JH:D->D->Option D:=gI (λ_ j=>decide (0 < j) && decide (j < 1073741824)) λi j=>.int (i / j)
def LL:nN K (rI FN λi j=>.int (i / j)) JH .v:=zQ λdx dy d h=>by obtain⟨i,j,rfl,rfl,c,rfl⟩:=zR h;exact⟨i,j,rfl,rfl,by simpa[FN] using c,λ_=>.int _⟩
def lE:D->D->Option D:=gI (λ_ j=>decide (0 < j)) λi j=>.int (i % j)
def ug:nN K (rI (λ_ j=>0 < j) λi j=>.int (i % j)) lE .v:=zQ λdx dy d h=>by obtain⟨i,j,rfl,rfl,c,rfl⟩:=zR h;exact⟨i,j,rfl,rfl,by simpa using c,λ_=>.int _⟩
def IA (i j:Int):Bool:=decide (0<=j) && decide (j<=1000000) && decide (i.natAbs < 2 ^ 64)
def FT {i j:Int}(h:IA i j=true):Kc i j:=by
 unfold IA at h
 simp only[O2,O5] at h
 exact⟨h.1.1,h.1.2,h.2⟩
def yT:D->D->Option D:=gI IA λi j=>.int (i * 2 ^ j.toNat)
def HR:nN K (rI Kc λi j=>.int (i * 2 ^ j.toNat)) yT .v:=zQ λdx dy d h=>by obtain⟨i,j,rfl,rfl,c,rfl⟩:=zR h;exact⟨i,j,rfl,rfl,FT c,λ_=>.int _⟩
def Eb:D->D->Option D:=v5 λi j=>.int (Builtin.bitAnd i j)
def Mh:nN K (vV λi j=>.int (Builtin.bitAnd i j)) Eb .v:=pA λdx dy d h=>by obtain⟨i,j,rfl,rfl,rfl⟩:=jT h;exact⟨i,j,rfl,rfl,λ_=>.int _⟩
def Mp:D->D->Option D:=v5 λi j=>.int (Builtin.bitOr i j)
def LV:nN K (vV λi j=>.int (Builtin.bitOr i j)) Mp .v:=pA λdx dy d h=>by obtain⟨i,j,rfl,rfl,rfl⟩:=jT h;exact⟨i,j,rfl,rfl,λ_=>.int _⟩
def pY:D->D->Option D:=v5 λi j=>.bool (decide (i < j))
def Dx:D->D->Option D:=v5 λi j=>.bool (decide (i<=j))
def N5:D->D->Option D:=v5 λi j=>.bool (decide (j < i))
def Nu:D->D->Option D:=v5 λi j=>.bool (decide (j<=i))
def Bl:nN K (vV λi j=>.bl (decide (i < j))) pY .v:=pA λdx dy d h=>by obtain⟨i,j,rfl,rfl,rfl⟩:=jT h;exact⟨i,j,rfl,rfl,λ_=>.bl _⟩
def IG:nN K (vV λi j=>.bl (decide (i<=j))) Dx .v:=pA λdx dy d h=>by obtain⟨i,j,rfl,rfl,rfl⟩:=jT h;exact⟨i,j,rfl,rfl,λ_=>.bl _⟩
def Ng:nN K (vV λi j=>.bl (decide (j < i))) N5 .v:=pA λdx dy d h=>by obtain⟨i,j,rfl,rfl,rfl⟩:=jT h;exact⟨i,j,rfl,rfl,λ_=>.bl _⟩
def Nk:nN K (vV λi j=>.bl (decide (j<=i))) Nu .v:=pA λdx dy d h=>by obtain⟨i,j,rfl,rfl,rfl⟩:=jT h;exact⟨i,j,rfl,rfl,λ_=>.bl _⟩
mutual
theorem z5:∀d:D,d.canLay0=true->Dh d=true
 | .none,_=>rfl
 | .bool _,_=>rfl
 | .int _,_=>rfl
 | .str _,_=>rfl
 | .list ds,h=>by simp only[PyData.canLay0] at h;simp only[Dh];exact qP ds h
 | .tuple ds,h=>by simp only[PyData.canLay0] at h;simp only[Dh];exact qP ds h
 | .dict _,h=>by simp[PyData.canLay0] at h
theorem qP:∀ds:List D,PyData.canLayAll0 ds=true->si ds=true
 | [],_=>rfl
 |d :: ds,h=>by
  simp only[PyData.canLayAll0,O2] at h
  simp only[si,O2]
  exact⟨z5 d h.1,qP ds h.2⟩
end
def uF {d:D}(h:SeqAt.shaped d=true):Dh d=true:=z5 d (Qt h)
theorem zY:∀{ds:List D},(ds.all SeqAt.shaped)=true->si ds=true
 | [],_=>rfl
 |d :: ds,h=>by
  rw[all_cons,O2] at h
  simp only[si,O2]
  exact⟨uF h.1,zY h.2⟩
def eh (neg:Bool)(x y:D):Option D:=if (SeqAt.shaped x && SeqAt.shaped y)=true then some (.bool (if neg then !PyData.eqv x y else PyData.eqv x y)) else none
def gz {neg:Bool}:nN K (HX K neg) (eh neg) .v:=by
 intro B G H x y dx dy d Q s hB bx by' e k
 unfold eh at e
 split at e
 ·rename_i h
  rw[O2] at h
  cases e
  exact⟨dx,dy,(bx.rpH s).rep (uF h.1),(by'.rpH s).rep (uF h.2),h.1,h.2,k _ G H (Ext.refl s) (.bl _)⟩
 ·cases e
def lW (neg:Bool)(x y:D):Option D:=match lH y with
 |some ds=>if (SeqAt.shaped x && ds.all SeqAt.shaped)=true then some (.bool (if neg then !(ds.any λe=>PyData.eqv e x) else ds.any λe=>PyData.eqv e x)) else none
 |none=>none
theorem mj.seq {B:Option Addr}{G H:Hp}{v:V}{d:D}{ds:List D}(h:mj K B G H v d)(e:lH d=some ds)(s:av G H):∃a xs,v=.ref a/\(iF K H a xs\/gA K H a xs)/\cx K G xs ds:=by
 cases d with
 |list l=>cases e;obtain⟨a,xs,e,q,r⟩:=h.list s;exact⟨a,xs,e,.inl (.inl q),r⟩
 |tuple l=>cases e;obtain⟨a,xs,e,q,r⟩:=h.tuple s;exact⟨a,xs,e,.inr q,r⟩
 |_=>cases e
theorem sf {neg:Bool}:nN K (I0 K neg) (lW neg) .v:=by
 intro B G H x y dx dy d Q s hB bx by' e k
 unfold lW at e
 cases q:lH dy with
 |none=>rw[q] at e;cases e
 |some ds=>
  rw[q] at e
  dsimp only at e
  split at e
  ·rename_i h
   rw[O2] at h
   cases e
   obtain⟨a,xs,rfl,hq,r⟩:=by'.seq q s
   refine⟨a,xs,dx,ds,rfl,hq,(r.mono s).reps (zY h.2),(bx.rpH s).rep (uF h.1),h.1,λe he=>O9.mp h.2 e he,k _ G H (Ext.refl s) (.bl _)⟩
  ·cases e
def Bq:D->Bool
 | .none=>true
 |_=>false
theorem cx.ints {G:Hp}:∀ns:List Int,cx K G (ns.map V.int) (ns.map int)
 | []=>.nil
 |n :: ns=>.cons (.int n) (cx.ints ns)
theorem B6.noNone {G:Hp}{kvs:List (Key×V)}{d:D}{r:List (D×D)}(h:B6 K G kvs ((.none,d) :: r)):False:=by
 generalize e:(PyData.none,d) :: r=l at h
 cases h with
 |nil=>cases e
 | @cons k x xs d' ds _ _=>
  injection e with e1 _
  injection e1 with e2 _
  cases k <;> cases e2
theorem B7.noNone {G:Hp}{kvs:List (List Key×V)}{d:D}{r:List (D×D)}(h:B7 K G kvs ((.none,d) :: r)):False:=by
 generalize e:(PyData.none,d) :: r=l at h
 cases h with
 |nil=>cases e
 | @cons k x xs d' ds _ _=>
  injection e with e1 _
  injection e1 with e2 _
  cases e2
def mj.scr {B:Option Addr}{G H:Hp}{v:V}{ds:List D}(h:mj K B G H v (.dict [(.none,.list ds)]))(s:av G H):∃a xs,v=.ref a/\iF K H a xs/\cx K G xs ds:=by
 rcases h with h | ⟨a,rfl,n,h⟩
 ·cases h with
  | @scr a ns q=>exact⟨a,_,rfl,s.seq q,cx.ints ns⟩
  |dK _ r=>exact r.noNone.elim
  |dT _ r=>exact r.noNone.elim
 ·rcases h with⟨_,_,r⟩ | ⟨_,_,r⟩
  ·exact r.noNone.elim
  ·exact r.noNone.elim
def bh:D->D->Option D
 | .list ds,.int i=>ki ds i
 | .tuple ds,.int i=>ki ds i
 | .str z,.int i=>if z.length<=sizeLine then (ki z.cps.toList i).map λc=>.str ⟨#[c]⟩ else none
 | .dict [(.none,.list ds)],.int i=>ki ds i
 |_,_=>none
theorem ve {G:Hp}{xs:List V}{ds:List D}{i:Int}{d:D}(r:cx K G xs ds)(h:ki ds i=some d):∃x,ki xs i=some x/\Rp K G x d:=by
 unfold ki at h ⊢
 rw[r.len]
 cases e:tD ds.length i with
 |none=>rw[e] at h;cases h
 |some j=>rw[e] at h;exact r.at h
theorem bu:nN K (Og K) bh .v:=by
 intro B G H x y dx dy d Q s hB bx by' e k
 cases dx with
 |list ds=>
  cases dy with
  |int i=>
   obtain rfl:=by'.int
   obtain⟨a,xs,rfl,q,r⟩:=bx.list s
   obtain⟨v,ev,rv⟩:=ve r e
   exact .inl ⟨a,xs,i,v,rfl,rfl,.inl q,ev,k _ G H (Ext.refl s) rv⟩
  |_=>cases e
 |tuple ds=>
  cases dy with
  |int i=>
   obtain rfl:=by'.int
   obtain⟨a,xs,rfl,q,r⟩:=bx.tuple s
   obtain⟨v,ev,rv⟩:=ve r e
   exact .inr (.inl ⟨a,xs,i,v,rfl,rfl,q,ev,k _ G H (Ext.refl s) rv⟩)
  |_=>cases e
 |str z=>
  cases dy with
  |int i=>
   obtain rfl:=by'.int
   obtain rfl:=bx.str
   simp only[bh] at e
   split at e
   ·rename_i hz
    cases q:ki z.cps.toList i with
    |none=>rw[q] at e;cases e
    |some c=>rw[q] at e;cases e;exact .inr (.inr ⟨z,i,c,rfl,rfl,hz,q,k _ G H (Ext.refl s) (.str _)⟩)
   ·cases e
  |_=>cases e
 |none=>cases dy <;> cases e
 |bool b=>cases dy <;> cases e
 |int b=>cases dy <;> cases e
 |dict b=>
  obtain⟨ds,i,rfl,rfl,e⟩:∃ds i,b= [(.none,.list ds)]/\dy=.int i/\ki ds i=some d:=by
   unfold bh at e
   split at e
   ·contradiction
   ·contradiction
   ·contradiction
   ·rename_i h;cases h;exact⟨_,_,rfl,rfl,e⟩
   ·cases e
  obtain rfl:=by'.int
  obtain⟨a,xs,rfl,q,r⟩:=bx.scr s
  obtain⟨v,ev,rv⟩:=ve r e
  exact .inl ⟨a,xs,i,v,rfl,rfl,q,ev,k _ G H (Ext.refl s) rv⟩
def cP:D->Option D
 | .list ds=>some (.int ds.length)
 | .tuple ds=>some (.int ds.length)
 | .str z=>if z.length<=sizeLine then some (.int z.length) else none
 | .dict [(.none,.list ds)]=>some (.int ds.length)
 |_=>none
def M4 (K:Frag):List V->Hp->VK->Prop:=λxs H Q=>∃x n,xs= [x]/\KS K x H n/\Q (.int n) H
def iA:EH K (λx=>M4 K [x]) cP .v:=by
 intro B G H x dx d Q s hB bx e k
 unfold cP at e
 split at e
 ·cases e;obtain⟨a,xs,rfl,q,r⟩:=bx.list s;exact⟨_,_,rfl,.inl ⟨xs,.inl q,r.len.symm⟩,k _ G H (Ext.refl s) (.int _)⟩
 ·cases e;obtain⟨a,xs,rfl,q,r⟩:=bx.tuple s;exact⟨_,_,rfl,.inr ⟨xs,q,r.len.symm⟩,k _ G H (Ext.refl s) (.int _)⟩
 ·obtain rfl:=bx.str
  split at e
  ·rename_i hz;cases e;exact⟨_,_,rfl,⟨hz,rfl⟩,k _ G H (Ext.refl s) (.int _)⟩
  ·cases e
 ·cases e;obtain⟨a,xs,rfl,q,r⟩:=bx.scr s;exact⟨_,_,rfl,.inl ⟨xs,q,r.len.symm⟩,k _ G H (Ext.refl s) (.int _)⟩
 ·cases e
def lS:D->Option D
 | .list ds=>some (.tuple ds)
 | .tuple ds=>some (.tuple ds)
 |_=>none
theorem mE:EH K (λx H Q=>∃p ys,[x]= [.ref p]/\((iF K H p ys/\∀l,H l=none->Q (.ref l) (upd H l (.tup ys)))\/(gA K H p ys/\Q (.ref p) H))) lS .v:=by
 intro B G H x dx d Q s hB bx e k
 cases dx with
 |list ds=>
  cases e
  obtain⟨a,xs,rfl,q,r⟩:=bx.list s
  refine⟨a,xs,rfl,.inl ⟨.inl q,λl hl=>?_⟩⟩
  have x:=Ext.new s (o:=.tup xs) hl
  exact k _ _ _ x (.tup (.inl (.inl aE)) (r.mono x.gg))
 |tuple ds=>
  cases e
  rcases bx with bx | ⟨_,_,_,z⟩
  ·cases bx with
   | @tup a xs _ hq r=>exact⟨a,xs,rfl,.inr ⟨hq.grow s.grow,k _ G H (Ext.refl s) (.tup hq r)⟩⟩
  ·exact z.elim
 |_=>cases e
def Hs:D->Option D
 | .list ds=>some (.list ds)
 | .tuple ds=>some (.list ds)
 |_=>none
def Ic:EH K (λx H Q=>∃p ys,[x]= [.ref p]/\(iF K H p ys\/gA K H p ys)/\∀l,H l=none->Q (.ref l) (upd H l (.lst ys))) Hs .w:=by
 intro B G H x dx d Q s hB bx e k
 obtain⟨ds,e1,rfl⟩:∃ds,lH dx=some ds/\d=.list ds:=by
  cases dx <;> cases e <;> exact⟨_,rfl,rfl⟩
 obtain⟨a,xs,rfl,hq,r⟩:=bx.seq e1 s
 refine⟨a,xs,rfl,hq,λl hl=>?_⟩
 exact k _ _ _ (Ext.own s (o:=.lst xs) hl) ⟨l,rfl,hl,s.free hl,xs,aE,r⟩
def lU:List D->Option (List Bool)
 | []=>some []
 | .bool b :: ds=>(lU ds).map (b :: ·)
 |_=>none
theorem tS {G:Hp}:∀{ds:List D} {bs:List Bool} {xs:List V},lU ds=some bs->cx K G xs ds->xs=bs.map V.bl
 | [],bs,xs,e,r=>by cases e;cases r;rfl
 | .bool b :: ds,bs,xs,e,r=>by
  cases r with
  |cons r1 r2=>
   cases r1
   simp only[lU] at e
   cases q:lU ds with
   |none=>rw[q] at e;cases e
   |some cs=>rw[q] at e;cases e;rw[tS q r2];rfl
 | .none :: _,_,_,e,_=>by cases e
 | .int _ :: _,_,_,e,_=>by cases e
 | .str _ :: _,_,_,e,_=>by cases e
 | .list _ :: _,_,_,e,_=>by cases e
 | .tuple _ :: _,_,_,e,_=>by cases e
 | .dict _ :: _,_,_,e,_=>by cases e
def bo (f:List Bool->Bool):D->Option D
 | .list ds=>(lU ds).map λbs=>.bool (f bs)
 |_=>none
theorem fg {f:List Bool->Bool}:EH K (λx=>yn K f [x]) (bo f) .v:=by
 intro B G H x dx d Q s hB bx e k
 cases dx with
 |list ds=>
  simp only[bo] at e
  cases q:lU ds with
  |none=>rw[q] at e;cases e
  |some bs=>
   rw[q] at e
   cases e
   obtain⟨a,xs,rfl,hq,r⟩:=bx.list s
   obtain rfl:=tS q r
   exact⟨a,bs,rfl,.inl hq,k _ G H (Ext.refl s) (.bl _)⟩
 |_=>cases e
def Hr:R2:=λx y H Q=>∃l b xs zs,x=.ref l/\y=.ref b/\Rd H l (.lst xs)/\Rd H b (.lst zs)/\xs.length + zs.length<=sizeLine/\∀p,H p=none->Q (.ref p) (upd H p (.lst (xs ++ zs)))
def mq:mT X (binaryOp .Add) Hr:=by
 intro pins s σ H x y v u Q I rx ry h
 obtain⟨l,b,xs,zs,rfl,rfl,hH,hB,hz,q⟩:=h
 cases rx
 cases ry
 obtain⟨z,its,n,r,hl,e⟩:=I.lstR hH
 obtain⟨z2,its2,n2,r2,hl2,e2⟩:=I.lstR hB
 refine PySem.P.add_list e e2 ?_ (by rw[O1,O1];omega)
 have ea:its.toArray ++ its2.toArray=(its ++ its2).toArray:=by simp
 rw[ea]
 exact⟨.ref _,_,I.lnew (t':=s.toks) (r.append r2) (by rw[OX];omega),rfl,q _ I.fresh⟩
def l0:D->D->Option D
 | .list a,.list b=>if a.length + b.length<=sizeLine then some (.list (a ++ b)) else none
 |_,_=>none
def sV:nN K Hr l0 .w:=by
 intro B G H x y dx dy d Q s hB bx by' e k
 cases dx <;> cases dy <;> first | (cases e;done) |skip
 rename_i a b
 simp only[l0] at e
 split at e
 ·rename_i hz
  cases e
  obtain⟨p,xs,rfl,q1,r1⟩:=bx.list s
  obtain⟨p2,ys,rfl,q2,r2⟩:=by'.list s
  refine⟨p,p2,xs,ys,rfl,rfl,q1,q2,by rw[r1.len,r2.len];exact hz,λl hl=>?_⟩
  exact k _ _ _ (Ext.own s (o:=.lst (xs ++ ys)) hl) ⟨l,rfl,hl,s.free hl,_,aE,r1.append r2⟩
 ·cases e
def cJ:D->D->Option D:=v5 λi j=>.int (i + j)
def jX:nN K (vV λi j=>.int (i + j)) cJ .v:=pA λdx dy d h=>by obtain⟨i,j,rfl,rfl,rfl⟩:=jT h;exact⟨i,j,rfl,rfl,λ_=>.int _⟩
def dA:D->D->Option D:=gI (λi j=>(decide (-(2 ^ 64) < i) && decide (i < 2 ^ 64)) || (decide (-(2 ^ 64) < j) && decide (j < 2 ^ 64))) λi j=>.int (i * j)
def nh:nN K (rI Ei λi j=>.int (i * j)) dA .v:=zQ λdx dy d h=>by obtain⟨i,j,rfl,rfl,c,rfl⟩:=zR h;exact⟨i,j,rfl,rfl,by simpa[Ei] using c,λ_=>.int _⟩
def mU:D->D->Option D
 | .list a,.int k=>if -(2 ^ 63)<=k/\k < 2 ^ 63/\a.length * k.toNat<=sizeLine then some (.list (List.replicate k.toNat a).flatten) else none
 |_,_=>none
def uG {a b:Expr}{fa fb:VF D}{La Lb:List Nat}{mb:Md}{Γ:Fx}{E:XK}{pos:Pos}(ha:SE X Γ E a fa La .w)(hb:SE X Γ E b fb Lb mb):SE X Γ E (.BinOp a .Mult b pos) (f2 fa fb mU) (La ++ Lb) .w:=by
 refine PE.post' (tT CP ha hb) λσ H Q ⟨env,G,B,β,I,o⟩=>?_
 refine⟨env,G,B,β,I,o.bnd.imp λd1 β1 h x G1 H1 I1 s1 m1 vx=>⟨a9 La env,G1,B,β1,I1,?_⟩⟩
 rw[dH]
 refine h.bnd.imp λd2 β2 h y G2 H2 I2 s2 m2 vy=>?_
 obtain⟨d,e,k⟩:=h.of
 rw[<-cq] at I2
 obtain⟨p,rfl,p1,p2,p3⟩:=vx
 have by':=vy.brw I1.boxThere
 cases d1 <;> cases d2 <;> first | (cases e;done) |skip
 rename_i l j
 obtain rfl:=by'.int
 simp only[mU] at e
 split at e
 ·rename_i hz
  cases e
  obtain⟨xs,q,r⟩:=p3
  obtain⟨q1,q2,q3,q4⟩:=I.fresh p1
  have r2:=r.mono s2
  refine⟨p,j,xs,rfl,rfl,m2.1 _ _ q q3,hz.1,hz.2.1,by rw[r.len];exact hz.2.2,λl hl=>?_⟩
  have x:=Ext.own I2.sub (o:=.lst (List.replicate j.toNat xs).flatten) hl
  exact k _ _ _ (I2.ext x) ((s1.trans s2).trans x.gg) ((m1.trans m2).trans (x.hh.mov B)) ⟨l,rfl,fP (m1.trans m2) I2.boxThere hl,I2.sub.free hl,_,aE,r2.rep⟩
 ·cases e
def nQ:D->Option D
 | .int i=>some (.int (-i))
 |_=>none
theorem wu:EH K (rU λi=>.int (-i)) nQ .v:=by
 intro B G H x dx d Q s hB bx e k
 cases dx with
 |int i=>cases e;obtain rfl:=bx.int;exact⟨i,rfl,k _ G H (Ext.refl s) (.int _)⟩
 |_=>cases e
def K1:D->String
 | .none=>"NoneType"
 | .bool _=>"bool"
 | .int _=>"int"
 | .str _=>"str"
 | .list _=>"list"
 | .tuple _=>"tuple"
 | .dict _=>"dict"
def Cv (d:D)(T:String):Bool:=K1 d == T || (T == "int" && K1 d == "bool")
def dY:D->Bool
 | .dict ((.none,_) :: _)=>true
 |_=>false
def ib (T:String)(d:D):Option D:=if dY d=true then none else some (.bool (Cv d T))
def Oc (K:Frag)(H:Hp)(x:V)(t:String):Prop:=FW K H x t\/(t="dict"/\∃a kvs,x=.ref a/\H a=some (.dT kvs))
def KQ (K:Frag):List V->Hp->VK->Prop:=λxs H Q=>∃x T t b,xs= [x,.ty T]/\Oc K H x t/\PySem.W.kitOne K (.type t) (.type T)=some b/\Q (.bl b) H
def Dl:fU X (.builtin "isinstance") (KQ X.K):=by
 intro pins s σ H xs us Q I r h
 obtain⟨x,T,t,b,rfl,ty,e,q⟩:=h
 rcases ty with ty | ⟨rfl,a,kvs,rfl,hk⟩
 ·exact Df pins s σ H _ us Q I r ⟨x,T,t,b,rfl,ty,e,q⟩
 ·obtain⟨u,c,rfl,rx,rc⟩:=vals2 r
  cases rc
  cases rx
  obtain⟨_,_,_,_,o,_,_,e2,ex,_⟩:=I.hok a _ hk
  exact PQ PySem.W.kitx_dict I.kIn ⟨o,e2,ex.1⟩ e (λz=>nomatch z) λtk=>⟨.bl b,H,I.tok tk,rfl,q⟩
theorem mj.ty {B:Option Addr}{G H:Hp}{v:V}{d:D}(h:mj K B G H v d)(s:av G H)(n:dY d=false):Oc K H v (K1 d):=by
 cases d with
 |none=>obtain rfl:=h.none;exact .inl .non
 |bool b=>obtain rfl:=h.bool;exact .inl (.bl b)
 |int b=>obtain rfl:=h.int;exact .inl (.int b)
 |str b=>obtain rfl:=h.str;exact .inl (.str b)
 |list b=>obtain⟨a,xs,rfl,q,_⟩:=h.list s;exact .inl (.lst (.inl q))
 |tuple b=>obtain⟨a,xs,rfl,q,_⟩:=h.tuple s;exact .inl (.tup q)
 |dict b=>
  rcases h with h | ⟨a,rfl,_,h⟩
  ·cases h with
   |scr _=>cases n
   |dK q _=>exact .inl (.dic (s _ _ q))
   |dT q _=>exact .inr ⟨rfl,_,_,rfl,s _ _ q⟩
  ·rcases h with⟨_,q,_⟩ | ⟨_,q,_⟩
   ·exact .inl (.dic q)
   ·exact .inr ⟨rfl,_,_,rfl,q⟩
theorem L6 {d:D}{T:String}(hT:T∈ ["int","bool","str","list","tuple","dict"]):PySem.W.kitOne K (.type (K1 d)) (.type T)=some (Cv d T):=by
 simp only[OR,PB,Qv] at hT
 cases d with
 |dict l=>rcases hT with rfl |rfl |rfl |rfl |rfl |rfl <;> rfl
 |none=>rcases hT with rfl |rfl |rfl |rfl |rfl |rfl <;> rfl
 |bool _=>rcases hT with rfl |rfl |rfl |rfl |rfl |rfl <;> rfl
 |int _=>rcases hT with rfl |rfl |rfl |rfl |rfl |rfl <;> rfl
 |str _=>rcases hT with rfl |rfl |rfl |rfl |rfl |rfl <;> rfl
 |list _=>rcases hT with rfl |rfl |rfl |rfl |rfl |rfl <;> rfl
 |tuple _=>rcases hT with rfl |rfl |rfl |rfl |rfl |rfl <;> rfl
def kW {a:Expr}{fa:VF D}{La:List Nat}{ma:Md}{Γ:Fx}{E:XK}{pos p p2:Pos}(T:String){y:Str}(hT:T∈ ["int","bool","str","list","tuple","dict"])(hK:X.K=Γ.K)(hg:Gl X "isinstance")(hm:X.mg "isinstance"=none)(hgT:Gl X y)(hmT:X.mg y=none)(hvT:bootBuiltins y=some (.type T))(ha:SE X Γ E a fa La ma)
  (hnT:y≠"__name__":=by decide) (hdT:(y == ("__debug__":Str))=false:=by decide)
  (he:starEach [a,.Name y p2] X.env=(false,eval a X.env) :: starEach [.Name y p2] X.env:=by rfl) (he2:starEach [.Name y p2] X.env=(false,eval (.Name y p2) X.env) :: starEach [] X.env:=by rfl) (hpl:(backTo pos (starEach [.Name y p2] X.env)).any (·.1)=false:=by rfl) :
  SE X Γ E (.Call (.Name "isinstance" p) [a,.Name y p2] [] pos) (f1 fa (ib T)) La .v:=by
 refine PE.post' (lK Dl hg hm (by decide +kernel) (a8 ha (a8 (Gs hgT hmT hvT (show RelV (.ty T) _ from rfl) hnT hdT) bV he2) he) (by decide) (by decide) he hpl) λσ H Q ⟨env,G,B,β,I,o⟩=>?_
 refine kB (r:=λx H1 Q=>KQ X.K [x,.ty T] H1 Q) ?_ I o
 intro B G H x dx d Q s hB bx e k
 unfold ib at e
 split at e
 ·cases e
 ·rename_i hn
  cases e
  rw[hK]
  exact⟨x,T,K1 dx,Cv dx T,rfl,bx.ty s (by simpa using hn),L6 hT,k _ G H (Ext.refl s) (.bl _)⟩
def kM (fa fb fc:VF D)(g g':D->D->Option D):VF D:=λvs β=>(fa vs β).bnd λx β1=>(fb vs β1).bnd λy β2=>match g x y with
 |some (.bool true)=>(fc vs β2).bnd λz β3=>R.of (g' y z) β3
 |some (.bool false)=>.ok (.bool false) β2
 |_=>.bad
theorem wI {a b c:Expr}{fa fb fc:VF D}{ma mb mc:Md}{Γ:Fx}{E:XK}{pos:Pos}{op op':CmpOp}{r r':R2}{g g':D->D->Option D}(ho:mT X (compareOp op) r)(ho':mT X (compareOp op') r')(pr:nN Γ.K r g .v)(pr':nN Γ.K r' g' .v)(ha:SE X Γ E a fa [] ma)(hb:SE X Γ E b fb [] mb)(hc:SE X Γ E c fc [] mc)
  (hm:lastMarks [op,op'] [b,c]=false:=by with_unfolding_all rfl):SE X Γ E (.Compare a [op,op'] [b,c] pos) (kM fa fb fc g g') [] .v:=by
 refine PE.post' (CF ho ho' ha hb hc hm) λσ H Q ⟨env,G,B,β,I,o⟩=>?_
 refine two (W:=λx y H2=>r x y H2 λz H3=>∃k,z=.bl k/\(if k=true then pT Γ E fc [] mc σ H3 λw' H4=>r' y w' H4 Q else Q (.bl false) H3)) I (o.bnd.imp λd1 β1 h=>h.bnd.imp λd2 β2 h x y G2 H2 I2 s2 m2 bx by'=>?_)
 obtain⟨cb,ec,h⟩:∃cb,g d1 d2=some (.bool cb)/\Out Γ E (if cb=true then (fc (vl env) β2).bnd λz β3=>R.of (g' d2 z) β3 else .ok (.bool false) β2) λd β'=>∀v G' H',SR Γ B G' H' σ (a9 [] env) β'->av G G'->iJ B H H'->VO Γ.K B H G' H' .v d v->Q v H':=by
  split at h
  ·rename_i q;exact⟨true,q,by rw[OO rfl];exact h⟩
  ·rename_i q;exact⟨false,q,by rw[OV O8];exact h⟩
  ·exact h.elim
 refine pr B G2 H2 x y d1 d2 _ _ I2.sub I2.boxThere bx by' ec λv G' H' x' vo=>?_
 cases vo
 refine⟨cb,rfl,?_⟩
 have I3:=I2.ext x'
 cases cb with
 |false=>rw[OV O8] at h;exact sv (h _ G' H' I3 (s2.trans x'.gg) (m2.trans (x'.mov B)) (.bl false))
 |true=>
  rw[OO rfl] at h
  refine sP ⟨env,G',B,β2,I3,h.bnd.imp λd3 β3 h z G4 H4 I4 s4 m4 vz=>?_⟩
  obtain⟨d,e,k⟩:=h.of
  refine pr' B G4 H4 y z d2 d3 d Q I4.sub I4.boxThere (by'.mono (x'.gg.trans s4) ((x'.mov B).trans m4)) (vz.brw I3.boxThere) e λv G5 H5 x5 vo=>?_
  exact k v G5 H5 (I4.ext x5) (((s2.trans x'.gg).trans s4).trans x5.gg) (((m2.trans (x'.mov B)).trans m4).trans (x5.mov B)) vo
end
def dW.u1 {k:Nat}{A:Around}(r:dW k A):A.units + 100 < cLine:=by have:=r.un;omega
def Oi (N:List Str)(sc:Scope)(NB:List Str)(own:Nat)(ixs:List Nat)(scope:Scope):Bool:=
 decide (scope.kind=.function) && (scope.names.all λy=>decide (scope.names.lookup y.1=some y.2)) &&
 (scope.names.all λy=>decide (y.2=.free->(sc.names.lookup y.1=some .cell\/sc.names.lookup y.1=some .free))) && decide NB.Nodup && decide (NB.length=own + ixs.length) &&
 ((List.range ixs.length).all λk=>decide (NB[own + k]? =N[ixs.getD k 0]?) && (match NB[own + k]? with |some x=>decide ((x,NameKind.free)∈scope.names) |none=>true))
def bK {X:Cx}{NB:List Str}{own:Nat}{ixs:List Nat}{scope:Scope}(h:Oi X.N X.env.scope NB own ixs scope=true):cg X NB own ixs scope:=by
 unfold Oi at h
 simp only[O2,O9,O5,PL] at h
 obtain⟨⟨⟨⟨⟨h1,h3⟩,h4⟩,h5⟩,h6⟩,h7⟩:=h
 refine⟨h1,h3,h4,h5,h6,λk hk=>⟨(h7 k hk).1,λx hx=>?_⟩⟩
 have:=(h7 k hk).2
 rw[hx] at this
 simpa using this
section
variable {X:Cx}{Γ:Fx}{E:XK}{e a b c:Expr}{f fa fb fc:VF D}{L La Lb:List Nat}{md ma mb mc:Md}{pos:Pos}{K:Frag}
theorem HY {B:Option Addr}{G H:Hp}{x:V}{dx:D}(bx:mj K B G H x dx)(s:av G H):decide (x=.non)=Bq dx:=by
 cases dx with
 |none=>obtain rfl:=bx.none;rfl
 |bool b=>obtain rfl:=bx.bool;rfl
 |int b=>obtain rfl:=bx.int;rfl
 |str b=>obtain rfl:=bx.str;rfl
 |list b=>obtain⟨a,xs,rfl,_⟩:=bx.list s;rfl
 |tuple b=>obtain⟨a,xs,rfl,_⟩:=bx.tuple s;rfl
 |dict b=>
  rcases bx with bx | ⟨a,rfl,_⟩
  ·cases bx <;> rfl
  ·rfl
def tN (fa:VF D)(neg:Bool):VF Bool:=λvs β=>(fa vs β).bnd λx β1=>.ok (if neg then !Bq x else Bq x) β1
def FP {j pos'}(ha:SE X Γ E a fa La ma):zP X Γ E (.Compare a [.IsNot] [.Constant .none j pos'] pos) (tN fa true) La:=by
 refine PT.post (J4 (EY ha)) λσ H Q ⟨env,G,B,β,I,o⟩=>?_
 refine⟨env,G,B,β,I,o.bnd.imp λd1 β1 h x G1 H1 I1 s1 m1 vx=>?_⟩
 refine⟨!Bq d1,?_,h G1 H1 I1 s1 m1⟩
 rw[HY (vx.brw I.boxThere) I1.sub]
def oT (Γ:Fx)(E:XK)(f:VF (Option Int))(L:List Nat):TO:=λσ H Q=>∃env G B β,SR Γ B G H σ env β/\
 Out Γ E (f (vl env) β) λd β'=>∀G' H',SR Γ B G' H' σ (a9 L env) β'->av G G'->iJ B H H'->Q d H'
def Mm (X:Cx)(Γ:Fx)(E:XK)(e:Option Expr)(f:VF (Option Int))(L:List Nat):Prop:=PO X e (oT Γ E f L)
def zN:Mm X Γ E none (λ_ β=>.ok none β) []:=λpins s σ H Q I ⟨env,G,B,β,J,o⟩=>Hf pins s σ H Q I (o G H J (av.refl _) (iJ.refl _ _))
def E2 (fa:VF D):VF (Option Int):=λvs β=>(fa vs β).bnd λx β1=>match x with
 | .int i=>.ok (some i) β1
 |_=>.bad
theorem Aq (ha:SE X Γ E a fa La ma):Mm X Γ E (some a) (E2 fa) La:=λpins s σ H Q I ⟨env,G,B,β,J,o⟩=>by
 refine FK ha pins s σ H Q I ⟨env,G,B,β,J,o.bnd.imp λd1 β1 h x G1 H1 I1 s1 m1 vx=>?_⟩
 cases d1 with
 |int i=>exact⟨i,(vx.brw J.boxThere).int,h G1 H1 I1 s1 m1⟩
 |_=>exact h.elim
def cutD (xs:List D)(lo hi:Option Int):List D:=(xs.drop (HT.sU xs.length 0 lo)).take (HT.sU xs.length xs.length hi - HT.sU xs.length 0 lo)
def GI {G:Hp}{xs:List V}{ds:List D}(r:cx K G xs ds)(lo hi:Option Int):cx K G (yC xs lo hi) (cutD ds lo hi):=by
 unfold yC cutD
 rw[r.len]
 exact (r.drop _).take _
def ES (fa:VF D)(fl fh:VF (Option Int)):VF D:=λvs β=>(fa vs β).bnd λx β1=>(fl vs β1).bnd λl β2=>(fh vs β2).bnd λh β3=>match x with
 | .list ds=>.ok (.list (cutD ds l h)) β3
 |_=>.bad
theorem wc {lo hi:Option Expr}{fl fh:VF (Option Int)}{Ll Lh:List Nat}{p2:Pos}(hK:X.K=Γ.K)(ha:SE X Γ E a fa La ma)(hl:Mm X Γ E lo fl Ll)(hh:Mm X Γ E hi fh Lh):SE X Γ E (.Subscript a (.Slice lo hi none p2) pos) (ES fa fl fh) (La ++ Ll ++ Lh) .w:=by
 refine PE.post' (DG FQ ha hl hh) λσ H Q ⟨env,G,B,β,I,o⟩=>?_
 refine⟨env,G,B,β,I,o.bnd.imp λd1 β1 h x G1 H1 I1 s1 m1 vx=>⟨a9 La env,G1,B,β1,I1,?_⟩⟩
 rw[dH]
 refine h.bnd.imp λl β2 h G2 H2 I2 s2 m2=>⟨a9 Ll (a9 La env),G2,B,β2,I2,?_⟩
 rw[dH,dH]
 refine h.bnd.imp λu β3 h G3 H3 I3 s3 m3=>?_
 rw[<-cq,<-cq,<-PD] at I3
 have bx:=((vx.brw I.boxThere).mono s2 m2).mono s3 m3
 cases d1 with
 |list ds=>
  obtain⟨p,xs,rfl,hq,r⟩:=bx.list I3.sub
  rw[hK]
  refine⟨p,xs,rfl,.inl hq,λq hn=>?_⟩
  have x:=Ext.own I3.sub (o:=.lst (yC xs l u)) hn
  exact h _ _ _ (I3.ext x) ((s1.trans s2).trans s3) (((m1.trans m2).trans m3).trans (x.mov B)) ⟨q,rfl,fP ((m1.trans m2).trans m3) I3.boxThere hn,I3.sub.free hn,_,aE,GI r l u⟩
 |_=>exact h.elim
def Il:nN K (λx y H Q=>∃i j,[x,y]= [.int i,.int j]/\Q (.int (if j > i then j else i)) H) (v5 λi j=>.int (if j > i then j else i)) .v:=by
 intro B G H x y dx dy d Q s hB bx by' e k
 obtain⟨i,j,rfl,rfl,rfl⟩:=jT e
 obtain rfl:=bx.int
 obtain rfl:=by'.int
 exact⟨i,j,rfl,k _ G H (Ext.refl s) (.int _)⟩
def J5:nN K (λx y H Q=>∃i j,[x,y]= [.int i,.int j]/\Q (.int (if j < i then j else i)) H) (v5 λi j=>.int (if j < i then j else i)) .v:=by
 intro B G H x y dx dy d Q s hB bx by' e k
 obtain⟨i,j,rfl,rfl,rfl⟩:=jT e
 obtain rfl:=bx.int
 obtain rfl:=by'.int
 exact⟨i,j,rfl,k _ G H (Ext.refl s) (.int _)⟩
end
structure gx (K:Frag)(mg:Str->Option Value)(x:Str)(st:Stmt)(ps:List Str)(f:Addr)(fd:FuncData):Prop where
 mg:mg x=some (.ref f)
 F:B4 K x x st f fd
 b:Binds K fd ps []
structure Exc (K:Frag)(mg:Str->Option Value)(ca:Str->Addr)(x:Str):Prop where
 mg:mg x=some (.ref (ca x))
 ex:PySem.W.excIn K (ca x) [.type "ValueError",.type "Exception",.type "BaseException",.type "object"] "ValueError.__new__"=true
def Exc.ca {K:Frag}{mg:Str->Option Value}{ca:Str->Addr}{x:Str}(h:Exc K mg ca x):ca x=ca x:=rfl
structure hX (mg:Str->Option Value):Prop where
 len:mg "len"=none
 range:mg "range"=none
 enumerate:mg "enumerate"=none
 zip:mg "zip"=none
 min:mg "min"=none
 max:mg "max"=none
 sum:mg "sum"=none
 abs:mg "abs"=none
 sorted:mg "sorted"=none
 reversed:mg "reversed"=none
 int:mg "int"=none
 str:mg "str"=none
 bool:mg "bool"=none
 list:mg "list"=none
 tuple:mg "tuple"=none
 dict:mg "dict"=none
 set:mg "set"=none
 isinstance:mg "isinstance"=none
 repr:mg "repr"=none
 any:mg "any"=none
 all:mg "all"=none
 divmod:mg "divmod"=none
inductive FB where
 |ok (d:D) (fresh:Bool) (β:Int)
 |bad
def xM (K:Frag)(n:Nat)(F:List D->Int->FB):Sp:=λvs H Q _=>∃b rest G ds β,vs=.ref b :: rest/\H b=some (.lst [.int β])/\G b=none/\av G H/\ds.length=n/\cx K G rest ds/\match F ds β with
 | .ok d fr β'=>∀v G' H',iJ (some b) H H'->H' b=some (.lst [.int β'])->av G G'->av G' H'->(∀c,Mx H c->G c=none->G' c=none)->FV K H G' H' fr d v->Q v H'
 | .bad=>False
structure vZ (P:Program)(w:World)(K:Frag)(mg:Str->Option Value)(base:Heap)(x:Str)(ps:List Str)(k:Nat)(F:List D->Int->FB):Prop where
 ex:∃f fd,mg x=some (.ref f)/\PySem.W.keepIn K (.ref f)=true/\Binds K fd ps []/\fA P w K mg base (l4 P w) k f fd ps (xM K (ps.length - 1) F)
 len:∀ds β,F ds β≠.bad->ds.length=ps.length - 1
def ye (vs:List Nv)(i:Nat):Bool:=match vs[i]? with
 |some .bx=>true
 |_=>false
def xY (i:Nat)(F:List D->Int->FB)(fr:VF (List D)):VF D:=λvs β=>if ye vs i=true then (fr vs β).bnd λds β1=>match F ds β1 with
 | .ok d _ β2=>.ok d β2
 | .bad=>.bad else .bad
def NA (i:Nat)(F:List D->Int->FB)(fr:VF (List D)):VF D:=λvs β=>if ye vs i=true then (fr vs β).bnd λds β1=>match F ds β1 with
 | .ok d true β2=>.ok d β2
 |_=>.bad else .bad
section
variable {X:Cx}{Γ:Fx}{E:XK}{e a b c:Expr}{f fa fb fc:VF D}{L La Lb:List Nat}{md ma mb mc:Md}{pos:Pos}{K:Frag}{es:List Expr}{fr:VF (List D)}
def E3 {env:En}{i:Nat}(h:ye (vl env) i=true):env[i]? =some .bx:=by
 unfold ye at h
 split at h
 ·exact LD (by assumption)
 ·cases h
def Hi {env:En}{i j:Nat}{d:D}(h:(hZ env i)[j]? =some (.br d)):env[j]? =some (.br d):=by
 unfold hZ at h
 split at h
 ·rename_i d' e
  by_cases z:i=j
  ·subst z
   rw[O7 (OQ.mp e).1] at h;cases h
  ·rw[O6 z] at h;exact h
 ·exact h
theorem JJ {L:List Nat}{env:En}{j:Nat}{d:D}(h:(a9 L env)[j]? =some (.br d)):env[j]? =some (.br d):=by
 unfold a9 at h
 induction L generalizing env with
 |nil=>exact h
 |cons i L ih=>exact Hi (ih h)
def SR.calledB {p:Addr}{β β':Int}{G1 H1 G2 H2:Hp}{σ:St}{env:En}(I1:SR Γ (some p) G1 H1 σ env β)(h:iJ (some p) H1 H2)(hp:H2 p=some (.lst [.int β']))(g:av G1 G2)(s:av G2 H2)(n:∀b,Mx H1 b->G1 b=none->G2 b=none):SR Γ (some p) G2 H2 σ env β':=by
 obtain⟨b1,b2,b3⟩:=I1.box p rfl
 refine⟨s,I1.old.trans g,λb n1 n2=>n b (I1.thereM n1) (I1.new b n1 n2),λb o e np=>zu (I1.keep b o e np) h λz=>?_,λb hb=>?_,I1.fix,λb e=>?_,I1.len,λi t e=>?_,I1.sep⟩
 ·cases z
  rcases b3 with b3 |b3
  ·exact np b3
  ·rw[e] at b3;cases b3
 ·by_cases z:p=b
  ·subst z;exact Mx.lst hp
  ·exact (I1.pin b hb).same λo q=>h.1 b o q λy=>z (Option.some.inj y)
 ·cases e
  exact⟨hp,n p (Mx.lst b1) b2,b3⟩
 ·have q:=I1.slot i t e
  cases t with
  |no=>trivial
  |fz d=>obtain⟨v,h1,h2⟩:=q;exact⟨v,h1,h2.mono g⟩
  |ow d=>
   obtain⟨c,h1,h2,h3,h4,h5⟩:=q
   exact⟨c,h1,h2,n c h5.mx h3,h4,h5.mono g λo q=>h.1 c o q h4⟩
  |bx=>exact q
  |br d=>obtain⟨b1,c,h1,h4,hpp,h5⟩:=q;exact⟨b1,c,h1,h4,hpp,h5.mono g λo q=>h.1 c o q h4⟩
theorem E4 {F:List D->Int->FB}{ps:List Str}{Q:VK}{B:Option Addr}{G H:Hp}{σ:St}{env:En}{β:Int}{i:Nat}{p:Addr}(I:SR Γ B G H σ env β)(hK:X.K=Γ.K)(hp:B=some p){wv:Bool}
  (h:Out Γ E (fr (vl env) β) λds β1=>Out Γ E (match F ds β1 with
   | .ok d true β2=>.ok d β2
   | .ok d false β2=>if wv=true then .bad else .ok d β2
   | .bad=>.bad) λd β'=>∀v G' H',SR Γ B G' H' σ (a9 L env) β'->av G G'->iJ B H H'->VO Γ.K B H G' H' (if wv=true then .w else .v) d v->Q v H') (hl:∀ds β,F ds β≠.bad->ds.length=ps.length - 1) :
  aT Γ E fr L σ H λvs H1=>xM X.K (ps.length - 1) F (.ref p :: vs) H1 Q E:=by
 subst hp
 refine⟨env,G,_,β,I,h.imp λds β1 k vs G1 H1 I1 s1 m1 r=>?_⟩
 obtain⟨b1,b2,b3⟩:=I1.box p rfl
 refine⟨p,vs,G1,ds,β1,rfl,b1,b2,I1.sub,hl ds β1 λz=>by rw[z] at k;exact k,by rw[hK];exact r,?_⟩
 cases q:F ds β1 with
 |bad=>rw[q] at k;exact k
 |ok d fr' β2=>
  rw[q] at k
  intro v G' H' hh hb hg hs hn fv
  have I2:=I1.calledB hh hb hg hs hn
  cases fr' with
  |true=>
   obtain⟨c,rfl,p1,p2,p3⟩:∃a,v=.ref a/\H1 a=none/\G' a=none/\Own X.K G' H' a d:=fv
   rw[hK] at p3
   have hp:=fP m1 I1.boxThere p1
   cases wv with
   |true=>exact k _ G' H' I2 (s1.trans hg) (m1.trans hh) ⟨c,rfl,hp,p2,p3⟩
   |false=>
    obtain⟨q1,q2,q3,q4⟩:=I1.fresh p1
    obtain⟨G3,I3,s3,r3⟩:=I2.letIn q1 p2 q3 q4 p3
    exact k _ G3 H' I3 ((s1.trans hg).trans s3) (m1.trans hh) r3
  |false=>
   cases wv with
   |true=>exact k.elim
   |false=>
    have fv:Rp X.K G' v d:=fv
    rw[hK] at fv
    exact k _ G' H' I2 (s1.trans hg) (m1.trans hh) fv
theorem Jp {F:List D->Int->FB}{ps:List Str}{Q:VK}{i:Nat}{σ:St}{H:Hp}(hK:X.K=Γ.K){wv:Bool}(hl:∀ds β,F ds β≠.bad->ds.length=ps.length - 1)(h:pT Γ E (if wv=true then NA i F fr else xY i F fr) L (if wv=true then .w else .v) σ H Q) :
  GV i σ H λx H1=>aT Γ E fr L σ H1 λvs H2=>xM X.K (ps.length - 1) F (x :: vs) H2 Q E:=by
 obtain⟨env,G,B,β,I,o⟩:=h
 have hi:ye (vl env) i=true:=by
  by_cases hi:ye (vl env) i=true
  ·exact hi
  ·exfalso
   cases wv with
   |true=>simp only[Qs] at o;unfold NA at o;rw[OV hi] at o;exact o
   |false=>simp only[Qw,Q4] at o;unfold xY at o;rw[OV hi] at o;exact o
 obtain⟨p,e1,e2⟩:=I.slot i _ (E3 hi)
 refine⟨.ref p,e1,E4 (i:=i) (ps:=ps) I hK e2 (wv:=wv) ?_ hl⟩
 cases wv with
 |true=>
  simp only[Qs] at o ⊢
  unfold NA at o
  rw[OO hi] at o
  refine o.bnd.imp λds β1 h=>?_
  cases q:F ds β1 with
  |bad=>rw[q] at h;exact h
  |ok d b β2=>rw[q] at h;cases b <;> exact h
 |false=>
  simp only[Qw,Q4] at o ⊢
  unfold xY at o
  rw[OO hi] at o
  refine o.bnd.imp λds β1 h=>?_
  cases q:F ds β1 with
  |bad=>rw[q] at h;exact h
  |ok d b β2=>rw[q] at h;cases b <;> exact h
def Co {x y:Str}{ps:List Str}{k:Nat}{F:List D->Int->FB}{p np:Pos}(i:Nat)(hf:vZ X.prog X.w X.K X.mg X.base x ps k F)(hr:dW k X.A)(hx:Passes (l4 X.prog X.w) X E)(hK:X.K=Γ.K)(hg:Gl X x)(ha:SA X Γ E es fr L)(hN:X.N[i]? =some y:=by rfl)(hv:zJ X.env.scope y:=by first |exact Or.inl rfl |exact Or.inr (Or.inl rfl) |exact Or.inr (Or.inr rfl))(hd:(y == ("__debug__":Str))=false:=by decide)
  (hcd:(y == ("__classdict__":Str))=false:=by decide) (hdb:(x == ("__debug__":Str))=false:=by decide)
  (he:starEach (.Name y np :: es) X.env=(false,eval (.Name y np) X.env) :: starEach es X.env:=by rfl) (hpl:(backTo pos (starEach es X.env)).any (·.1)=false:=by rfl):SE X Γ E (.Call (.Name x p) (.Name y np :: es) [] pos) (xY i F fr) L .v:=by
 obtain⟨f,fd,hm,hk,hb,hF⟩:=hf.ex
 refine PE.post' (mP (dvs:=[]) hF hr hg hm hk hb .nil hx (a8 (jQ hN hv hd hcd) ha he) hdb he hpl) λσ H Q h=>?_
 have:=Jp (Q:=Q) (wv:=false) (ps:=ps) hK hf.len (by simpa using h)
 show GV i σ H λx H1=>aT Γ E fr L σ H1 λvs H2=>xM X.K (ps.length - 1) F ((x :: vs) ++ []) H2 Q E
 simpa using this
def Ec:D->Option Int
 | .list [.int z]=>some z
 |_=>none
def EW {d:D}{z:Int}(h:Ec d=some z):d=.list [.int z]:=by
 unfold Ec at h
 split at h
 ·cases h;rfl
 ·cases h
def OH (f0:VF D)(F:List D->Int->FB)(n:Int):VF D:=λvs β=>(f0 vs β).bnd λd0 β1=>match Ec d0 with
 |some z=>(match F [.int n] z with
  | .ok d _ _=>.ok d β1
  | .bad=>.bad)
 |none=>.bad
def sQ (env:En):En:=env.map λs=>match s with
 | .bx=>.no
 |s=>s
theorem DE {env:En}{i:Nat}{s:Sl}(h:(sQ env)[i]? =some s)(n:s≠.no):env[i]? =some s/\s≠.bx:=by
 unfold sQ at h
 rw[OW] at h
 cases e:env[i]? with
 |none=>rw[e] at h;cases h
 |some t=>
  rw[e] at h
  have h:=Option.some.inj h
  cases t with
  |bx=>exact absurd h.symm n
  |no=>exact absurd h.symm n
  |fz d=>subst h;exact⟨rfl,λz=>by cases z⟩
  |ow d=>subst h;exact⟨rfl,λz=>by cases z⟩
  |br d=>subst h;exact⟨rfl,λz=>by cases z⟩
def Aa (i:Nat)(L:List Nat)(f:VF D):SF:=λenv β=>toS (f (vl env) β) λd _=>match Ec d with
 |some z=>.nx ((sQ (a9 L env)).set i .bx) z
 |none=>.bad
theorem FU {i:Nat}{x:Str}{pos':Pos}(hbx:Γ.bx=none)(he:SE X Γ E e f L .w)(hN:X.N.Nodup)(hi:X.N[i]? =some x:=by rfl)(hx:Loc X.env.scope x:=by first |exact Or.inl rfl |exact Or.inr rfl)(hs:swapsWith e (some (.Name x pos')) pos.line X.env=pure false:=by rfl)(hf:X.fn x=true\/X.env.scope.names.lookup x=some .local:=by first |exact .inl rfl |exact .inr rfl |assumption) :
  SS X Γ E (.Assign [.Name x pos'] e pos) (Aa i L f):=by
 refine PS.post (qq hN hi hx he hs hf) λN σ H ⟨env,G,B,β,I,o⟩=>?_
 refine⟨env,G,B,β,I,cS o λd β' k v G' H' I' s' m' vo=>?_⟩
 cases q:Ec d with
 |none=>rw[q] at k;exact k.elim
 |some z=>
  rw[q] at k
  obtain rfl:=EW q
  obtain⟨p,rfl,h1,h2,xs,h3,r⟩:=vo
  have hx2:H' p=some (.lst [.int z]):=by
   cases r with
   |cons r1 r2=>
    cases r1
    cases r2
    exact h3
  obtain⟨q1,q2,q3,q4⟩:=I.fresh h1
  refine k (some p) G' H' _ ⟨I'.sub,I'.old,I'.new,I'.keep,I'.pin,λb e=>(by rw[hbx] at e;cases e),λb e=>?_,?_,λj t e=>?_,λj j' c d1 d2 e1 e2 e3 e4=>?_⟩ s'
  ·cases e;exact⟨hx2,h2,.inr q1⟩
  ·rw[P8,P8];unfold sQ;rw[OK];exact I'.len
  ·by_cases hj:j=i
   ·subst hj
    by_cases hl:j < (sQ (a9 L env)).length
    ·rw[O7 hl] at e
     cases e
     refine⟨p,?_,rfl⟩
     rw[O7]
     rw[I'.len];unfold sQ at hl;simpa using hl
    ·rw[Ql (by rw[P8];omega)] at e;cases e
   ·rw[O6 (Ne.symm hj)] at e ⊢
    by_cases hn:t=.no
    ·subst hn;trivial
    ·obtain⟨e1,nb⟩:=DE e hn
     have w:=I'.slot j t e1
     cases t with
     |no=>trivial
     |fz d=>exact w
     |bx=>exact absurd rfl nb
     |ow d=>
      obtain⟨a',g1,g2,g3,g4,g5⟩:=w
      exact⟨a',g1,g2,g3,λy=>q4 j d (qh e1) (by cases y;exact g1),g5⟩
     |br d=>
      obtain⟨b1,a',g1,g4,hpp,g5⟩:=w
      have e0:env[j]? =some (.br d):=JJ e1
      obtain⟨_,a2,f1,_,_,f5⟩:=I.slot j _ e0
      rw[g1] at f1;cases f1
      obtain⟨o,ho⟩:=f5.obj
      exact⟨b1,a',g1,λy=>(by cases y;rw[h1] at ho;cases ho),hpp,g5⟩
  ·have back:∀{j:Nat} {d1:D},((sQ (a9 L env)).set i Sl.bx)[j]? =some (.ow d1)->j≠i/\(a9 L env)[j]? =some (.ow d1):=λ{j d1} e=>by
    by_cases hj:j=i
    ·subst hj
     by_cases hl:j < (sQ (a9 L env)).length
     ·rw[O7 hl] at e;cases e
     ·rw[Ql (by rw[P8];omega)] at e;cases e
    ·rw[O6 (Ne.symm hj)] at e
     exact⟨hj,(DE e (λy=>by cases y)).1⟩
   obtain⟨n1,w1⟩:=back e1
   obtain⟨n2,w2⟩:=back e2
   rw[O6 (Ne.symm n1)] at e3
   rw[O6 (Ne.symm n2)] at e4
   exact I'.sep j j' c d1 d2 w1 w2 e3 e4
end
section
variable {P:Program}{w:World}{K:Frag}{mg:Str->Option Value}{base:Heap}{ca:Str->Addr}
def Lf:SO->FB
 | .nx _ β=>.ok .none false β
 | .rt d fr β=>.ok d fr β
 |_=>.bad
def zm (n:Nat)(ds:List D):En:=.bx :: ds.map Sl.fz ++ List.replicate (n - 1 - ds.length) .no
def BX (n p:Nat)(m:SF):List D->Int->FB:=λds β=>if ds.length=p then Lf (m (zm n ds) β) else .bad
abbrev Fx.fb (K:Frag)(H G:Hp)(ca:Str->Addr)(b:Addr):Fx:=⟨K,H,G,[b],ca,λ_=>false,some b⟩
def SR.startB {H G:Hp}{N:List Str}{b:Addr}{vs:List V}{ds:List D}{β:Int}(s:av G H)(hb:H b=some (.lst [.int β]))(gb:G b=none)(r:cx K G vs ds)(hn:ds.length + 1<=N.length):SR (Fx.fb K H G ca b) (some b) G H (L2.start N (.ref b :: vs)) (zm N.length ds) β:=by
 have hl:=r.len
 refine⟨s,av.refl _,λc _ h=>h,λc o h _=>Kt.of h,λc h=>?_,λc h=>h,λc h=>?_,?_,λi t e=>?_,λi j a d e h=>?_⟩
 ·have:c=b:=by simpa using h
  subst this;exact Mx.lst hb
 ·cases h;exact⟨hb,gb,.inl (by simp)⟩
 ·unfold L2.start zm;simp;omega
 ·cases i with
  |zero=>
   unfold zm at e
   cases e
   exact⟨b,rfl,rfl⟩
  |succ i=>
   unfold zm at e
   have e:(ds.map Sl.fz ++ List.replicate (N.length - 1 - ds.length) Sl.no)[i]? =some t:=by simpa using e
   by_cases hi:i < ds.length
   ·rw[Pg (by simpa using hi),OW,OJ hi] at e
    cases e
    obtain⟨x,hx,rx⟩:=r.at (OJ hi)
    refine⟨x,?_,rx⟩
    unfold L2.start
    have hi':i < vs.length:=by rw[hl];exact hi
    rw[Pg (by simp;exact hi'),OW,List.getElem?_cons_succ,hx];rfl
   ·rw[Pj (by simpa using hi),P6] at e
    split at e
    ·cases e;trivial
    ·cases e
 ·unfold zm at h
  have hm:=Pb h
  rcases OR.mp hm with z |hm
  ·cases z
  rcases O4.mp hm with z |z
  ·obtain⟨_,_,z⟩:=Pp.mp z;cases z
  ·have:=Qm z;cases this
def DJ {x qual:Str}{st:Stmt}{f:Addr}{fd:FuncData}{N:List Str}{ps:List Str}{k:Nat}{m:SF}(F:B4 K x qual st f fd)(S:aH N ps (ar st))(hp:1<=ps.length)
  (hbody:∀(cdv:Value) (A:Around) (outer:List Env) (s:Shared) (H G:Hp) (b:Addr) (E:XK),dW k (A.deeper (envOfC qual (ar st) s.heap.objs.size f cdv))->El (lD (l4 P w) P w K mg base N qual (ar st) f cdv A outer s H E) (Fx.fb K H G ca b) E (cZ st) m) :
  fA P w K mg base (l4 P w) (k + 1) f fd ps (xM K (ps.length - 1) (BX N.length (ps.length - 1) m)):=by
 have hpn:ps.length<=N.length:=by have:=congrArg List.length S.pre;rw[PZ] at this;omega
 refine F.zC S (λvs H Q E h=>?_) (λcdv A outer s H vs Q E hr h=>?_)
 ·obtain⟨b,rest,G,ds,β,rfl,hb,gb,sG,hl,r,_⟩:=h
  rw[Pf,r.len];omega
 ·obtain⟨b,rest,G,ds,β,rfl,hb,gb,sG,hl,r,h⟩:=h
  refine⟨_,hbody cdv A outer s H G b E hr,?_⟩
  have I:=SR.startB (ca:=ca) (N:=N) sG hb gb r (by omega)
  refine⟨_,G,some b,β,I,?_⟩
  unfold BX at h
  rw[OO hl] at h
  have fin':∀{B G' H' σ env β},SR (Fx.fb K H G ca b) B G' H' σ env β->iJ (some b) H H'/\H' b=some (.lst [.int β]):=λJ=>by
   have e:=J.fix b rfl
   have k:∀c o,H c=some o->some b≠some c->Kt _ c o:=λc o ec n=>J.keep c o ec λz=>n (show some b=some c by rw[show c=b by simpa using z])
   exact⟨⟨k,λc o u ec=>k c _ ec λz=>by cases z;rw[hb] at ec;cases ec⟩,(J.box b e).1⟩
  cases q:m (zm N.length ds) β with
  |nx env β'=>rw[q] at h;exact λB G' H' σ J s'=>h .non G' H' (fin' J).1 (fin' J).2 s' J.sub (λc h1 h2=>J.new c h1 h2) Rp.non
  |bk env β'=>rw[q] at h;exact h.elim
  |ct env β'=>rw[q] at h;exact h.elim
  |rt d fr β'=>
   rw[q] at h
   refine λB G' H' σ env v J s' rv=>h v G' H' (fin' J).1 (fin' J).2 s' J.sub (λc h1 h2=>J.new c h1 h2) ?_
   cases fr with
   |true=>exact rv
   |false=>exact rv
  |exc c=>rw[q] at h;exact h.elim
  |bad=>rw[q] at h;exact h.elim
def Cc {n p:Nat}{m:SF}(ds:List D)(β:Int)(h:BX n p m ds β≠.bad):ds.length=p:=by
 unfold BX at h
 by_cases hl:ds.length=p
 ·exact hl
 ·rw[OV hl] at h;exact absurd rfl h
def vZ.imp {x:Str}{ps:List Str}{k:Nat}{F F':List D->Int->FB}(h:vZ P w K mg base x ps k F)(i:∀ds β,F' ds β≠.bad->F ds β=F' ds β):vZ P w K mg base x ps k F':=by
 obtain⟨f,fd,a,b,c,d⟩:=h.ex
 refine⟨⟨f,fd,a,b,c,d.imp λvs H Q E q=>?_⟩,λds β hn=>h.len ds β (by rw[i ds β hn];exact hn)⟩
 obtain⟨b,rest,G,ds,β,e,hb,gb,s,hl,r,q⟩:=q
 refine⟨b,rest,G,ds,β,e,hb,gb,s,hl,r,?_⟩
 by_cases hF:F' ds β=.bad
 ·rw[hF] at q;exact q.elim
 ·rw[i ds β hF];exact q
end
def aC (p:Pr):D:=.tuple [.int p.1,.int p.2]
def rA:D->Option Pr
 | .tuple [.int a,.int b]=>some (a,b)
 |_=>none
def v8 {d:D}{p:Pr}(h:rA d=some p):d=aC p:=by
 unfold rA at h
 split at h
 ·cases h;rfl
 ·cases h
def A7 (p:Pr):rA (aC p)=some p:=rfl
def j7:List D->Option (List Pr)
 | []=>some []
 |d :: ds=>match rA d,j7 ds with
  |some p,some ps=>some (p :: ps)
  |_,_=>none
theorem o3:∀{ds:List D} {ps:List Pr},j7 ds=some ps->ds=ps.map aC
 | [],ps,h=>by cases h;rfl
 |d :: ds,ps,h=>by
  unfold j7 at h
  split at h
  ·rename_i p qs h1 h2;cases h;rw[v8 h1,o3 h2];rfl
  ·cases h
theorem kO:∀ps:List Pr,j7 (ps.map aC)=some ps
 | []=>rfl
 |p :: ps=>by
  show (match rA (aC p),j7 (ps.map aC) with
   |some p,some ps=>some (p :: ps)
   |_,_=>none)=_
  rw[A7,kO ps]
section
variable {K:Frag}{X:Cx}{G H:Hp}
theorem cx.pairs:∀{ps:List Pr} {xs:List V},cx K G xs (ps.map aC)->bS K G xs ps
 | [],_,.nil=>.nil
 |p :: ps,_,.cons r t=>by
  cases r with
  |tup hq r=>
   cases r with
   |cons r1 r=>
    cases r with
    |cons r2 r=>cases r;cases r1;cases r2;exact .cons ⟨_,rfl,hq⟩ (cx.pairs t)
theorem bS.rps:∀{ps:List Pr} {xs:List V},bS K G xs ps->cx K G xs (ps.map aC)
 | [],_,.nil=>.nil
 |p :: ps,_,.cons r t=>by
  obtain⟨a,rfl,q⟩:=r
  exact .cons (.tup q (.cons (.int _) (.cons (.int _) .nil))) (bS.rps t)
def Ow (p:Pr):Bool:=decide (0<=p.1) && decide (p.1 < 8) && decide (0<=p.2) && decide (p.2 < 8)
variable {Γ:Fx}{E:XK}{e a b c:Expr}{f fa fb fc:VF D}{L La Lb:List Nat}{md ma mb mc:Md}{pos:Pos}
end
section
variable {K:Frag}{X:Cx}{G H:Hp}{Γ:Fx}{E:XK}{e a b c:Expr}{f fa fb fc:VF D}{L La Lb:List Nat}{md ma mb mc:Md}{pos apos cpos np:Pos}
def iq:D->Option D
 | .int n=>if 0<=n/\n<=1000 then some (.list (fX 0 n.toNat)) else none
 |_=>none
def Bz (n:Nat):cx K G ((List.range n).map λ(i:Nat)=>V.int (i:Int)) (fX 0 n):=by
 have key:∀l:List Nat,cx K G (l.map λ(i:Nat)=>V.int (i:Int)) (l.map λ(k:Nat)=>int (0 + k)):=by
  intro l
  induction l with
  |nil=>exact .nil
  |cons x l ih=>exact .cons (by show Rp K G (.int (x:Int)) (.int (0 + (x:Int)));rw[Qe];exact .int _) ih
 exact key _
theorem yU {p1 p2 pos2:Pos}(hc:X.calm=true)(hg:Gl X "list")(hm:X.mg "list"=none)(hg2:Gl X "range")(hm2:X.mg "range"=none)(ha:SE X Γ E a fa La ma)
  (he:starEach [a] X.env=(false,eval a X.env) :: starEach [] X.env:=by rfl)
  (he2:starEach [.Call (.Name "range" p2) [a] [] pos2] X.env=(false,eval (.Call (.Name "range" p2) [a] [] pos2) X.env) :: starEach [] X.env:=by rfl) :
  SE X Γ E (.Call (.Name "list" p1) [.Call (.Name "range" p2) [a] [] pos2] [] pos) (f1 fa iq) La .w:=by
 refine PE.post' (j9 (sL hc) hg hm (by decide +kernel) (a8 (j9 Dq hg2 hm2 (by decide +kernel) (a8 ha bV he) (by decide) (by decide) he) bV he2) (by decide) (by decide) he2) λσ H Q ⟨env,G,B,β,I,o⟩=>?_
 refine kB (r:=λx H1 Q=>∃n:Int,[x]= [.int n]/\∀p,H1 p=none->(λ(y:V) (H2:Hp)=>∃(p:Addr) (n:Int),[y]= [V.ref p]/\H2 p=some (.dN 0 n)/\0<=n/\n<=1000/\∀l,H2 l=none->Q (.ref l) (upd H2 l (.lst ((List.range n.toNat).map λ(i:Nat)=>V.int (i:Int))))) (V.ref p) (upd H1 p (.dN 0 n))) ?_ I o
 intro B G H x dx d Q s hB bx e k
 cases dx with
 |int n=>
  obtain rfl:=bx.int
  simp only[iq] at e
  split at e
  ·rename_i hh
   cases e
   refine⟨n,rfl,λp hp=>⟨p,n,rfl,aE,hh.1,hh.2,λl hl=>?_⟩⟩
   have hlp:l≠p:=λz=>by subst z;rw[aE] at hl;cases hl
   have hlH:H l=none:=by rw[aA hlp] at hl;exact hl
   have x1:=Ext.own s (o:=.dN 0 n) hp
   have x2:=Ext.own x1.gh (o:=.lst ((List.range n.toNat).map λ(i:Nat)=>V.int (i:Int))) hl
   exact k _ _ _ (x1.trans x2) ⟨l,rfl,hlH,s.free hlH,_,aE,Bz _⟩
  ·cases e
 |_=>cases e
noncomputable def Nm (d:D):Option D:=match d with
 | .list ds=>(match j7 ds with
  |some ps=>if ps.all Ow=true/\ps.Nodup/\ps.length < 64 then some (.list ((OM.mR 8 (OM.Mem ps)).map aC)) else none
  |none=>none)
 |_=>none
def AM (ds:List D)(k:D):Option (D×List D):=match k with
 | .int i=>if -(2 ^ 63)<=i/\i < 2 ^ 63 then (match seqIndex? i ds.length with
  |some n=>(match ds[n]? with
   |some d=>some (d,ds.eraseIdx n)
   |none=>none)
  |none=>none) else none
 |_=>none
def k7 (i j:Nat)(L:List Nat)(f:VF D):SF:=λenv β=>if rb env[i]? =true/\rb env[j]? =true/\i≠j then toS (f (vl env) β) λk β'=>match (a9 L env)[j]? with
 |some (.ow (.list es))=>(match AM es k with
  |some (d,es')=>HU i ((a9 L env).set j (.ow (.list es'))) β' λds=>if ds.length < sizeLine then some (ds ++ [d]) else none
  |none=>.bad)
 |_=>.bad else .bad
theorem cx.eraseIdx:∀{xs:List V} {ds:List D} (i:Nat),cx K G xs ds->cx K G (xs.eraseIdx i) (ds.eraseIdx i)
 |_,_,_,.nil=>.nil
 |_,_,0,.cons _ t=>t
 |_,_,i + 1,.cons r t=>.cons r (cx.eraseIdx i t)
theorem AR (i j:Nat){x y:Str}{np2 apos2 cpos2:Pos}(hb:∀j,Γ.br j=false)(he:SE X Γ E e f L md)(hN:X.N[i]? =some x:=by rfl)(hv:zJ X.env.scope x:=by first |exact Or.inl rfl |exact Or.inr (Or.inl rfl) |exact Or.inr (Or.inr rfl))(hd:(x == ("__debug__":Str))=false:=by decide)
  (hcd:(x == ("__classdict__":Str))=false:=by decide)
  (hN2:X.N[j]? =some y:=by rfl) (hv2:zJ X.env.scope y:=by first |exact Or.inl rfl |exact Or.inr (Or.inl rfl) |exact Or.inr (Or.inr rfl)) (hd2:(y == ("__debug__":Str))=false:=by decide)
  (hcd2:(y == ("__classdict__":Str))=false:=by decide)
  (hbase:attributeBase (.Name x np) "append" X.env (eval (.Name x np) X.env)=eval (.Name x np) X.env:=by rfl)
  (hfew:((backTo cpos (starEach [.Call (.Attribute (.Name y np2) "pop" apos2) [e] [] cpos2] X.env)).all (λx=> !x.1) && (backToKw cpos (keywordEach [] X.env)).all (λx=>x.1.isSome)
   && decide ([Expr.Call (.Attribute (.Name y np2) "pop" apos2) [e] [] cpos2].length + ([]:List Keyword).length + (if ([]:List Keyword).isEmpty then 0 else 1) < 30))=true:=by rfl)
  (hline:(apos.endLine == cpos.line)=true:=by rfl) (hs:starEach [.Call (.Attribute (.Name y np2) "pop" apos2) [e] [] cpos2] X.env=(false,eval (.Call (.Attribute (.Name y np2) "pop" apos2) [e] [] cpos2) X.env) :: starEach [] X.env:=by rfl)
  (hbase2:attributeBase (.Name y np2) "pop" X.env (eval (.Name y np2) X.env)=eval (.Name y np2) X.env:=by rfl)
  (hfew2:((backTo cpos2 (starEach [e] X.env)).all (λx=> !x.1) && (backToKw cpos2 (keywordEach [] X.env)).all (λx=>x.1.isSome)
   && decide ([e].length + ([]:List Keyword).length + (if ([]:List Keyword).isEmpty then 0 else 1) < 30))=true:=by rfl)
  (hline2:(apos2.endLine == cpos2.line)=true:=by rfl) (hs2:starEach [e] X.env=(false,eval e X.env) :: starEach [] X.env:=by rfl)
  (hsw:swapsWith (.Call (.Attribute (.Name x np) "append" apos) [.Call (.Attribute (.Name y np2) "pop" apos2) [e] [] cpos2] [] cpos) none pos.line X.env=pure false:=by rfl) :
  SS X Γ E (.Expr (.Call (.Attribute (.Name x np) "append" apos) [.Call (.Attribute (.Name y np2) "pop" apos2) [e] [] cpos2] [] cpos) pos) (k7 i j L f):=by
 refine PS.post (pZ (zx QN PySem.F.slot_list_append PySem.F.type_list_append o5 (jQ hN hv hd hcd)
  (a8 (zx QN PySem.F.slot_list_pop PySem.F.type_list_pop CG (jQ hN2 hv2 hd2 hcd2) (a8 he bV hs2) hbase2 hfew2 hline2 hs2 rfl) bV hs) hbase hfew hline hs rfl) hsw) λN σ H ⟨env,G,B,β,I,o⟩=>?_
 unfold k7 at o
 by_cases hO:rb env[i]? =true/\rb env[j]? =true/\i≠j
 case neg=>rw[OV hO] at o;exact o.elim
 rw[OO hO] at o
 obtain⟨hO1,hO2,hij⟩:=hO
 obtain⟨ds0,q0⟩:=nM hO1
 obtain⟨es0,w0⟩:=nM hO2
 obtain⟨p,h1,_,_,_,xs,h5,_⟩:=I.slot i _ q0
 obtain⟨q,k1,_,_,_,ys,k5,_⟩:=I.slot j _ w0
 refine⟨_,h1,.inl ⟨rfl,xs,.inl (.inl h5)⟩,?_⟩
 refine⟨_,k1,.inl ⟨rfl,ys,.inl (.inl k5)⟩,?_⟩
 refine⟨env,G,B,β,I,cS o λkd β' k v G' H' I' s' m' vo=>?_⟩
 cases ej:(a9 L env)[j]? with
 |none=>rw[ej] at k;exact k.elim
 |some sj=>
  rw[ej] at k
  cases sj with
  |ow dj=>
   cases dj with
   |list es=>
    dsimp only at k
    cases ep:AM es kd with
    |none=>rw[ep] at k;exact k.elim
    |some pr=>
     obtain⟨d,es'⟩:=pr
     rw[ep] at k
     dsimp only at k
     unfold AM at ep
     cases kd <;> first | (cases ep;done) |skip
     rename_i ii
     dsimp only at ep
     split at ep
     ·rename_i hr
      cases eI:seqIndex? ii es.length with
      |none=>rw[eI] at ep;cases ep
      |some n=>
       rw[eI] at ep
       dsimp only at ep
       cases eD:es[n]? with
       |none=>rw[eD] at ep;cases ep
       |some d0=>
        rw[eD] at ep
        cases ep
        obtain rfl:=(vo.brw I.boxThere).int
        obtain⟨q',g1,_,_,_,zs,g5,g6⟩:=I'.slot j _ ej
        rw[k1] at g1;cases g1
        obtain⟨xv,ex,rx⟩:=g6.at eD
        refine⟨q,zs,ii,n,xv,rfl,rfl,g5,hr.1,hr.2,by rw[g6.len];exact eI,ex,?_⟩
        have I2:=I'.write hb ej k1 (o:=.lst (zs.eraseIdx n)) (d':=.list (es.eraseIdx n)) λH2 e2 s2=>⟨_,e2,g6.eraseIdx n⟩
        obtain⟨ds,fs,eq,eg,k⟩:=p6 k
        by_cases hz:ds.length < sizeLine
        case neg=>rw[OV hz] at eg;cases eg
        rw[OO hz] at eg
        cases eg
        obtain⟨p',f1,_,_,_,us,f5,f6⟩:=I2.slot i _ eq
        rw[h1] at f1;cases f1
        refine⟨p,us,xv,rfl,rfl,f5,by rw[f6.len];exact hz,?_⟩
        exact k B G' _ σ (I2.write hb eq h1 λH2 e2 s2=>⟨_,e2,f6.snoc rx⟩) s'
     ·cases ep
   |_=>exact k.elim
  |_=>exact k.elim
end
def ku:List D->Int->FB
 | [.int m],β=>if 0 < m/\m < 1073741824 then .ok (.int (β % m)) false (β / m) else .bad
 |_,_=>.bad
def zK {ds:List D}{β:Int}(h:ku ds β≠.bad):∃m,ds= [.int m]/\0 < m/\m < 1073741824:=by
 unfold ku at h
 split at h
 ·rename_i m
  by_cases hh:0 < m/\m < 1073741824
  ·exact⟨m,rfl,hh.1,hh.2⟩
  ·rw[OV hh] at h;exact absurd rfl h
 ·exact absurd rfl h
def uR {m β:Int}(h0:0 < m)(h1:m < 1073741824):ku [.int m] β=.ok (.int (β % m)) false (β / m):=OO ⟨h0,h1⟩
section
variable {P:Program}{w:World}{K:Frag}{mg:Str->Option Value}{base:Heap}
def GY {X:Cx}{i j:Nat}{x y:Str}{px py pos:Pos}{k:Nat}(hN:X.N.Nodup)(hi:X.N[i]? =some x)(hj:X.N[j]? =some y)(hx:X.env.scope.names.lookup x=some .local)(hy:X.env.scope.names.lookup y=some .local)(hc:X.calm=true) :
  PG X (.Tuple [.Name x px,.Name y py] k pos) (EM X.K 2 (qX (mY i) (qX (mY j) GF))):=
 qW hc (eO (dq hN hi (Or.inl hx) (Or.inr hx)) (eO (dq hN hj (Or.inl hy) (Or.inr hy)) nJ))
def Cr {b:Addr}{β m:Int}{H:Hp}{Q:VK}{G:Hp}(hb:H b=some (.lst [.int β]))(s:av G H){p:Addr}(hp:H p=none)
  (kk:∀v G' H',iJ (some b) H H'->H' b=some (.lst [.int (β / m)])->av G G'->av G' H'->(∀c,Mx H c->G c=none->G' c=none)->FV K H G' H' false (.int (β % m)) v->Q v H') (gb:G b=none) :
  Q (.int (β % m)) (upd (upd H p (.tup [.int (β / m),.int (β % m)])) b (.lst [.int (β / m)])):=by
 have hbp:b≠p:=aM hb hp
 refine kk _ G _ ⟨λc o e n=>Kt.of (by rw[aA (λz=>n (by rw[z])),aA (aM e hp)];exact e),λc o u e=>by rw[aA (λz=>by rw[z,hb] at e;cases e),aA (aM e hp)];exact e⟩ aE (av.refl _) (λc o e=>?_) (λc _ h=>h) (.int _)
 obtain⟨u,eu,_⟩:=(s c o e).some
 exact lR (lR (s c o e) (aM eu hp) λx y w=>by rw[hp] at w;cases w) (λz=>by rw[z,gb] at e;cases e) λx y w=>by rw[aA hbp,hb] at w;cases w
end
end L2
namespace L2
open PySem PySem.SeqAt PySem.Spec PyProof.Rows
def vN {M:Model}{A:Around}{E:Value->Shared->Prop}{s:Shared}{β:Type}{b:Nat}(f:Nat->β->Sem (ForInStep β))(I:List Nat->β->Shared->Prop)(Q:β->Shared->Prop)
  (turn:∀x rest b s,I (x :: rest) b s->wpAny M A (f x b) (λr s'=>match r with | .yield b'=>I rest b' s' | .done b'=>Q b' s') E s)
  (fin:∀b s,I [] b s->Q b s) (c:β) (h:I (List.range' 0 b) c s):wpAny M A (forIn [0:b] c f) Q E s:=by
 rw[Std.Legacy.Range.forIn_eq_forIn_range']
 simp only[Std.Legacy.Range.size,Nat.sub_zero,Nat.add_sub_cancel,Nat.div_one]
 exact wpAny_forIn_list f I Q turn fin _ c h
def sN (l:Addr)(items:Array Value)(n:Nat)(dd:Option Addr)(sl:Array (Option Value))(x:Value)(e:Value->Bool)(j:Nat)(hj:j < items.size)
  (hit:e items[j]=true) (hno:∀m (hm:m < items.size),m < j->e items[m]=false) :
  Meets (Builtin.«tuple.index» ⟨[.ref l,x],[]⟩)
   (λA R s=>s.heap.get? l=some {cls:=.type "tuple",dict:=dd,data:=.seq items n,slots:=sl}/\(∀y,y∈items->EqAt A.in1 s y x (e y))/\R (.ok (.ret (.int j s.toks))) {s with toks:=s.toks + 1}):=
 .of_wp λprog w A R s h=>by
  obtain⟨hp,g,d,tk,os⟩:=s;obtain⟨hl,he,h⟩:=h
  wp_walk using wpAny_loadPart' hl,vN _ (λrest b s'=>b.1=none/\s'=⟨hp,g,d,tk,os⟩/\∃i,i<=j/\rest=List.range' i (items.size - i)) _
  case turn=>
   rintro y rest b s' ⟨hb,rfl,i,hi,hr⟩
   obtain⟨m,hm⟩:∃m,items.size - i=m + 1:=⟨items.size - i - 1,by omega⟩
   rw[hm,List.range'_succ] at hr
   obtain⟨rfl,rfl⟩:=List.cons.inj hr
   have hlt:y < items.size:=by omega
   have e1:items[y]? =some items[y]:=by simp[hlt]
   simp only[e1]
   refine OT (he _ (Array.getElem_mem hlt) prog w _ _ ?_)
   by_cases z:y=j
   ·subst z
    rw[hit]
    wp_walk
    exact⟨_,rfl,h⟩
   ·rw[hno y hlt (by omega)]
    wp_walk
    exact⟨rfl,rfl,y + 1,by omega,by congr 1;omega⟩
  case fin=>
   rintro b s' ⟨hb,rfl,i,hi,hr⟩
   obtain⟨m,hm⟩:∃m,items.size - i=m + 1:=⟨items.size - i - 1,by omega⟩
   rw[hm,List.range'_succ] at hr
   cases hr
  case h=>
   exact⟨rfl,rfl,0,PX _,by rw[Nat.min_self];rfl⟩
section
variable {K:Frag}{X:Cx}{G H:Hp}{Γ:Fx}{E:XK}{e a b c:Expr}{f fa fb fc:VF D}{L La Lb:List Nat}{md ma mb mc:Md}{pos apos cpos np:Pos}
def yN (k:Int):Value->Bool
 | .int i _=>i == k
 |_=>false
theorem nD {k:Int}:∀{ns:List Int} {us:List Value} (i:Nat) (h:i < us.length) (h2:i < ns.length),Vals (ns.map V.int) us->yN k us[i]=(ns[i] == k)
 | [],_,_,_,h2,_=>absurd h2 (Nat.not_lt_zero _)
 |n :: ns,_,0,_,_,.cons r _=>by obtain⟨t,rfl⟩:=r;rfl
 |n :: ns,_,i + 1,h,h2,.cons _ rs=>nD i (Nat.lt_of_succ_lt_succ h) (Nat.lt_of_succ_lt_succ h2) rs
theorem wU {k:Int}{t:Tok}(A:Around)(s:Shared):∀{ns:List Int} {us:List Value},Vals (ns.map V.int) us->∀y∈us,EqAt A s y (.int k t) (yN k y)
 | [],_,.nil,y,hy=>by cases hy
 |n :: ns,_,.cons r rs,y,hy=>by
  rcases OR.mp hy with z |z
  ·subst z;obtain⟨t',rfl⟩:=r;exact EqAt.int_int n t' k t
  ·exact wU A s rs y z
def FF (K:Frag):V->List V->Hp->VK->Prop:=λx vs H Q=>∃(a:Addr) (ns:List Int) (k:Int),x=.ref a/\vs= [.int k]/\gA K H a (ns.map V.int)/\k∈ns/\Q (.int (ns.idxOf k:Nat)) H
def BC:Mc X "tuple.index" (FF X.K):=by
 intro pins s σ H x vs v us Q I rx rv h
 obtain⟨a,ns,k,rfl,rfl,hq,hk,q⟩:=h
 cases rx
 obtain⟨u,rfl,ru⟩:=vals1 rv
 obtain⟨t,rfl⟩:=ru
 obtain⟨its,rs,pl,hz⟩:=I.tuple hq
 obtain⟨⟨cls,dd,data,sl⟩,ho,hc,n,hd⟩:=id pl
 simp only at hc hd
 subst hc hd
 have hj:ns.idxOf k < ns.length:=Qc.mpr hk
 have hlen:its.length=ns.length:=by rw[<-rs.length,OK]
 refine call_meets PySem.F.slot_tuple_index ⟨_,ho,rfl⟩ PySem.F.entry_tuple_index (PySem.F.args_tuple_index_2 _ _)
  (sN a its.toArray n dd sl (.int k t) (yN k) (ns.idxOf k) (by simpa[hlen] using hj) ?_ ?_) ⟨ho,λy hy=>wU _ _ rs y (by simpa using hy),?_⟩
 ·have:=nD (k:=k) (ns.idxOf k) (by omega) hj rs
  simpa[Rl hj] using this
 ·intro m hm hlt
  have hm':m < ns.length:=by simpa[hlen] using hm
  have hne:ns[m]≠k:=λz=>by
   have:=List.not_of_lt_findIdx (p:=(· == k)) hlt
   simp[z] at this
  have:=nD (k:=k) m (by omega) hm' rs
  rw[beq_eq_false_iff_ne.mpr hne] at this;simpa using this
 ·exact⟨.int (ns.idxOf k:Nat),H,I.tok _,⟨_,rfl⟩,q⟩
def Inv.tupleP {pins:List (Addr×Obj)}{σ:St}{s:Shared}{p:Addr}{xs:List V}(I:Inv X pins σ H s)(h:gA X.K H p xs):s.TypeIs (.ref p) "tuple"/\∀a,Value.ref p=.ref a->∃ob,s.heap.get? a=some ob/\ob.dict=none:=by
 rcases h with h | ⟨o,its,n,hk,hc,hs,hz,r,hd⟩
 ·obtain⟨_,_,_,o,e,c,n,d,hd⟩:=h.ok I.hok
  exact⟨⟨o,e,c⟩,λa z=>by cases z;exact⟨o,e,hd⟩⟩
 ·exact⟨⟨o,I.kIn p o hk,hc⟩,λa z=>by cases z;exact⟨o,I.kIn p o hk,hd⟩⟩
def M9 (K:Frag)(r:V->List V->Hp->VK->Prop)(to:TE)(t:TA):TE:=λσ H Q=>to σ H λx H1=>(∃p xs,x=.ref p/\gA K H1 p xs)/\t σ H1 λxs H2=>r x xs H2 Q
def Jk {o e:Expr}{es:List Expr}{to:TE}{t:TA}{name:Str}{apos cpos:Pos}{id:String}{r:V->List V->Hp->VK->Prop}(slot:Slot "tuple" name id)(hty:typeOf (.builtin id)=pure (.type "method_descriptor"))(hm:Mc X id r)(ho:PE X o to)(ha:PA X (e :: es) t)
  (hbase:attributeBase o name X.env (eval o X.env)=eval o X.env:=by rfl)
  (hfew:((backTo cpos (starEach (e :: es) X.env)).all (λx=> !x.1) && (backToKw cpos (keywordEach [] X.env)).all (λx=>x.1.isSome)
   && decide ((e :: es).length + ([]:List Keyword).length + (if ([]:List Keyword).isEmpty then 0 else 1) < 30))=true:=by rfl)
  (hline:(apos.endLine == cpos.line)=true:=by rfl) (hs:starEach (e :: es) X.env=(false,eval e X.env) :: starEach es X.env:=by rfl) (hplain:(backTo cpos (starEach es X.env)).any (·.1)=false:=by rfl) :
  PE X (.Call (.Attribute o name apos) (e :: es) [] cpos) (M9 X.K r to t):=by
 intro pins s σ H Q I h
 refine wpAny_Call_method_late hbase hfew hline rfl (cO (ho pins s σ H _ I h) λv s1 ⟨x,H1,I1,r1,⟨p,ys,ex,hr⟩,q1⟩=>?_)
 subst ex
 cases r1
 obtain⟨h1,h2⟩:=I1.tupleP hr
 refine⟨"tuple",id,PySem.F.plainAttrs_tuple,slot,hty,h1,h2,?_⟩
 have hA:=ha cpos pins s1 σ H1 _ I1 q1
 rw[hs] at hA ⊢
 refine Calls.callWith_builtin (by show (false || (backTo cpos (starEach es X.env)).any (·.1))=false;rw[hplain] <;> rfl) (Calls.evalArgs_plain ?_)
 exact cO hA λus s2 ⟨vs,H2,I2,r2,q2⟩=>hm pins s2 σ H2 (.ref p) vs (.ref p) us Q I2 rfl r2 q2
def jj:List D->Option (List Int)
 | []=>some []
 | .int i :: ds=>(jj ds).map (i :: ·)
 |_=>none
theorem og:∀{ds:List D} {ns:List Int},jj ds=some ns->ds=ns.map int
 | [],ns,h=>by cases h;rfl
 | .int i :: ds,ns,h=>by
  unfold jj at h
  cases q:jj ds with
  |none=>rw[q] at h;cases h
  |some ms=>rw[q] at h;cases h;rw[og q];rfl
 | .none :: _,_,h=>by cases h
 | .bool _ :: _,_,h=>by cases h
 | .str _ :: _,_,h=>by cases h
 | .list _ :: _,_,h=>by cases h
 | .tuple _ :: _,_,h=>by cases h
 | .dict _ :: _,_,h=>by cases h
theorem gN:∀ns:List Int,jj (ns.map int)=some ns
 | []=>rfl
 |n :: ns=>by show (jj (ns.map int)).map (n :: ·)=_;rw[gN ns];rfl
theorem qN:∀{ns:List Int} {xs:List V},cx K G xs (ns.map int)->xs=ns.map V.int
 | [],_,.nil=>rfl
 |n :: ns,_,.cons r t=>by cases r;rw[qN t];rfl
def FZ (d y:D):Option D:=match d,y with
 | .tuple ds,.int k=>(match jj ds with
  |some ns=>if k∈ns then some (.int (ns.idxOf k:Nat)) else none
  |none=>none)
 |_,_=>none
def Ay:D->Bool
 | .tuple _=>true
 |_=>false
def oX (fa fb:VF D):VF D:=λvs β=>(fa vs β).bnd λx β1=>if Ay x=true then (fb vs β1).bnd λy β2=>R.of (FZ x y) β2 else .bad
theorem wq (hK:X.K=Γ.K)(ha:SE X Γ E a fa La ma)(hb:SE X Γ E b fb Lb mb)
  (hbase:attributeBase a "index" X.env (eval a X.env)=eval a X.env:=by rfl)
  (hfew:((backTo cpos (starEach [b] X.env)).all (λx=> !x.1) && (backToKw cpos (keywordEach [] X.env)).all (λx=>x.1.isSome)
   && decide ([b].length + ([]:List Keyword).length + (if ([]:List Keyword).isEmpty then 0 else 1) < 30))=true:=by rfl)
  (hline:(apos.endLine == cpos.line)=true:=by rfl) (hs:starEach [b] X.env=(false,eval b X.env) :: starEach [] X.env:=by rfl) :
  SE X Γ E (.Call (.Attribute a "index" apos) [b] [] cpos) (oX fa fb) (La ++ Lb) .v:=by
 refine PE.post' (Jk PySem.F.slot_tuple_index PySem.F.type_tuple_index BC ha (a8 hb bV hs) hbase hfew hline hs rfl) λσ H Q ⟨env,G,B,β,I,o⟩=>?_
 refine⟨env,G,B,β,I,o.bnd.imp λd1 β1 h x G1 H1 I1 s1 m1 vx=>?_⟩
 have vx:=vx.brw I.boxThere
 cases d1 with
 |tuple ds=>
  rw[OO (show Ay (.tuple ds)=true from rfl)] at h
  obtain⟨p,xs,rfl,hq,r⟩:=vx.tuple I1.sub
  refine⟨⟨p,xs,rfl,by rw[hK];exact hq⟩,?_⟩
  refine⟨a9 La env,G1,B,β1,I1,?_⟩
  rw[dH]
  refine h.bnd.imp λd2 β2 h y G2 H2 I2 s2 m2 vy=>?_
  obtain⟨d,e,k⟩:=h.of
  have vy:=vy.brw I1.boxThere
  cases d2 with
  |int kk=>
   obtain rfl:=vy.int
   simp only[FZ] at e
   cases q:jj ds with
   |none=>rw[q] at e;cases e
   |some ns=>
    rw[q] at e
    dsimp only at e
    split at e
    ·rename_i hk
     cases e
     have eds:=og q
     subst eds
     have exs:=qN r
     subst exs
     have hq2:gA X.K H2 p (ns.map V.int):=by
      rw[hK]
      rcases hq with hq |hq
      ·rcases vx with vx | ⟨_,_,_,vx⟩
       ·cases vx with
        |tup g1 r9=>have z9:=qN r9;subst z9;exact (g1.grow (s2.trans I2.sub).grow)
       ·exact vx.elim
      ·exact .inr hq
     exact⟨p,ns,kk,rfl,rfl,hq2,hk,k _ G2 H2 (by rw[cq];exact I2) (s1.trans s2) (m1.trans m2) (.int _)⟩
    ·cases e
  |_=>simp only[FZ] at e;cases e
 |_=>exact h.elim
abbrev Fx.at (Γ:Fx)(H0:Hp):Fx:=⟨Γ.K,H0,Γ.G0,Γ.par,Γ.ca,Γ.br,Γ.bx⟩
end
end L2
namespace L2
open PySem
section
variable {α γ:Type}
@[simp] theorem qV (a:α)(β:Int)(k:α->Int->R γ):(R.ok a β).bnd k=k a β:=rfl
@[simp] theorem Mu (c:Str)(k:α->Int->R γ):(R.exc c:R α).bnd k=.exc c:=rfl
@[simp] theorem MB (k:α->Int->R γ):(R.bad:R α).bnd k=.bad:=rfl
@[simp] theorem MR (a:α)(β:Int)(k:α->Int->R γ):(R.ok a β).okb k=k a β:=rfl
@[simp] theorem vm (a:α)(β:Int):R.of (some a) β=.ok a β:=rfl
@[simp] theorem of_none (β:Int):(R.of none β:R α)=.bad:=rfl
@[simp] theorem NH (a:α)(β:Int)(k:α->Int->SO):toS (.ok a β) k=k a β:=rfl
@[simp] theorem MC (c:Str)(k:α->Int->SO):toS (.exc c:R α) k=.exc c:=rfl
@[simp] theorem Mo (k:α->Int->SO):toS (.bad:R α) k=.bad:=rfl
end
section
variable (f fa fb fc:VF D)(t u:VF Bool)(m m':SF)(vs:List Nv)(β:Int)(env:En)(i j:Nat)(L:List Nat)
@[simp] theorem HS:gv i vs β=R.of (dat vs[i]?) β:=rfl
@[simp] theorem yQ (d:D):dat (some (.da d))=some d:=rfl
@[simp] theorem NV (d:D):cst d vs β=.ok d β:=rfl
@[simp] theorem N8 (g:D->Option D):f1 fa g vs β=(fa vs β).bnd λx β1=>R.of (g x) β1:=rfl
@[simp] theorem Od (g:D->D->Option D):f2 fa fb g vs β=(fa vs β).bnd λx β1=>(fb vs β1).bnd λy β2=>R.of (g x y) β2:=rfl
@[simp] theorem Ad:ag vs β=.ok [] β:=rfl
@[simp] theorem ie (fr:VF (List D)):aa fa fr vs β=(fa vs β).bnd λx β1=>(fr vs β1).bnd λxs β2=>.ok (x :: xs) β2:=rfl
@[simp] theorem vM:gu fa vs β=(fa vs β).bnd λx β1=>R.of (JP x) β1:=rfl
@[simp] theorem uo:oz t vs β=(t vs β).bnd λc β1=>.ok (!c) β1:=rfl
@[simp] theorem Jg:BU t u vs β=(t vs β).bnd λc β1=>if c=true then u vs β1 else .ok false β1:=rfl
@[simp] theorem pQ:nH t u vs β=(t vs β).bnd λc β1=>if c=true then .ok true β1 else u vs β1:=rfl
@[simp] theorem Om (n:Bool):tN fa n vs β=(fa vs β).bnd λx β1=>.ok (if n then !Bq x else Bq x) β1:=rfl
@[simp] theorem Jq:Iu t fa fb vs β=(t vs β).bnd λc β1=>if c=true then fa vs β1 else fb vs β1:=rfl
@[simp] theorem dJ (c:Bool){β1:Int}(h:fa vs β=.ok (.bool c) β1):dv fa vs β=.ok c β1:=by unfold dv;rw[h];rfl
@[simp] theorem yx:vl []= []:=rfl
@[simp] theorem uO (s:Sl):vl (s :: env)=s.val :: vl env:=rfl
@[simp] theorem yR (d:D):(Sl.fz d).val=.da d:=rfl
@[simp] theorem Np (d:D):(Sl.ow d).val=.da d:=rfl
@[simp] theorem M6:Sl.no.val=.no:=rfl
@[simp] theorem Nj:Sl.bx.val=.bx:=rfl
@[simp] theorem Ml:a9 [] env=env:=rfl
@[simp] theorem LH:a9 (i :: L) env=a9 L (hZ env i):=rfl
@[simp] theorem Mt:aG m m' env β=(match m env β with
 | .nx env' β'=>m' env' β'
 |r=>r):=rfl
@[simp] theorem MX:j4 L t m m' env β=toS (t (vl env) β) λc β'=>if c=true then m (a9 L env) β' else m' (a9 L env) β':=rfl
@[simp] theorem dw:bJ f env β=toS (f (vl env) β) λd β'=>.rt d false β':=rfl
@[simp] theorem xm:km f env β=toS (f (vl env) β) λd β'=>.rt d true β':=rfl
@[simp] theorem MJ:lC env β=.nx env β:=rfl
@[simp] theorem bB:bg i L f env β=toS (f (vl env) β) λd β'=>.nx ((a9 L env).set i (.fz d)) β':=rfl
@[simp] theorem ia:ic i L f env β=toS (f (vl env) β) λd β'=>.nx ((a9 L env).set i (.ow d)) β':=rfl
@[simp] theorem qU:lx L f env β=toS (f (vl env) β) λ_ β'=>.nx (a9 L env) β':=rfl
end
def ay {m m':SF}{env env':En}{β β':Int}(h:m env β=.nx env' β'):aG m m' env β=m' env' β':=by unfold aG;rw[h]
def hW {m m':SF}{env:En}{β β':Int}{d:D}{b:Bool}(h:m env β=.rt d b β'):aG m m' env β=.rt d b β':=by unfold aG;rw[h]
def ly {L:List Nat}{t:VF Bool}{m m':SF}{env:En}{β β':Int}(h:t (vl env) β=.ok true β'):j4 L t m m' env β=m (a9 L env) β':=by unfold j4;rw[h];rfl
def ji {L:List Nat}{t:VF Bool}{m m':SF}{env:En}{β β':Int}(h:t (vl env) β=.ok false β'):j4 L t m m' env β=m' (a9 L env) β':=by unfold j4;rw[h];rfl
def aq {F:List D->FR}{fr:VF (List D)}{vs:List Nv}{β β1:Int}{ds:List D}{d:D}{b:Bool}(h:fr vs β=.ok ds β1)(e:F ds=.ok d b):ai F fr vs β=.ok d β1:=by unfold ai;rw[h];dsimp only[R.bnd];rw[e]
def wj {F:List D->FR}{fr:VF (List D)}{vs:List Nv}{β β1:Int}{ds:List D}{d:D}(h:fr vs β=.ok ds β1)(e:F ds=.ok d true):pj F fr vs β=.ok d β1:=by unfold pj;rw[h];dsimp only[R.bnd];rw[e]
def dZ {fa:VF D}{g:D->Option D}{vs:List Nv}{β β1:Int}{x d:D}(h:fa vs β=.ok x β1)(e:g x=some d):f1 fa g vs β=.ok d β1:=by unfold f1;rw[h];dsimp only[R.bnd];rw[e];rfl
def aF {fa fb:VF D}{g:D->D->Option D}{vs:List Nv}{β β1 β2:Int}{x y d:D}(h:fa vs β=.ok x β1)(h':fb vs β1=.ok y β2)(e:g x y=some d):f2 fa fb g vs β=.ok d β2:=by unfold f2;rw[h];dsimp only[R.bnd];rw[h'];dsimp only[R.bnd];rw[e];rfl
def zl {i:Nat}{F:List D->Int->FB}{fr:VF (List D)}{vs:List Nv}{β β1 β2:Int}{ds:List D}{d:D}{b:Bool}(hi:ye vs i=true)(h:fr vs β=.ok ds β1)(e:F ds β1=.ok d b β2):xY i F fr vs β=.ok d β2:=by unfold xY;rw[OO hi,h];dsimp only[R.bnd];rw[e]
def sz (n:Nat)(h:n<=1000):n<=sizeLine:=by rw[PJ];omega
def K5 (n:Nat)(h:n<=1000):n < sizeLine:=by rw[PJ];omega
def jF {fr:VF (List D)}{vs:List Nv}{β β1:Int}{ds:List D}(h:fr vs β=.ok ds β1)(hz:ds.length<=1000):cC fr vs β=.ok (.tuple ds) β1:=by unfold cC;rw[h];exact OO (sz _ hz)
def my {fr:VF (List D)}{vs:List Nv}{β β1:Int}{ds:List D}(h:fr vs β=.ok ds β1)(hz:ds.length<=1000):cy fr vs β=.ok (.list ds) β1:=by unfold cy;rw[h];exact OO (sz _ hz)
def uZ {i:Nat}{env:En}{β:Int}{g:List D->Option (List D)}{ds es:List D}(h:env[i]? =some (.ow (.list ds)))(e:g ds=some es):HU i env β g=.nx (env.set i (.ow (.list es))) β:=by unfold HU;rw[h];dsimp only;rw[e]
def nZ {i:Nat}{L:List Nat}{f:VF D}{env:En}{β β':Int}{ds:List D}{d:D}(hi:env[i]? =some (.ow (.list ds)))(hf:f (vl env) β=.ok d β')(hL:(a9 L env)[i]? =some (.ow (.list ds)))(hz:ds.length<=1000):lF i L f env β=.nx ((a9 L env).set i (.ow (.list (ds ++ [d])))) β':=by
 unfold lF
 rw[OO (by rw[hi];rfl),hf]
 exact uZ hL (OO (K5 _ hz))
def ze {i j:Nat}{L:List Nat}{f:VF D}{env:En}{β β':Int}{ds es es':List D}{k d:D}(hi:env[i]? =some (.ow (.list ds)))(hj:env[j]? =some (.ow (.list es)))(hij:i≠j)(hf:f (vl env) β=.ok k β')(hL:a9 L env=env)(hp:AM es k=some (d,es'))(hz:ds.length<=1000):k7 i j L f env β=.nx ((env.set j (.ow (.list es'))).set i (.ow (.list (ds ++ [d])))) β':=by
 unfold k7
 rw[OO ⟨by rw[hi];rfl,by rw[hj];rfl,hij⟩,hf,hL]
 dsimp only[toS]
 rw[hj]
 dsimp only
 rw[hp]
 exact uZ (by rw[O6 (Ne.symm hij)];exact hi) (OO (K5 _ hz))
def qI {i:Nat}{Le Li:List Nat}{fe fi:VF D}{env:En}{β β1 β2:Int}{ds:List D}{d:D}{k:Int}{n:Nat}(he:fe (vl env) β=.ok d β1)(h1:(a9 Le env)[i]? =some (.ow (.list ds)))(hi:fi (vl env) β1=.ok (.int k) β2)(h2:(a9 (Le ++ Li) env)[i]? =some (.ow (.list ds)))(hk:tD ds.length k=some n):n5 i Le Li fe fi env β=.nx ((a9 (Le ++ Li) env).set i (.ow (.list (ds.set n d)))) β2:=by
 unfold n5
 rw[he]
 dsimp only[toS]
 rw[OO (by rw[h1];rfl),hi]
 exact uZ h2 (by dsimp only;rw[hk];rfl)
theorem rq {t:Tg}{ft:VF Bool}{fe:VF D}{vs:List Nv}(g:D->Bool)(h:D->D):∀{ds:List D} {β:Int},(∀d,d∈ds->∃vs1,nY t d vs=some vs1/\ft vs1 β=.ok (g d) β/\(g d=true->fe vs1 β=.ok (h d) β))->iz t ft fe vs ds β=.ok ((ds.filter g).map h) β
 | [],β,_=>rfl
 |d :: ds,β,hh=>by
  obtain⟨vs1,e1,e2,e3⟩:=hh d (OU ..)
  have ih:=rq (t:=t) (ft:=ft) (fe:=fe) (vs:=vs) g h (ds:=ds) (β:=β) λd' hd=>hh d' (OS _ hd)
  unfold iz
  rw[e1]
  dsimp only
  rw[e2]
  dsimp only[R.okb]
  cases q:g d with
  |true=>
   rw[OO rfl,e3 q]
   dsimp only
   rw[ih,List.filter_cons_of_pos q];rfl
  |false=>
   rw[OV O8,ih,List.filter_cons_of_neg (by rw[q];exact O8)]
def y0 {own:Nat}{ixs:List Nat}{t:Tg}{fi:VF (List D)}{ft:VF Bool}{fe:VF D}{vs:List Nv}{β β1:Int}{ds:List D}(g:D->Bool)(h:D->D)(hi:fi vs β=.ok ds β1)(hz:ds.length<=1000)
  (hh:∀d,d∈ds->∃vs1,nY t d (iu own ixs vs)=some vs1/\ft vs1 β1=.ok (g d) β1/\(g d=true->fe vs1 β1=.ok (h d) β1)):aK own ixs t fi ft fe vs β=.ok (.list ((ds.filter g).map h)) β1:=by
 unfold aK
 rw[hi]
 dsimp only[R.bnd]
 rw[OO (sz _ hz),rq g h hh];rfl
def tW {own:Nat}{ixs:List Nat}{t:Tg}{fi:VF (List D)}{fe:VF D}{vs:List Nv}{β β1:Int}{ds:List D}(h:D->D)(hi:fi vs β=.ok ds β1)(hz:ds.length<=1000)
  (hh:∀d,d∈ds->∃vs1,nY t d (iu own ixs vs)=some vs1/\fe vs1 β1=.ok (h d) β1):aK own ixs t fi iB fe vs β=.ok (.list (ds.map h)) β1:=by
 rw[y0 (ft:=iB) (λ_=>true) h hi hz λd hd=>let ⟨vs1,e1,e2⟩:=hh d hd;⟨vs1,e1,rfl,λ_=>e2⟩]
 rw[List.filter_eq_self.mpr (λ_ _=>rfl)]
def bI {α:Type}{own:Nat}{ixs:List Nat}{t:Tg}{fi:VF (List D)}{fe:VF D}{vs:List Nv}{β β1:Int}{l:List α}{e:α->D}(h:α->D)(hi:fi vs β=.ok (l.map e) β1)(hz:l.length<=1000)
  (hh:∀x,x∈l->∃vs1,nY t (e x) (iu own ixs vs)=some vs1/\fe vs1 β1=.ok (h x) β1):aK own ixs t fi iB fe vs β=.ok (.list (l.map h)) β1:=by
 unfold aK
 rw[hi]
 dsimp only[R.bnd]
 rw[OO (sz _ (by rw[OK];exact hz))]
 have key:∀m:List α,(∀x,x∈m->x∈l)->iz t iB fe (iu own ixs vs) (m.map e) β1=.ok (m.map h) β1:=by
  intro m
  induction m with
  |nil=>intro _;rfl
  |cons x m ih=>
   intro hm
   obtain⟨vs1,e1,e2⟩:=hh x (hm x (OU ..))
   rw[PH]
   unfold iz
   rw[e1]
   dsimp only
   show (R.ok true β1).okb _=_
   dsimp only[R.okb]
   rw[OO rfl,e2]
   dsimp only
   rw[ih λy hy=>hm y (OS _ hy)];rfl
 rw[key l λ_ h=>h];rfl
def bY {α:Type}{own:Nat}{ixs:List Nat}{t:Tg}{fi:VF (List D)}{ft:VF Bool}{fe:VF D}{vs:List Nv}{β β1:Int}{l:List α}{e:α->D}(g:α->Bool)(h:α->D)(hi:fi vs β=.ok (l.map e) β1)(hz:l.length<=1000)
  (hh:∀x,x∈l->∃vs1,nY t (e x) (iu own ixs vs)=some vs1/\ft vs1 β1=.ok (g x) β1/\(g x=true->fe vs1 β1=.ok (h x) β1)):aK own ixs t fi ft fe vs β=.ok (.list ((l.filter g).map h)) β1:=by
 unfold aK
 rw[hi]
 dsimp only[R.bnd]
 rw[OO (sz _ (by rw[OK];exact hz))]
 have key:∀m:List α,(∀x,x∈m->x∈l)->iz t ft fe (iu own ixs vs) (m.map e) β1=.ok ((m.filter g).map h) β1:=by
  intro m
  induction m with
  |nil=>intro _;rfl
  |cons x m ih=>
   intro hm
   obtain⟨vs1,e1,e2,e3⟩:=hh x (hm x (OU ..))
   have ih:=ih λy hy=>hm y (OS _ hy)
   rw[PH]
   unfold iz
   rw[e1]
   dsimp only
   rw[e2]
   dsimp only[R.okb]
   cases q:g x with
   |true=>
    rw[OO rfl,e3 q]
    dsimp only
    rw[ih,List.filter_cons_of_pos q];rfl
   |false=>
    rw[OV O8,ih,List.filter_cons_of_neg (by rw[q];exact O8)]
 rw[key l λ_ h=>h];rfl
theorem gc {t:Tg}{m:SF}(Pv:Nat->En->Int->Prop):∀{ds:List D} {k:Nat} {env:En} {β:Int},Pv k env β->
  (∀i d env β,ds[i]? =some d->Pv (k + i) env β->∃env1,fL t d env=some env1/\∃env2 β2,m env1 β=.nx env2 β2/\Pv (k + i + 1) env2 β2)->∃env' β',eY t m ds env β=.nx env' β'/\Pv (k + ds.length) env' β'
 | [],k,env,β,h0,_=>⟨env,β,rfl,h0⟩
 |d :: ds,k,env,β,h0,hs=>by
  obtain⟨env1,e1,env2,β2,e2,h1⟩:=hs 0 d env β rfl h0
  obtain⟨env',β',e3,h2⟩:=gc Pv (t:=t) (m:=m) (ds:=ds) (k:=k + 1) h1 λi d' en be hi hp=>by
   have:=hs (i + 1) d' en be (by simpa using hi) (by rw[show k + (i + 1)=k + 1 + i by omega];exact hp)
   rw[show k + (i + 1) + 1=k + 1 + i + 1 by omega] at this
   exact this
  refine⟨env',β',?_,by rw[Pf,show k + (ds.length + 1)=k + 1 + ds.length by omega];exact h2⟩
  unfold eY
  rw[e1]
  dsimp only
  rw[e2]
  exact e3
theorem gG {L:List Nat}{t:VF Bool}{m:SF}(Pv:Nat->En->Int->Prop)(Dn:En->Int->Prop):∀{n k:Nat} {env:En} {β:Int},k < n->Pv k env β->
  (∀k env β,Pv k env β->∃c β1,t (vl env) β=.ok c β1/\((c=false/\Dn (a9 L env) β1)\/(c=true/\∃env2 β2 k',m (a9 L env) β1=.nx env2 β2/\k' < k/\Pv k' env2 β2)))->∃env' β',gE L t m n env β=.nx env' β'/\Dn env' β'
 | 0,k,env,β,hk,_,_=>by omega
 |n + 1,k,env,β,hk,h0,hs=>by
  obtain⟨c,β1,e1,hc⟩:=hs k env β h0
  unfold gE
  rw[e1]
  dsimp only[toS]
  rcases hc with⟨rfl,hd⟩ | ⟨rfl,env2,β2,k',e2,hl,h1⟩
  ·exact⟨_,_,rfl,hd⟩
  ·rw[OO rfl,e2]
   exact gG Pv Dn (n:=n) (k:=k') (by omega) h1 hs
end L2
namespace RM
open PySem L2
def qF:SF:=(bJ (gy (f1 (gv 0) (ib "int")) (f1 (f1 (gv 0) (ib "bool")) CQ)))
def qr (cz:List D->FR):SF:=(bJ (gy (ai cz (aa (gv 0) ag)) (kM (cst (.int 0)) (gv 0) (gv 1) Dx pY)))
def ui (cz:List D->FR):SF:=(bJ (gy (ai cz (aa (gv 0) ag)) (kM (cst (.int 1)) (gv 0) (cst (.int 8)) Dx Dx)))
def sZ (bA:List D->FR):SF:=(aG (j4 ([] ++ ([] ++ [])) (nH (oz (gu (f1 (gv 0) (ib "tuple")))) (dv (f2 (f1 (gv 0) cP) (cst (.int 2)) (eh true))))
 (bJ (cst (.bool false)))
 lC)
 (bJ (gy (ai bA (aa (f2 (gv 0) (cst (.int 0)) bh) (aa (gv 1) ag))) (ai bA (aa (f2 (gv 0) (cst (.int 1)) bh) (aa (gv 1) ag))))))
def iX:SF:=(km (aK 1 [0] (.nm 0) (dM (f2 (gv 0) (gv 0) dA)) iB (cC (aa (f2 (gv 0) (gv 1) JH) (aa (f2 (gv 0) (gv 1) lE) ag)))))
def qC:SF:=(bJ (f1 (aK 2 [] (.two 0 1) (ba (gv 0)) iB (f2 (gv 0) (gv 1) (eh false))) (bo λbs=>bs.any id)))
def jl (i5 i4 kh gQ:List D->FR):SF:=(aG (j4 ([] ++ ([] ++ [])) (nH (oz (gu (f1 (gv 0) (ib "tuple")))) (dv (f2 (f1 (gv 0) cP) (cst (.int 2)) (eh true))))
 (bJ (cst (.bool false)))
 lC)
 (aG (bg 1 ([] ++ []) (f2 (gv 0) (cst (.int 0)) bh))
 (aG (bg 2 ([] ++ []) (f2 (gv 0) (cst (.int 1)) bh))
 (aG (j4 (([1] ++ []) ++ []) (nH (oz (gu (ai i5 (aa (gv 1) ag)))) (oz (gu (f1 (gv 2) (ib "tuple")))))
 (bJ (cst (.bool false)))
 lC)
 (aG (j4 ([] ++ [1]) (oz (gu (f1 (aK 1 [1] (.nm 0) (ba (gv 2)) iB (ai i4 (aa (gv 0) (aa (gv 1) ag)))) (bo λbs=>bs.all id))))
 (bJ (cst (.bool false)))
 lC)
 (bJ (gy (f2 (gv 2) (ai kh (aa (gv 1) (aa (gv 2) ag))) (eh false)) (f1 (ai gQ (aa (gv 2) ag)) CQ))))))))
def iQ (gH:List D->FR):SF:=(j4 ([0] ++ []) (oz (gu (ai gH (aa (gv 0) ag))))
 (λenv β=>toS ((aa (cst (.str "this is no order")) ag) (vl env) β) λds _=>if ds.length<=sizeLine then .exc "NoOrder" else .bad)
 lC)
def pd:SF:=(bJ (gy (f2 (gv 1) (gv 2) (eh true)) (gy (f2 (cC (aa (gv 1) (aa (gv 2) ag))) (f2 (gv 0) (cst (.int 1)) bh) (lW true)) (f2 (cC (aa (gv 2) (aa (gv 1) ag))) (f2 (gv 0) (cst (.int 1)) bh) (lW true)))))
def pS (aB bG fM:List D->FR):SF:=(aG (lx ([0] ++ []) (ai aB (aa (gv 0) ag)))
 (km (aK 2 [0] (.two 0 1) (ba (ai bG (aa (f2 (gv 0) (cst (.int 0)) bh) ag))) (gu (ai fM (aa (gv 2) (aa (gv 0) (aa (gv 1) ag))))) (cC (aa (gv 0) (aa (gv 1) ag))))))
def kF:SF:=(aG (bg 3 ([] ++ []) (f2 (gv 0) (cst (.int 1)) bh))
 (aG (j4 ([] ++ [2]) (oz (gu (f1 (aK 2 [1,2,3] (.two 0 1) (ba (gv 3)) (dv (f2 (gv 1) (gv 2) (eh false))) (f2 (cC (aa (gv 0) (aa (gv 3) ag))) (gv 4) (lW false))) (bo λbs=>bs.all id))))
 (bJ (cst (.bool false)))
 lC)
 (bJ (f1 (aK 2 [2,1,3] (.two 0 1) (ba (gv 3)) (dv (f2 (gv 0) (gv 2) (eh false))) (f2 (cC (aa (gv 3) (aa (gv 1) ag))) (gv 4) (lW false))) (bo λbs=>bs.all id)))))
def mV (mJ gO:List D->FR):SF:=(km (aK 2 [0] (.two 0 1) (ba (ai mJ (aa (gv 0) ag))) (gu (ai gO (aa (gv 2) (aa (gv 0) (aa (gv 1) ag))))) (cC (aa (gv 0) (aa (gv 1) ag)))))
def Ky:D->Bool
 | .int _=>true
 |_=>false
def mf:List D->FR
 | [d]=>if dY d=true then .bad else .ok (.bool (Ky d)) false
 |_=>.bad
def uz {d:D}(h:dY d=false):mf [d]=.ok (.bool (Ky d)) false:=OV (by rw[h];exact O8)
def GA (ds:List D)(h:mf ds≠.bad):aR 1 1 qF ds=mf ds:=by
 unfold mf at h
 split at h
 ·rename_i d
  cases q:dY d with
  |true=>rw[q] at h;exact absurd rfl h
  |false=>
   rw[uz q]
   have e1:ib "int" d=some (.bool (Cv d "int")):=by unfold ib;rw[q];rfl
   have e2:ib "bool" d=some (.bool (Cv d "bool")):=by unfold ib;rw[q];rfl
   show fin (bJ (gy (f1 (gv 0) (ib "int")) (f1 (f1 (gv 0) (ib "bool")) CQ)) [.fz d] 0)=_
   unfold bJ gy f1 gv
   simp only[uO,yx,yR,List.getElem?_cons_zero,yQ,vm,qV,e1,e2]
   cases d <;> rfl
 ·exact absurd rfl h
def jW (d:D)(n:Int):Bool:=match d with
 | .int i=>decide (0<=i/\i < n)
 |_=>false
def fC:List D->FR
 | [d,.int n]=>if dY d=true then .bad else .ok (.bool (jW d n)) false
 |_=>.bad
def vQ {d:D}{n:Int}(h:dY d=false):fC [d,.int n]=.ok (.bool (jW d n)) false:=OV (by rw[h];exact O8)
def xo {i lo n:Int}{vs:List Nv}{β:Int}{fa fb fc:VF D}{g':D->D->Option D}{q:Bool}(ha:fa vs β=.ok (.int lo) β)(hb:fb vs β=.ok (.int i) β)(hc:fc vs β=.ok (.int n) β)(hq:g' (.int i) (.int n)=some (.bool q)):kM fa fb fc Dx g' vs β=.ok (.bool (decide (lo<=i) && q)) β:=by
 unfold kM
 rw[ha];dsimp only[R.bnd];rw[hb];dsimp only[R.bnd]
 show (match (some (PyData.bool (decide (lo<=i))):Option D) with
  |some (.bool true)=>_
  |some (.bool false)=>_
  |_=>_)=_
 by_cases h:lo<=i
 ·rw[OP h]
  dsimp only
  rw[hc]
  dsimp only[R.bnd]
  rw[hq];rfl
 ·rw[OY h];rfl
def FG (ds:List D)(h:fC ds≠.bad):aR 2 2 (qr mf) ds=fC ds:=by
 unfold fC at h
 split at h
 ·rename_i d n
  cases q:dY d with
  |true=>rw[q] at h;exact absurd rfl h
  |false=>
   rw[vQ q]
   show fin (bJ (gy (ai mf (aa (gv 0) ag)) (kM (cst (.int 0)) (gv 0) (gv 1) Dx pY)) [.fz d,.fz (.int n)] 0)=_
   unfold bJ gy ai
   simp only[uO,yx,yR,ie,Ad,HS,List.getElem?_cons_zero,yQ,vm,qV,uz q]
   cases d with
   |int i=>
    show fin (toS (kM (cst (.int 0)) (gv 0) (gv 1) Dx pY [.da (.int i),.da (.int n)] 0) _)=_
    rw[xo (lo:=0) (i:=i) (n:=n) rfl rfl rfl rfl]
    show FR.ok (.bool (decide (0<=i) && decide (i < n))) false=.ok (.bool (decide (0<=i/\i < n))) false
    rw[Bool.decide_and]
   |_=>rfl
 ·exact absurd rfl h
def HC (d:D):Bool:=match d with
 | .int i=>decide (1<=i/\i<=8)
 |_=>false
def mZ:List D->FR
 | [d]=>if dY d=true then .bad else .ok (.bool (HC d)) false
 |_=>.bad
def CH {d:D}(h:dY d=false):mZ [d]=.ok (.bool (HC d)) false:=OV (by rw[h];exact O8)
def J8 (ds:List D)(h:mZ ds≠.bad):aR 1 1 (ui mf) ds=mZ ds:=by
 unfold mZ at h
 split at h
 ·rename_i d
  cases q:dY d with
  |true=>rw[q] at h;exact absurd rfl h
  |false=>
   rw[CH q]
   show fin (bJ (gy (ai mf (aa (gv 0) ag)) (kM (cst (.int 1)) (gv 0) (cst (.int 8)) Dx Dx)) [.fz d] 0)=_
   unfold bJ gy ai
   simp only[uO,yx,yR,ie,Ad,HS,List.getElem?_cons_zero,yQ,vm,qV,uz q]
   cases d with
   |int i=>
    show fin (toS (kM (cst (.int 1)) (gv 0) (cst (.int 8)) Dx Dx [.da (.int i)] 0) _)=_
    rw[xo (lo:=1) (i:=i) (n:=8) rfl rfl rfl rfl]
    show FR.ok (.bool (decide (1<=i) && decide (i<=8))) false=.ok (.bool (decide (1<=i/\i<=8))) false
    rw[Bool.decide_and]
   |_=>rfl
 ·exact absurd rfl h
def pairF:List D->FR
 | [d,.int n]=>(match rA d with
  |some p=>.ok (.bool (decide ((0<=p.1/\p.1 < n)/\(0<=p.2/\p.2 < n)))) false
  |none=>.bad)
 |_=>.bad
def C2 (p:Pr)(n:Int):pairF [aC p,.int n]=.ok (.bool (decide ((0<=p.1/\p.1 < n)/\(0<=p.2/\p.2 < n)))) false:=rfl
def Jd (ds:List D)(h:pairF ds≠.bad):aR 2 2 (sZ fC) ds=pairF ds:=by
 unfold pairF at h
 split at h
 ·rename_i d n
  cases q:rA d with
  |none=>rw[q] at h;exact absurd rfl h
  |some p=>
   obtain rfl:=v8 q
   rw[C2]
   obtain⟨a,b⟩:=p
   show fin (toS (gy (ai fC (aa (f2 (gv 0) (cst (.int 0)) bh) (aa (gv 1) ag))) (ai fC (aa (f2 (gv 0) (cst (.int 1)) bh) (aa (gv 1) ag))) [.da (.tuple [.int a,.int b]),.da (.int n)] 0) λd β'=>.rt d false β')=_
   have e1:ai fC (aa (f2 (gv 0) (cst (.int 0)) bh) (aa (gv 1) ag)) [.da (.tuple [.int a,.int b]),.da (.int n)] 0=.ok (.bool (decide (0<=a/\a < n))) 0:=rfl
   have e2:ai fC (aa (f2 (gv 0) (cst (.int 1)) bh) (aa (gv 1) ag)) [.da (.tuple [.int a,.int b]),.da (.int n)] 0=.ok (.bool (decide (0<=b/\b < n))) 0:=rfl
   unfold gy
   rw[e1]
   dsimp only[R.bnd]
   by_cases c:0<=a/\a < n
   ·rw[OP c,e2]
    show FR.ok (.bool (decide (0<=b/\b < n))) false=.ok (.bool (decide ((0<=a/\a < n)/\(0<=b/\b < n)))) false
    simp[c]
   ·rw[OY c]
    show FR.ok (.bool false) false=.ok (.bool (decide ((0<=a/\a < n)/\(0<=b/\b < n)))) false
    simp[c]
 ·exact absurd rfl h
def ao (n:Nat)(l:List Pr):D:=.tuple [.int n,.tuple (l.map aC)]
open Classical in
noncomputable def sS (f:Nat->List Pr->FR):D->FR:=λd=>if h:∃nl:Nat×List Pr,d=ao nl.1 nl.2/\OM.Ord nl.1 nl.2 then f (Classical.choose h).1 (Classical.choose h).2 else .bad
def Gk {p q:Pr}(h:aC p=aC q):p=q:=by
 obtain⟨a,b⟩:=p
 obtain⟨c,d⟩:=q
 unfold aC at h
 simp at h
 rw[h.1,h.2]
theorem pk:∀{l m:List Pr},l.map aC=m.map aC->l=m
 | [],[],_=>rfl
 | [],_ :: _,h=>by cases h
 |_ :: _,[],h=>by cases h
 |p :: l,q :: m,h=>by
  simp only[PH,List.cons.injEq] at h
  rw[Gk h.1,pk h.2]
def CB {n m:Nat}{l k:List Pr}(h:ao n l=ao m k):n=m/\l=k:=by
 unfold ao at h
 simp only[PyData.tuple.injEq,List.cons.injEq,int.injEq,and_true] at h
 exact⟨by omega,pk h.2⟩
def xk {f:Nat->List Pr->FR}{n:Nat}{l:List Pr}(O:OM.Ord n l):sS f (ao n l)=f n l:=by
 unfold sS
 have h:∃nl:Nat×List Pr,ao n l=ao nl.1 nl.2/\OM.Ord nl.1 nl.2:=⟨(n,l),rfl,O⟩
 rw[dif_pos h]
 obtain⟨e,_⟩:=Classical.choose_spec h
 obtain⟨e1,e2⟩:=CB e
 rw[<-e1,<-e2]
def wm {f:Nat->List Pr->FR}{d:D}(h:sS f d≠.bad):∃n l,d=ao n l/\OM.Ord n l:=by
 unfold sS at h
 by_cases q:∃nl:Nat×List Pr,d=ao nl.1 nl.2/\OM.Ord nl.1 nl.2
 ·obtain⟨nl,e,O⟩:=q;exact⟨nl.1,nl.2,e,O⟩
 ·rw[dif_neg q] at h;exact absurd rfl h
noncomputable def dS:List D->FR
 | [.int n,d]=>(match lH d with
  |some ds=>(match j7 ds with
   |some ps=>(open Classical in if 1<=n/\n<=8/\OM.Wn n.toNat ps then .ok (.tuple ((OM.mR n.toNat (OM.Tr (OM.Mem ps))).map aC)) false else .bad)
   |none=>.bad)
  |none=>.bad)
 |_=>.bad
def DA {n:Nat}{ps:List Pr}(h1:1<=n)(h8:n<=8)(w:OM.Wn n ps):dS [.int n,.tuple (ps.map aC)]=.ok (.tuple ((OM.mR n (OM.Tr (OM.Mem ps))).map aC)) false:=by
 unfold dS
 simp only[lH,kO]
 rw[OO ⟨by omega,by omega,by rw[Pu];exact w⟩,Pu]
def lu:List D->FR
 | [.tuple ds]=>(match j7 ds with
  |some ps=>if ps.length<=1000 then .ok (.bool (ps.any λp=>decide (p.1=p.2))) false else .bad
  |none=>.bad)
 |_=>.bad
theorem fJ {α:Type}(f:α->Bool):∀l:List α,lU (l.map λx=>PyData.bool (f x))=some (l.map f)
 | []=>rfl
 |x :: l=>by
  show (lU (l.map λx=>PyData.bool (f x))).map (f x :: ·)=_
  rw[fJ f l];rfl
def Jn (ds:List D)(h:lu ds≠.bad):aR 1 1 qC ds=lu ds:=by
 unfold lu at h
 split at h
 ·rename_i ds
  cases q:j7 ds with
  |none=>rw[q] at h;exact absurd rfl h
  |some ps=>
   rw[q] at h
   dsimp only at h
   by_cases hz:ps.length<=1000
   case neg=>rw[OV hz] at h;exact absurd rfl h
   obtain rfl:=o3 q
   have e:lu [.tuple (ps.map aC)]=.ok (.bool (ps.any λp=>decide (p.1=p.2))) false:=by
    unfold lu;simp only[kO];rw[OO hz]
   rw[e]
   have ec:aK 2 [] (.two 0 1) (ba (gv 0)) iB (f2 (gv 0) (gv 1) (eh false)) [.da (.tuple (ps.map aC))] 0=.ok (.list (ps.map λp=>PyData.bool (decide (p.1=p.2)))) 0:=by
    exact bI (l:=ps) (e:=aC) (λp=>PyData.bool (decide (p.1=p.2))) rfl hz λp hp=>⟨_,rfl,rfl⟩
   show fin (toS ((aK 2 [] (.two 0 1) (ba (gv 0)) iB (f2 (gv 0) (gv 1) (eh false)) [.da (.tuple (ps.map aC))] 0).bnd λx β1=>R.of (bo (λbs=>bs.any id) x) β1) λd β'=>.rt d false β')=_
   rw[ec]
   simp only[qV,bo]
   rw[fJ]
   simp[fin,List.any_map]
 ·exact absurd rfl h
def o4 (p:Pr):SeqAt.shaped (aC p)=true:=rfl
theorem zS:∀l:List Pr,PyData.canLayAll0 (l.map aC)=true
 | []=>rfl
 |p :: l=>by
  show ((aC p).canLay0 && PyData.canLayAll0 (l.map aC))=true
  rw[zS l];rfl
theorem Aw:∀l:List Pr,PyData.depthAll (l.map aC)<=1
 | []=>by show (0:Nat)<=1;omega
 |p :: l=>by
  show max (aC p).depth (PyData.depthAll (l.map aC))<=1
  have h1:(aC p).depth=1:=by simp[aC,PyData.depth,PyData.depthAll]
  have h2:=Aw l
  omega
def rn (l:List Pr):SeqAt.shaped (.tuple (l.map aC))=true:=by
 unfold SeqAt.shaped
 have h1:(PyData.tuple (l.map aC)).canLay0=true:=by simp only[PyData.canLay0];exact zS l
 have h2:(PyData.tuple (l.map aC)).depth<=64:=by simp only[PyData.depth];have:=Aw l;omega
 rw[h1,OP h2];rfl
def CM (p q:Pr):PyData.eqv (aC p) (aC q)=decide (p=q):=by
 obtain⟨a,b⟩:=p
 obtain⟨c,d⟩:=q
 simp only[aC,PyData.eqv,PyData.eqvAll,Bool.and_true]
 rw[Px]
 simp
theorem As:∀l m:List Pr,PyData.eqvAll (l.map aC) (m.map aC)=decide (l=m)
 | [],[]=>rfl
 | [],_ :: _=>rfl
 |_ :: _,[]=>rfl
 |p :: l,q :: m=>by
  show (PyData.eqv (aC p) (aC q) && PyData.eqvAll (l.map aC) (m.map aC))=_
  rw[CM,As l m,Px]
  simp
def n8 {n:Nat}{l:List Pr}(O:OM.Ord n l):l.length < 64:=by
 have h8:=O.hi
 have e:=O.closed
 by_cases h:l.length < 64
 ·exact h
 ·exfalso
  have h1:l.length<=n * n:=by rw[<-e];exact OM.CO _ _
  have h2:n * n<=64:=Qf h8 h8
  have hn:n=8:=by
   by_cases h7:n<=7
   ·have:n * n<=7 * 7:=Qf h7 h7
    omega
   ·omega
  have hlen:l.length=n * n:=by subst hn;omega
  have hg:l=OM.bN n:=by
   refine OM.sub_eq O.ris (OM.jc n) (λx hx=>OM.bD.mpr (O.wn x hx)) ?_
   rw[hlen];unfold OM.bN;simp
  have:((0:Int),(0:Int))∈l:=by rw[hg];exact OM.bD.mpr ⟨⟨by omega,by omega⟩,by omega,by omega⟩
  exact O.irr 0 this
def Dd {n:Nat}(h1:1<=n)(h8:n<=8):mZ [.int n]=.ok (.bool true) false:=by
 rw[CH rfl]
 show FR.ok (.bool (decide (1<=(n:Int)/\(n:Int)<=8))) false=_
 rw[OP (by omega)]
def qO (neg:Bool)(l m:List Pr):eh neg (.tuple (l.map aC)) (.tuple (m.map aC))=some (.bool (if neg then !decide (l=m) else decide (l=m))):=by
 unfold eh
 rw[rn,rn]
 simp only[QQ,Qs,PyData.eqv,As]
def Gu {n:Nat}{l:List Pr}(O:OM.Ord n l):lu [.tuple (l.map aC)]=.ok (.bool false) false:=by
 have hl:=n8 O
 unfold lu
 simp only[kO]
 rw[OO (by omega)]
 have:(l.any λp=>decide (p.1=p.2))=false:=by
  rw[List.any_eq_false]
  intro p hp
  simp only[O5]
  intro e
  obtain⟨a,b⟩:=p
  simp only at e
  subst e
  exact O.irr a hp
 rw[this]
def BI {n:Nat}{l:List Pr}(O:OM.Ord n l):aR 3 1 (jl mZ pairF dS lu) [ao n l]=.ok (.bool true) false:=by
 have hl:=n8 O
 show fin (jl mZ pairF dS lu [.fz (ao n l),.no,.no] 0)=_
 unfold jl
 rw[ay (env':=[.fz (ao n l),.no,.no]) (β':=0) (by rfl)]
 rw[ay (env':=[.fz (ao n l),.fz (.int n),.no]) (β':=0) (by rfl)]
 rw[ay (env':=[.fz (ao n l),.fz (.int n),.fz (.tuple (l.map aC))]) (β':=0) (by rfl)]
 have e4:ai mZ (aa (gv 1) ag) [.da (ao n l),.da (.int n),.da (.tuple (l.map aC))] 0=.ok (.bool true) 0:=aq rfl (Dd O.lo O.hi)
 rw[ay (env':=[.fz (ao n l),.fz (.int n),.fz (.tuple (l.map aC))]) (β':=0) ?h4]
 case h4=>
  refine ji ?_
  show nH (oz (gu (ai mZ (aa (gv 1) ag)))) _ [.da (ao n l),.da (.int n),.da (.tuple (l.map aC))] 0=_
  rw[pQ,uo,vM,e4]
  rfl
 have e5:aK 1 [1] (.nm 0) (ba (gv 2)) iB (ai pairF (aa (gv 0) (aa (gv 1) ag))) [.da (ao n l),.da (.int n),.da (.tuple (l.map aC))] 0=.ok (.list (l.map λ_=>PyData.bool true)) 0:=by
  refine bI (l:=l) (e:=aC) (λ_=>PyData.bool true) rfl (by omega) λp hp=>⟨_,rfl,?_⟩
  refine aq (b:=false) (ds:=[aC p,.int n]) rfl ?_
  rw[C2,OP (by have:=O.wn p hp;exact this)]
 rw[ay (env':=[.fz (ao n l),.fz (.int n),.fz (.tuple (l.map aC))]) (β':=0) ?h5]
 case h5=>
  refine ji ?_
  show oz (gu (f1 (aK 1 [1] (.nm 0) (ba (gv 2)) iB (ai pairF (aa (gv 0) (aa (gv 1) ag)))) (bo λbs=>bs.all id))) [.da (ao n l),.da (.int n),.da (.tuple (l.map aC))] 0=_
  rw[uo,vM,dZ (d:=.bool true) e5 (by simp only[bo];rw[fJ];simp)]
  rfl
 have e6:ai dS (aa (gv 1) (aa (gv 2) ag)) [.da (ao n l),.da (.int n),.da (.tuple (l.map aC))] 0=.ok (.tuple (l.map aC)) 0:=aq rfl (by rw[DA O.lo O.hi O.wn,O.closed])
 have e7:ai lu (aa (gv 2) ag) [.da (ao n l),.da (.int n),.da (.tuple (l.map aC))] 0=.ok (.bool false) 0:=aq rfl (Gu O)
 show fin (toS (gy (f2 (gv 2) (ai dS (aa (gv 1) (aa (gv 2) ag))) (eh false)) (f1 (ai lu (aa (gv 2) ag)) CQ) [.da (ao n l),.da (.int n),.da (.tuple (l.map aC))] 0) _)=_
 unfold gy
 rw[aF (d:=.bool true) (x:=.tuple (l.map aC)) rfl e6 (by rw[qO];simp)]
 dsimp only[R.bnd]
 rw[dZ (d:=.bool true) e7 rfl]
 rfl
noncomputable def fZ:List D->FR
 | [d]=>sS (λ_ _=>.ok (.bool true) false) d
 |_=>.bad
def tH {n:Nat}{l:List Pr}(O:OM.Ord n l):fZ [ao n l]=.ok (.bool true) false:=by simp only[fZ];exact xk O
def yW (ds:List D)(h:fZ ds≠.bad):aR 3 1 (jl mZ pairF dS lu) ds=fZ ds:=by
 unfold fZ at h
 split at h
 ·obtain⟨n,l,rfl,O⟩:=wm h
  rw[BI O,tH O]
 ·exact absurd rfl h
noncomputable def eN:List D->FR
 | [d]=>sS (λ_ _=>.ok .none false) d
 |_=>.bad
def lI {n:Nat}{l:List Pr}(O:OM.Ord n l):eN [ao n l]=.ok .none false:=by simp only[eN];exact xk O
def EO (ds:List D)(h:eN ds≠.bad):aR 1 1 (iQ fZ) ds=eN ds:=by
 unfold eN at h
 split at h
 ·obtain⟨n,l,rfl,O⟩:=wm h
  rw[lI O]
  have e:ai fZ (aa (gv 0) ag) [.da (ao n l)] 0=.ok (.bool true) 0:=aq (ds:=[ao n l]) rfl (tH O)
  show fin (iQ fZ [.fz (ao n l)] 0)=_
  unfold iQ
  rw[ji (β':=0)]
  ·rfl
  ·show oz (gu (ai fZ (aa (gv 0) ag))) [.da (ao n l)] 0=_
   rw[uo,vM,e];rfl
 ·exact absurd rfl h
abbrev c6 (ns:List Int):D:=.dict [(.none,.list (ns.map int))]
def p9 {i j:Int}(h: -(2 ^ 64) < i/\i < 2 ^ 64):dA (.int i) (.int j)=some (.int (i * j)):=OO (by dsimp only;rw[OP h.1,OP h.2];rfl)
def CD {i j:Int}(h: -(2 ^ 64) < j/\j < 2 ^ 64):dA (.int i) (.int j)=some (.int (i * j)):=OO (by dsimp only;rw[OP h.1,OP h.2,QQ,Bool.or_true])
def oV {i j:Int}(h:0 < j):lE (.int i) (.int j)=some (.int (i % j)):=OO (OP h)
def Hu {i j:Int}(h:0 < j)(h2:j < 1073741824):JH (.int i) (.int j)=some (.int (i / j)):=OO (by dsimp only;rw[OP h,OP h2];rfl)
theorem iO {α β:Type}(f:α->β)(l:List α)(i:Int):ki (l.map f) i=(ki l i).map f:=by
 unfold ki
 rw[OK]
 cases tD l.length i with
 |none=>rfl
 |some j=>simp
def nr {α:Type}{l:List α}{k:Nat}(h:k < l.length):ki l (k:Int)=some l[k]:=jz (OJ h)
def Ju {fa fb:VF D}{vs:List Nv}{β β1 β2:Int}{i j:Int}(h:fa vs β=.ok (.int i) β1)(h':fb vs β1=.ok (.int j) β2):dv (f2 fa fb pY) vs β=.ok (decide (i < j)) β2:=dJ _ _ _ _ (aF h h' rfl)
def gk {neg:Bool}{fa fb:VF D}{vs:List Nv}{β β1 β2:Int}{i j:Int}(h:fa vs β=.ok (.int i) β1)(h':fb vs β1=.ok (.int j) β2):dv (f2 fa fb (eh neg)) vs β=.ok (if neg then !decide (i=j) else decide (i=j)) β2:=by
 refine dJ _ _ _ _ (aF h h' ?_)
 cases neg <;> rfl
theorem lay_ints:∀ns:List Int,PyData.canLayAll0 (ns.map int)=true
 | []=>rfl
 |n :: ns=>by
  show ((int n).canLay0 && PyData.canLayAll0 (ns.map int))=true
  rw[lay_ints ns];rfl
theorem qB:∀ns:List Int,PyData.depthAll (ns.map int)=0
 | []=>rfl
 |n :: ns=>by
  show max (int n).depth (PyData.depthAll (ns.map int))=0
  rw[qB ns];rfl
def shaped_ints (ns:List Int):SeqAt.shaped (.list (ns.map int))=true:=by
 unfold SeqAt.shaped
 have h1:(PyData.list (ns.map int)).canLay0=true:=by simp only[PyData.canLay0];exact lay_ints ns
 have h2:(PyData.list (ns.map int)).depth<=64:=by simp only[PyData.depth];rw[qB];omega
 rw[h1,OP h2];rfl
theorem qZ:∀l m:List Int,PyData.eqvAll (l.map int) (m.map int)=decide (l=m)
 | [],[]=>rfl
 | [],_ :: _=>rfl
 |_ :: _,[]=>rfl
 |p :: l,q :: m=>by
  show ((p == q) && PyData.eqvAll (l.map int) (m.map int))=_
  rw[qZ l m,Px]
  simp
def DD (neg:Bool)(l m:List Int):eh neg (.list (l.map int)) (.list (m.map int))=some (.bool (if neg then !decide (l=m) else decide (l=m))):=by
 unfold eh
 rw[shaped_ints,shaped_ints]
 simp only[QQ,Qs,PyData.eqv,qZ]
theorem qb {α:Type}:∀{l:List α} {k:Nat} {x:α},l[k]? =some x->(x :: l.eraseIdx k).Perm l
 | [],_,_,h=>by simp at h
 |y :: l,0,x,h=>by simp at h;subst h;exact List.Perm.refl _
 |y :: l,k + 1,x,h=>by
  have h:l[k]? =some x:=by simpa using h
  have ih:=qb h
  show (x :: y :: l.eraseIdx k).Perm (y :: l)
  exact (List.Perm.swap y x _).trans (ih.cons y)
theorem t8 {α β:Type}(f:α->β):∀(l:List α) (k:Nat),(l.map f).eraseIdx k=(l.eraseIdx k).map f
 | [],_=>rfl
 |_ :: _,0=>rfl
 |x :: l,k + 1=>by simp[t8 f l k]
def pV {a b:List D}(h:a.length + b.length<=10000):l0 (.list a) (.list b)=some (.list (a ++ b)):=OO (by rw[PJ];omega)
def dN (n:Nat):List Int:=(List.range n).map λ(k:Nat)=>(k:Int)
def cp (n:Nat):(dN n).length=n:=by unfold dN;simp
def aU {n:Nat}{x:Int}:x∈dN n↔0<=x/\x < n:=by
 unfold dN
 rw[Pp]
 constructor
 ·rintro⟨k,hk,rfl⟩
  have:=PL.mp hk
  omega
 ·intro h
  exact⟨x.toNat,PL.mpr (by omega),by omega⟩
def fE (n:Nat):(dN n).Nodup:=by
 unfold dN
 rw[QI,List.pairwise_map]
 exact (QI.mp List.nodup_range).imp λ{a b} h e=>h (by omega)
def uc (n:Nat):fX 0 n=(dN n).map int:=by
 unfold fX dN
 rw[Q0]
 refine P5 λk _=>?_
 show int (0 + (k:Int))=_
 rw[Qe];rfl
theorem ip {lo:Int}{n i:Nat}{d:D}(h:(fX lo n)[i]? =some d):i < n/\d=.int (lo + i):=by
 unfold fX at h
 rw[OW] at h
 cases q:(List.range n)[i]? with
 |none=>rw[q] at h;cases h
 |some j=>
  rw[q] at h
  cases h
  obtain⟨hi,ej⟩:=OQ.mp q
  rw[Qb] at hi
  rw[List.getElem_range] at ej
  subst ej
  exact⟨hi,rfl⟩
def xE {n:Nat}(h:n<=1000):iq (.int n)=some (.list ((dN n).map int)):=by
 unfold iq
 dsimp only
 rw[OO ⟨by omega,by omega⟩,Pu,uc]
def dE {fa:VF D}{vs:List Nv}{β β1:Int}{n:Nat}(h:fa vs β=.ok (.int n) β1)(hn:n<=1000):dM fa vs β=.ok (fX 0 n) β1:=by
 unfold dM
 rw[h]
 simp only[qV]
 rw[OO (uh (by omega) (by omega)),Pu]
def cB {t:Tg}{L:List Nat}{fi:VF (List D)}{m:SF}{env:En}{β β1:Int}{ds:List D}(h:fi (vl env) β=.ok ds β1):cW t L fi m env β=eY t m ds (a9 L env) β1:=by unfold cW;rw[h];rfl
def Cd {m:Nat}(h:1<=m)(h2:m<=1000)(β:Int):∃j:Nat,j < m/\ku [.int m] β=.ok (.int (j:Int)) false (β / m):=by
 refine⟨(β % m).toNat,?_,?_⟩
 ·have h0:=QS β (b:=(m:Int)) (by omega)
  have h3:=QT β (b:=(m:Int)) (by omega)
  omega
 ·rw[uR (by omega) (by omega)]
  have h0:=QS β (b:=(m:Int)) (by omega)
  rw[show ((β % m).toNat:Int)=β % m by omega]
theorem u5 (p:Pr):∀l:List Pr,((l.map aC).any λe=>PyData.eqv e (aC p))=decide (p∈l)
 | []=>rfl
 |q :: l=>by
  rw[PH,Qu,u5 p l,CM,Px]
  simp only[Qd,O5,OR]
  exact⟨λh=>h.imp Eq.symm id,λh=>h.imp Eq.symm id⟩
def AD (l:List Pr):(l.map aC).all SeqAt.shaped=true:=by
 rw[O9]
 intro d hd
 obtain⟨p,_,rfl⟩:=Pp.mp hd
 exact o4 p
def oq (neg:Bool)(p:Pr)(l:List Pr):lW neg (aC p) (.tuple (l.map aC))=some (.bool (if neg then !decide (p∈l) else decide (p∈l))):=by
 unfold lW
 simp only[lH,o4,AD,QQ,Qs,u5]
def Gg (neg:Bool)(p:Pr)(l:List Pr):lW neg (aC p) (.list (l.map aC))=some (.bool (if neg then !decide (p∈l) else decide (p∈l))):=by
 unfold lW
 simp only[lH,o4,AD,QQ,Qs,u5]
def mC (neg:Bool)(i j:Int):eh neg (.int i) (.int j)=some (.bool (if neg then !decide (i=j) else decide (i=j))):=rfl
theorem z0 {fa fb:VF D}{vs:List Nv}{β:Int}{a b:Bool}(h:fa vs β=.ok (.bool a) β)(h':fb vs β=.ok (.bool b) β):gy fa fb vs β=.ok (.bool (a && b)) β:=by
 unfold gy
 rw[h]
 dsimp only[R.bnd]
 cases a with
 |true=>exact h'
 |false=>rfl
def eQ {fa fb:VF D}{vs:List Nv}{β:Int}{a b:Int}(h:fa vs β=.ok (.int a) β)(h':fb vs β=.ok (.int b) β):cC (aa fa (aa fb ag)) vs β=.ok (aC (a,b)) β:=by
 refine jF (ds:=[.int a,.int b]) ?_ (by simp)
 rw[ie,h]
 dsimp only[R.bnd]
 rw[ie,h'];rfl
def ED (l:List Pr)(p:Pr):Bool:= !decide (p.1=p.2) && (!decide ((p.1,p.2)∈l) && !decide ((p.2,p.1)∈l))
def Hx {n:Nat}{l:List Pr}{fa:VF D}{vs:List Nv}{β:Int}(h:fa vs β=.ok (ao n l) β):f2 fa (cst (.int 1)) bh vs β=.ok (.tuple (l.map aC)) β:=aF h rfl rfl
def Ha {n:Nat}{l:List Pr}{fa:VF D}{vs:List Nv}{β:Int}(h:fa vs β=.ok (ao n l) β):f2 fa (cst (.int 0)) bh vs β=.ok (.int n) β:=aF h rfl rfl
def L4:List D->FR:=aR 3 3 pd
def NI (n:Nat)(l:List Pr)(a b:Int):L4 [ao n l,.int a,.int b]=.ok (.bool (ED l (a,b))) false:=by
 show fin (toS (gy (f2 (gv 1) (gv 2) (eh true)) (gy (f2 (cC (aa (gv 1) (aa (gv 2) ag))) (f2 (gv 0) (cst (.int 1)) bh) (lW true)) (f2 (cC (aa (gv 2) (aa (gv 1) ag))) (f2 (gv 0) (cst (.int 1)) bh) (lW true))) [.da (ao n l),.da (.int a),.da (.int b)] 0) _)=_
 rw[z0 (aF (x:=.int a) (y:=.int b) rfl rfl (mC true a b)) (z0 (aF (eQ (a:=a) (b:=b) rfl rfl) (Hx (n:=n) (l:=l) rfl) (oq true (a,b) l)) (aF (eQ (a:=b) (b:=a) rfl rfl) (Hx (n:=n) (l:=l) rfl) (oq true (b,a) l)))]
 rfl
def kK:List D->FR:=aR 1 1 iX
def zU {n:Nat}(h1:1<=n)(h8:n<=8):kK [.int n]=.ok (.list ((OM.bN n).map aC)) true:=by
 have hm:n * n<=64:=Qf h8 h8
 have e:aK 1 [0] (.nm 0) (dM (f2 (gv 0) (gv 0) dA)) iB (cC (aa (f2 (gv 0) (gv 1) JH) (aa (f2 (gv 0) (gv 1) lE) ag))) [.da (.int n)] 0=.ok (.list ((OM.bN n).map aC)) 0:=by
  have hi:dM (f2 (gv 0) (gv 0) dA) [.da (.int n)] 0=.ok ((List.range (n * n)).map λ(k:Nat)=>int (0 + (k:Int))) 0:=by
   refine dE (n:=n * n) (aF (x:=.int n) (y:=.int n) rfl rfl ?_) (by omega)
   rw[p9 ⟨by omega,by omega⟩];rfl
  rw[bI (l:=List.range (n * n)) (e:=λ(k:Nat)=>int (0 + (k:Int))) (λk=>aC (((k / n:Nat):Int),((k % n:Nat):Int))) hi (by rw[Qb];omega) λk hk=>⟨_,rfl,?_⟩]
  ·unfold OM.bN;rw[Q0];rfl
  ·refine eQ (aF (x:=.int (0 + (k:Int))) (y:=.int n) rfl rfl ?_) (aF (x:=.int (0 + (k:Int))) (y:=.int n) rfl rfl ?_)
   ·rw[Hu (by omega) (by omega),Qe];rfl
   ·rw[oV (by omega),Qe];rfl
 show fin (iX [.fz (.int n)] 0)=_
 unfold iX
 rw[xm,show vl [Sl.fz (.int n)]= [.da (.int n)] from rfl,e];rfl
def m8 (n:Nat)(l:List Pr):List Pr:=(OM.bN n).filter (ED l)
def eV (n:Nat):(OM.bN n).length=n * n:=by unfold OM.bN;simp
def Gr {n:Nat}{l:List Pr}(h8:n<=8):(m8 n l).length<=64:=by
 have h1:(m8 n l).length<=(OM.bN n).length:=PF _ _
 rw[eV] at h1
 have:n * n<=64:=Qf h8 h8
 omega
def cR {n:Nat}{l:List Pr}{p:Pr}:p∈m8 n l↔((0<=p.1/\p.1 < n)/\(0<=p.2/\p.2 < n))/\ED l p=true:=by
 unfold m8;rw[OI,OM.bD]
noncomputable def rk:List D->FR:=aR 1 1 (pS eN kK L4)
def dI {fa:VF D}{vs:List Nv}{β:Int}{c:Bool}(h:fa vs β=.ok (.bool c) β):gu fa vs β=.ok c β:=by rw[vM,h];rfl
def FA {n:Nat}{l:List Pr}(O:OM.Ord n l):rk [ao n l]=.ok (.list ((m8 n l).map aC)) true:=by
 have hm:n * n<=64:=Qf O.hi O.hi
 show fin (pS eN kK L4 [.fz (ao n l)] 0)=_
 unfold pS
 rw[ay (env':=[.fz (ao n l)]) (β':=0) ?g1]
 case g1=>
  show toS (ai eN (aa (gv 0) ag) [.da (ao n l)] 0) _=_
  rw[aq (ds:=[ao n l]) rfl (lI O)];rfl
 have e:aK 2 [0] (.two 0 1) (ba (ai kK (aa (f2 (gv 0) (cst (.int 0)) bh) ag))) (gu (ai L4 (aa (gv 2) (aa (gv 0) (aa (gv 1) ag))))) (cC (aa (gv 0) (aa (gv 1) ag))) [.da (ao n l)] 0=.ok (.list ((m8 n l).map aC)) 0:=by
  have hi:ba (ai kK (aa (f2 (gv 0) (cst (.int 0)) bh) ag)) [.da (ao n l)] 0=.ok ((OM.bN n).map aC) 0:=by
   unfold ba
   rw[aq (ds:=[.int n]) rfl (zU O.lo O.hi)];rfl
  exact bY (l:=OM.bN n) (e:=aC) (ED l) aC hi (by rw[eV];omega) λp hp=>⟨_,rfl,dI (aq (ds:=[ao n l,.int p.1,.int p.2]) rfl (NI n l p.1 p.2)),λ_=>eQ rfl rfl⟩
 show fin (toS (aK 2 [0] (.two 0 1) (ba (ai kK (aa (f2 (gv 0) (cst (.int 0)) bh) ag))) (gu (ai L4 (aa (gv 2) (aa (gv 0) (aa (gv 1) ag))))) (cC (aa (gv 0) (aa (gv 1) ag))) [.da (ao n l)] 0) _)=_
 rw[e];rfl
end RM
namespace L2
open PySem PySem.Spec PyProof.Rows
section
variable {X:Cx}{pins:List (Addr×Obj)}{σ:St}{H:Hp}{s:Shared}
def Inv.turnedL {t':Nat}{ch:List Addr}{h':Heap}(I:Inv X pins σ H s)(k:∀b o,b∉ch->s.heap.get? b=some o->h'.get? b=some o)(hf:∀b∈ch,jU X pins H b):Inv X pins σ H {s with heap:=h',toks:=t'}:=by
 have nit:∀b u,H b=some u->b∉ch:=λb u e z=>by rw[(hf b z).1] at e;cases e
 have nL:X.env.locals∉ch:=λz=>(hf _ z).2.1 rfl
 refine I.step (g':=s.gens) (d':=s.drawn) (ch:=ch) (λb hb=>?_) (λb o _ _ hc e _=>k b o hc e) (λb o _ _ hc e _=>⟨o.slots,k b o hc e⟩) (λ_ _ _ _ n=>n)
  (λb o hc e=>⟨o,k b o hc e⟩) (λ_ _ e=>e) (λ_ _ _ e=>e) (λb ps e=>⟨#[],by rw[e];simp⟩) (λm hm=>?_) (λb u e=>?_) I.bare
 ·obtain⟨f0,f1,f2,f3,f4,f5⟩:=hf b hb
  exact⟨f3,f1,f4,f5⟩
 ·obtain⟨o,es,ep,ho,r⟩:=hm
  exact⟨o,es,ep,k _ o nL ho,r⟩
 ·refine (I.hok b u e).stay (λc v hc q=>k c v ?_ q) (λ_ q=>q) λ_ _ q=>q
  rcases hc with z |z
  ·rw[z];exact nit b u e
  ·exact nit c _ z
end
def Kg {n:Nat}(i j:Nat)(h:(i == j)=false):(n + i:Nat)≠n + j:=by
 have:i≠j:=by simpa using h
 omega
end L2
namespace RM
open PySem L2
def iN:SF:=(aG (bg 2 (([] ++ []) ++ []) (f2 (f2 (cst (.int 7919)) (gv 1) dA) (cst (.int 13)) cJ))
 (aG (j4 ([] ++ []) (dv (f2 (gv 1) (f1 (gv 0) cP) pY))
 (bg 2 ([] ++ []) (f2 (gv 0) (gv 1) bh))
 lC)
 (aG (j4 (([] ++ []) ++ []) (dv (f2 (f2 (gv 2) (cst (.int 2)) lE) (cst (.int 0)) (eh false)))
 (km (cy (aa (f2 (gv 2) (cst (.int 2)) JH) ag)))
 lC)
 (aG (bg 3 [] (cst (.int 0)))
 (aG (cW (.nm 4) [] (dM (cst (.int 16)))
 (aG (bg 5 ((((([] ++ []) ++ []) ++ ([] ++ [])) ++ []) ++ []) (f2 (f2 (f2 (f2 (f2 (gv 2) (cst (.int 2147483647)) lE) (cst (.int 48271)) dA) (f2 (cst (.int 7919)) (gv 4) dA) cJ) (cst (.int 1)) cJ) (cst (.int 2147483647)) lE))
 (aG (bg 5 (([] ++ []) ++ []) (f2 (f2 (gv 5) (gv 5) dA) (cst (.int 2147483629)) lE))
 (bg 3 (([] ++ []) ++ (([] ++ ([] ++ [])) ++ [])) (f2 (f2 (gv 3) (cst (.int 2147483647)) dA) (f2 (f2 (gv 5) (f2 (gv 5) (cst (.int 13)) cJ) dA) (cst (.int 2147483647)) lE) cJ)))))
 (km (cy (aa (gv 3) ag))))))))
def fq (b8:List D->Int->FB):SF:=(aG (ic 2 [] (f1 (gv 1) Hs))
 (aG (ic 3 [] (cy ag))
 (aG (gE ([] ++ []) (dv (f2 (gv 2) (cy ag) (eh true)))
 (k7 3 2 ([] ++ []) (xY 0 b8 (aa (f1 (gv 2) cP) ag))) 1000)
 (bJ (f1 (gv 3) lS)))))
def jJ:SF:=(aG (ic 2 [] (cy ag))
 (aG (cW (.nm 3) [] (dM (gv 0))
 (cW (.nm 4) [] (dM (gv 0))
 (j4 (([] ++ []) ++ ([] ++ [])) (BU (dv (f2 (gv 3) (gv 4) (eh true))) (gu (f1 (aK 1 [3,4] (.nm 0) (ba (gv 1)) iB (f2 (oX (gv 0) (gv 1)) (oX (gv 0) (gv 2)) pY)) (bo λbs=>bs.all id))))
 (lF 2 ([3] ++ ([4] ++ [])) (cC (aa (gv 3) (aa (gv 4) ag))))
 lC)))
 (bJ (f1 (gv 2) lS))))
end RM
namespace L2
open PySem PySem.Spec PyProof.Rows
section
variable {κ:Type}[DecidableEq κ]
def GU (kvs:List (κ×V))(k:κ):Option V:=(kvs.find? λkv=>decide (kv.1=k)).map (·.2)
def putK (kvs:List (κ×V))(k:κ)(v:V):List (κ×V):=
 if (kvs.any λkv=>decide (kv.1=k))=true then kvs.map (λkv=>if kv.1=k then (kv.1,v) else kv) else kvs ++ [(k,v)]
theorem Ey.getD {o:Option V}{u:Option Value}{d:V}{d':Value}(r:Ey o u)(rd:RelV d d'):RelV (o.getD d) (u.getD d'):=by
 cases o with
 |none=>cases u with
  |none=>exact rd
  |some _=>exact (show False from r).elim
 |some _=>cases u with
  |none=>exact (show False from r).elim
  |some _=>exact r
theorem KV.any {kvs:List (κ×V)}{vs:List (κ×Value)}(r:KV kvs vs)(k:κ):(kvs.any λkv=>decide (kv.1=k))=vs.any λkv=>decide (kv.1=k):=by
 unfold KV at r
 induction r with
 |nil=>rfl
 |cons h t ih=>rw[Qu,Qu,ih,h.1]
end
def FL (H:Hp)(a:Addr)(y:V)(r:Option V):Prop:=
 (∃kvs k,Rd H a (.dK kvs)/\y=kV k/\r=GU kvs k)\/∃kvs k b,Rd H a (.dT kvs)/\y=.ref b/\Rd H b (.tup (k.map kV))/\r=GU kvs k
def FH (H:Hp)(a:Addr)(y v:V)(H':Hp):Prop:=
 (∃kvs k,H a=some (.dK kvs)/\y=kV k/\kvs.length < sizeLine/\H'=upd H a (.dK (putK kvs k v)))\/
 ∃kvs k b,H a=some (.dT kvs)/\y=.ref b/\Rd H b (.tup (k.map kV))/\kvs.length < sizeLine/\H'=upd H a (.dT (putK kvs k v))
def FL.k {H:Hp}{a:Addr}{kvs:List (Key×V)}{k:Key}(e:H a=some (.dK kvs)):FL H a (kV k) (GU kvs k):=.inl ⟨kvs,k,.inl e,rfl,rfl⟩
def FL.t {H:Hp}{a b:Addr}{kvs:List (List Key×V)}{k:List Key}(e:H a=some (.dT kvs))(eb:Rd H b (.tup (k.map kV))):FL H a (.ref b) (GU kvs k):=.inr ⟨kvs,k,b,.inl e,rfl,eb,rfl⟩
def FH.k {H:Hp}{a:Addr}{kvs:List (Key×V)}{k:Key}{v:V}(e:H a=some (.dK kvs))(hl:kvs.length < sizeLine):FH H a (kV k) v (upd H a (.dK (putK kvs k v))):=.inl ⟨kvs,k,e,rfl,hl,rfl⟩
def FH.t {H:Hp}{a b:Addr}{kvs:List (List Key×V)}{k:List Key}{v:V}(e:H a=some (.dT kvs))(eb:Rd H b (.tup (k.map kV)))(hl:kvs.length < sizeLine) :
  FH H a (.ref b) v (upd H a (.dT (putK kvs k v))):=.inr ⟨kvs,k,b,e,rfl,eb,hl,rfl⟩
section
variable {X:Cx}{pos:Pos}
end
mutual
def Ki:D->Bool
 | .list ds=>C8 ds
 | .tuple ds=>C8 ds
 | .dict kvs=> !kvs.isEmpty && kvs.all λkv=>match kv.1,kv.2 with
  | .str _,.int _=>true
  |_,_=>false
 |_=>true
def C8:List D->Bool
 | []=>true
 |d :: ds=>Ki d && C8 ds
end
section
variable {prog:Program}{w:World}{A:Around}{E:Value->Shared->Prop}{s:Shared}{it t:Addr}{i:Nat}{xs:Array Value}{Q:Value->Shared->Prop}
theorem NJ (hi:s.heap.IsTupleIter it t i)(ht:s.heap.IsTuple t xs)
  (k1:∀x,xs[i]? =some x->∀h',h'.IsTupleIter it t (i + 1)->Heap.SameBut it s.heap h'->Q x {s with heap:=h'})
  (k2:xs[i]? =none->A.handled=none/\∀h' e,Heap.ExtBut it s.heap h'->(∃o,h'.get? e=some o/\o.cls=.type "StopIteration")->E (.ref e) {s with heap:=h'}) :
  wpAny (model prog w) A (Builtin.SmallTypes.nextOf (.ref it)) Q E s:=by
 obtain⟨o,ho,hc,hd⟩:=id hi
 obtain⟨ol,hol, -,nl,hdl⟩:=ht
 refine OT (wpAny_callSpecial?_slot (name:=Str.ofString "__next__") hi.typeIs F.slot_tuple_iterator_next (wpAny_call_entry F.slot_tuple_iterator_next hi.typeIs F.entry_tuple_iterator_next ?_ (F.args_tuple_iterator_next_1 _)))
 refine (show wpAny _ _ (field (.ref it) 0 >>= _) _ _ s from OT (Q7 ho hd (x:=.ref t) rfl ?_))
 refine (show wpAny _ _ (if (Value.ref t == Value.none)=true then _ else _) _ _ s from ?_)
 rw[OV (by exact O8)]
 refine (show wpAny _ _ (field (.ref it) 1 >>= _) _ _ s from OT (Q7 ho hd (x:=.int i 0) rfl ?_))
 refine (show wpAny _ _ (seqItems? (.ref t) >>= _) _ _ s from OT (wpAny_seqItems hol hdl ?_))
 cases hx:xs[i]? with
 |some x=>
  simp only[Pu,hx]
  refine OT (Rn ho hd (by simp) (Pl ⟨x,rfl,Pl (k1 x hx _ ?_ (Heap.SameBut.update ..))⟩))
  refine⟨_,QY _ ho (Obj.isFreed_of_fields (Rk hd _)),(Obj.cls_mapFields ..).trans hc,?_⟩
  rw[Rk hd]
  simp[rawInt]
 |none=>
  obtain⟨hh,hE⟩:=k2 hx
  simp only[Pu,hx]
  refine OT (wpAny_rule (OT (Rn ho hd (by simp) (show wpAny _ _ (newExc (.type "StopIteration") [] >>= _) _ _ _ from OT ?_))))
  simp only[newExc,newTuple]
  refine OT (wpAny_newObj_type (OT (m:=firstArgMember _ _) (wpAny_of_eq (a:=Value.none) (by first |rfl | (simp only[firstArgMember];rfl)) (wpAny_newObj_type ?_ (by size_fits)))) (by size_fits))
  simp only[raiseNew]
  refine OT (wpAny_handled ?_)
  have hh':A.in1.handled=none:=hh
  first |rw[hh'] |rw[hh]
  exact OT (Pl (wpAny_throw (hE _ _ (((Heap.SameBut.update ..).extBut.push _).push _) ⟨_,O0 _ rfl,rfl⟩)))
def IP (hh:A.handled=none)(hne:t≠it)(xs:Array Value):Draws prog w A it [it,t] xs.size (λi v=>xs[i]? =some v) (λi h=>h.IsTupleIter it t i/\h.IsTuple t xs) where
 live:=λ_ _ st=>let ⟨o,ho,_⟩:=st.1;⟨o,ho⟩
 frame:=λ_ _ _ st hk=>⟨st.1.at λo e=>hk it (by simp) o e,st.2.at λo e=>hk t (by simp) o e⟩
 item:=λi s Q E hi st k=>NJ st.1 st.2 (λx hx h' q1 q2=>k x h' s.toks hx ⟨q1,st.2.extBut q2.extBut hne⟩ q2) λz=>by simp at z;omega
 done:=λs Q E st k=>NJ st.1 st.2 (λx hx=>by simp at hx) λ_=>⟨hh,k⟩
end
abbrev Jl (t:Addr):Obj:={cls:=.type "tuple_iterator",data:=.fields #[.ref t,.int 0 0]}
abbrev Mw (it:Addr):Obj:={cls:=.type "enumerate",data:=.fields #[.none,.bool false,.ref it,rawInt 0,.none,.none]}
def CN (t:Addr)(xs:Array Value)(n:Nat)(dc:Option Addr)(sl:Array (Option Value)) :
  Meets (Builtin.«enumerate.__new__» ⟨[.type "enumerate",.ref t],[]⟩) (λ_ R s=>s.heap.get? t=some ⟨.type "tuple",dc,.seq xs n,sl⟩/\
   R (.ok (.ret (.ref (s.heap.push (Jl t)).objs.size))) {s with heap:=(s.heap.push (Jl t)).push (Mw s.heap.objs.size)}):=by
 refine .of_wp λprog w A R s h=>?_
 obtain⟨hp,g,d,tk,os⟩:=s
 obtain⟨hl,h⟩:=h
 have sb:=sub_enumerate
 have hT:Heap.IsTuple (Shared.heap ⟨hp,g,d,tk,os⟩) t xs:=⟨_,hl,rfl,n,rfl⟩
 wp_walk using Rm hl
 refine wpAny_stack_any λst=>Pl ?_
 split
 ·rename_i c _ _ _ _ _
  cases (c == Value.type "enumerate") <;> (wp_walk using Rm hl,QR hT;exact⟨_,rfl,h⟩)
 ·wp_walk using Rm hl,QR hT
  exact⟨_,rfl,h⟩
section
variable {prog:Program}{w:World}{A:Around}{E:Value->Shared->Prop}{s:Shared}
def yJ {t:Addr}{xs:Array Value}{Q:Value->Shared->Prop}(hT:s.heap.IsTuple t xs)
  (k:∀h',IsEnum h' (s.heap.objs.size + 1) s.heap.objs.size 0 .none->h'.IsTupleIter s.heap.objs.size t 0->(∀b o,s.heap.get? b=some o->h'.get? b=some o)->Q (.ref (s.heap.objs.size + 1)) {s with heap:=h'}) :
  wpAny (model prog w) A (call (.type "enumerate") [.ref t]) Q E s:=by
 obtain⟨⟨c,dc,dt,sl⟩,hl,hc,n,hd⟩:=hT
 have hc:c=.type "tuple":=hc
 have hd:dt=.seq xs n:=hd
 subst hc hd
 refine callType_new F.called_enumerate (by decide) (F.typeCall_enumerate_1 _) (F.newCall_enumerate_1 _) (λob=>F.args_object_init_2 ob _) F.entry_enumerate_new (CN t xs n dc sl) ⟨hl,?_⟩
 have hz:(s.heap.push (Jl t)).objs.size=s.heap.objs.size + 1:=Qo ..
 have g2:((s.heap.push (Jl t)).push (Mw s.heap.objs.size)).get? (s.heap.push (Jl t)).objs.size=some (Mw s.heap.objs.size):=O0 _ rfl
 have g1:((s.heap.push (Jl t)).push (Mw s.heap.objs.size)).get? s.heap.objs.size=some (Jl t):=OL _ (O0 _ rfl)
 rw[hz] at g2
 show _/\_
 rw[hz]
 exact⟨⟨_,g2,rfl⟩,k _ g2 ⟨_,g1,rfl,rfl⟩ λb o e=>OL _ (OL _ e)⟩
end
def Ir {prog:Program}{w:World}{A:Around}{it t:Addr}{xs:Array Value}(hh:A.handled=none)(i:Nat)(hx:xs[i]? =none):Draws prog w A it [it,t] i (λ_ _=>False) (λj h=>j=i/\h.IsTupleIter it t i/\h.IsTuple t xs) where
 live:=λ_ _ st=>let ⟨o,ho,_⟩:=st.2.1;⟨o,ho⟩
 frame:=λ_ _ _ st hk=>⟨st.1,st.2.1.at λo e=>hk it (by simp) o e,st.2.2.at λo e=>hk t (by simp) o e⟩
 item:=λj s Q E hi st k=>absurd st.1 (by omega)
 done:=λs Q E st k=>NJ st.2.1 st.2.2 (λx h=>by rw[hx] at h;cases h) λ_=>⟨hh,k⟩
def MT (K:Frag)(a:Addr):It:=
 ⟨λi H=>∃xs x,gA K H a xs/\xs[i]? =some x,
  λi H v H'=>∃x t,H t=none/\(∀xs,gA K H a xs->xs[i]? =some x)/\v=.ref t/\H'=upd H t (.tup [.int i,x]),
  λi H=>∃xs,gA K H a xs/\xs.length<=i⟩
abbrev rJ (n:Nat):List Nat:=[n + 1,n]
def A0 {h:Heap}{a n:Addr}{i:Nat}{its:Array Value}{b:Addr}(p:h.IsTuple a its)(q:h.IsTupleIter n b i):a≠n:=λz=>by
 subst z
 obtain⟨o,e,c,_⟩:=p
 obtain⟨o',e',c',_⟩:=q
 rw[e] at e';cases e'
 rw[c] at c'
 simp at c'
def BH {h:Heap}{a n it:Addr}{i:Int}{its:Array Value}{old:Value}(p:h.IsTuple a its)(q:IsEnum h n it i old):n≠a:=λz=>by
 subst z
 obtain⟨o,e,c,_⟩:=p
 rw[q] at e;cases e
 simp at c
def yc {P:Program}{w:World}{K:Frag}{elts:List Expr}{x1}{pos:Pos}(a:Addr)(n:Nat):Turn P w K (.Tuple elts x1 pos) (MT K a) (rJ n) (n + 1)
  (λi h=>(∃old,IsEnum h (n + 1) n i old)/\h.IsTupleIter n a i) where
 mem:=by simp
 obj:=λi h st c hc=>by
  obtain⟨⟨old,z1⟩,⟨o2,z2,_,d2⟩⟩:=st
  simp only[rJ,OR,PB,Qv] at hc
  rcases hc with rfl |rfl
  ·exact⟨_,z1,λv z=>by
    have z':Data.fields _=Data.cell v:=z
    cases z'⟩
  ·exact⟨o2,z2,λv z=>by rw[d2] at z;cases z⟩
 keep:=λi h h' st k=>by
  obtain⟨⟨old,z1⟩,z2⟩:=st
  exact⟨⟨old,k _ (by simp) _ z1⟩,z2.at λo e=>k _ (by simp) o e⟩
 item:=by
  intro X hP hw hK hc i pins s σ H E I hf st hg
  subst hP hw hK
  obtain⟨xs,x,ha,hx⟩:=hg
  obtain⟨its,rv,p,hz⟩:=I.tuple ha
  have p:s.heap.IsTuple a its.toArray:=p
  obtain⟨u0,hu0,ru0⟩:=rv.get hx
  obtain⟨⟨old,z1⟩,z2⟩:=st
  have hh:X.A.in1.handled=none:=I.ok.hd hc
  have hlt:i < its.toArray.size:=by
   have:=OQ.mp hu0
   simpa using this.1
  refine wpAny_pyNext_enum_itemD (IP hh (A0 p z2) its.toArray) z1 ⟨z2,p⟩ hlt (Kg 1 0 rfl) (by
   simp only[OR,PB,Qv,not_or]
   exact⟨Kg 1 0 rfl,BH p z1⟩) λu h' tk hu q1 q2 q3 q4 q5=>?_
  have eu:u0=u:=by
   have hu:its.toArray[i]? =some u:=hu
   rw[List.getElem?_toArray,hu0] at hu
   exact Option.some.inj hu
  subst eu
  refine⟨_,rfl,wpAny_letOwnedTupleGo_enum (s:={s with heap:=h',toks:=tk + 1}) q1 λh2 r1 r2=>?_⟩
  have r2:∀c,c≠n + 1->h2.get? c=h'.get? c:=r2.2
  have lz:n + 1 < s.heap.objs.size:=OZ z1
  have hT:H s.heap.objs.size=none:=I.hok.fresh (ON _)
  have I1:Inv X pins σ (upd H s.heap.objs.size (.tup [.int i,x])) {s with heap:=s.heap.push {cls:=.type "tuple",data:=.seq #[.int i tk,u0]},toks:=s.toks}:=
   I.laid (λb o e=>OL _ e) (ON _) ⟨by show 2<=sizeLine;rw[PJ];omega,[.int i tk,u0],.cons ⟨tk,rfl⟩ (.cons ru0 .nil),rM.new _ _⟩
  have hf':∀c∈rJ n,jU X pins (upd H s.heap.objs.size (.tup [.int i,x])) c:=λc hc=>⟨by
   rw[aA (λz=>?_)]
   ·exact (hf c hc).1
   ·subst z
    simp only[rJ,OR,PB,Qv] at hc
    omega,(hf c hc).2⟩
  have I2:Inv X pins σ (upd H s.heap.objs.size (.tup [.int i,x])) {s with heap:=h2,toks:=tk + 1}:=by
   refine I1.turnedL (ch:=rJ n) (λc o hc e=>?_) hf'
   have e:(s.heap.push {cls:=.type "tuple",data:=.seq #[.int i tk,u0]}).get? c=some o:=e
   simp only[rJ,OR,PB,Qv,not_or] at hc
   rw[r2 c hc.1]
   by_cases z:c=s.heap.objs.size
   ·subst z
    rw[O0 _ rfl] at e
    rw[<-e];exact q3
   ·refine q5 c o hc.1 hc.2 ?_
    rw[Heap.get?_push_ne _ _ _ z] at e
    exact e
  refine⟨.ref s.heap.objs.size,_,I2,rfl,⟨x,_,hT,λxs' h'=>?_,rfl,rfl⟩,⟨⟨u0,r1⟩,q2.1.at λo e=>(r2 _ (Kg 0 1 rfl)).trans e⟩,λc hc=>(hf' c hc).1⟩
  rw[I.tuple_inj h' ha];exact hx
 done:=by
  intro X hP hw hK hc i pins s σ H E I hf st hg
  subst hP hw hK
  obtain⟨xs,ha,hl⟩:=hg
  obtain⟨its,rv,p,hz⟩:=I.tuple ha
  obtain⟨⟨old,z1⟩,z2⟩:=st
  have hh:X.A.in1.handled=none:=I.ok.hd hc
  have l1:=rv.length
  refine wpAny_pyNext_enum_endD (Ir hh i (xs:=its.toArray) (by simp;omega)) z1 ⟨rfl,z2,p⟩ λh' q=>⟨rfl,?_⟩
  refine I.turnedL (t':=s.toks) (ch:=rJ n) (λc o hc e=>?_) hf
  simp only[rJ,OR,PB,Qv,not_or] at hc
  exact q c o hc.2 e
 self:=λ_ _ _ _ _ st h=>by
  obtain⟨⟨old,z1⟩,_⟩:=st
  exact QW z1 h
def sW:bootBuiltins "enumerate"=some (.type "enumerate"):=by decide +kernel
section
variable {X:Cx}{Γ:Fx}{E:XK}{e a b c:Expr}{f fa fb:VF D}{L La Lb:List Nat}{md ma mb:Md}{pos:Pos}
def dz (ds:List D):List D:=ds.mapIdx λi d=>.tuple [.int i,d]
def Cf {K:Frag}{B:Option Addr}{G H1:Hp}{p:Addr}{xs:List V}{ds:List D}(hp:gA K G p xs)(r:cx K G xs ds):Walk K B G H1 (dz ds) (MT K p):=λGc H i s1 s2 m=>by
 have hp':=hp.grow (s1.trans s2).grow
 have l1:=r.len
 have lz:(dz ds).length=ds.length:=by unfold dz;rw[List.length_mapIdx]
 refine⟨λhi=>⟨?_,λx H' y=>?_⟩,λhi=>⟨xs,hp',by omega⟩⟩
 ·have h1:i < xs.length:=by omega
  exact⟨xs,xs[i],hp',by simp[h1]⟩
 ·obtain⟨x,t,ht,hx,rfl,rfl⟩:=y
  obtain⟨d,ed,rd⟩:=r.at' (hx xs hp')
  have xn:=Ext.new s2 (o:=.tup [.int i,x]) ht
  refine⟨upd Gc t (.tup [.int i,x]),.tuple [.int i,d],xn,?_,.tup (.inl (.inl aE)) (.cons (.int i) (.cons (rd.mono (s1.trans xn.gg)) .nil))⟩
  unfold dz
  rw[Q6,ed];rfl
end
end L2
namespace L2
open PySem PySem.Spec PyProof.Rows PySem.MeetsSeq PySem.MeetsSeq2 PySem.MeetsSeq3
def Hy (K:Frag):R2:=λx y H Q=>∃a b xs ys,x=.ref a/\y=.ref b/\gA K H a xs/\gA K H b ys/\xs.length + ys.length<=sizeLine/\
 (xs= []->Q (.ref b) H)/\(xs≠ []->ys= []->Q (.ref a) H)/\(xs≠ []->ys≠ []->∀p,H p=none->Q (.ref p) (upd H p (.tup (xs ++ ys))))
section
variable {X:Cx}
def wt:mT X (binaryOp .Add) (Hy X.K):=by
 intro pins s σ H x y v u Q I rx ry h
 obtain⟨a,b,xs,ys,rfl,rfl,ha,hb,hz,q0,q1,q2⟩:=h
 by_cases hx:xs= []
 ·cases rx
  cases ry
  obtain⟨its,r1,p1,_⟩:=I.tuple ha
  obtain⟨its2,r2,p2,_⟩:=I.tuple hb
  obtain⟨⟨cls,dd,data,sl⟩,ho,hc,n,hd⟩:=id p1
  obtain⟨⟨cls2,dd2,data2,sl2⟩,ho2,hc2,n2,hd2⟩:=id p2
  simp only at hc hd hc2 hd2
  subst hc hd hc2 hd2
  have he:its= []:=r1.nil_iff.mpr hx
  exact concat_meets ⟨_,ho,rfl⟩ ⟨_,ho2,rfl⟩ noFill_tuple_add seq_tuple_add PySem.F.slot_tuple_add PySem.F.entry_tuple_add (Rg _ _)
   (tuple_addW0 a b its.toArray its2.toArray n n2 dd dd2 sl sl2 (by simp[he])) ⟨ho,ho2,.ref b,H,I,rfl,q0 hx⟩
 ·exact Gw pins s σ H _ _ v u Q I rx ry ⟨a,b,xs,ys,rfl,rfl,ha,hb,hx,hz,q1 hx,q2 hx⟩
end
def oa:D->D->Option D
 | .tuple a,.tuple b=>if a.length + b.length<=sizeLine then some (.tuple (a ++ b)) else none
 |_,_=>none
def Ci {K:Frag}:nN K (Hy K) oa .v:=by
 intro B G H x y dx dy d Q s hB bx by' e k
 cases dx <;> cases dy <;> first | (cases e;done) |skip
 rename_i a b
 simp only[oa] at e
 split at e
 ·rename_i hz
  cases e
  rcases bx with bx | ⟨_,_,_,q⟩
  case inr=>exact q.elim
  rcases by' with by' | ⟨_,_,_,q⟩
  case inr=>exact q.elim
  cases bx with
  | @tup p xs _ hp r1=>
   cases by' with
   | @tup q ys _ hq r2=>
    refine⟨p,q,xs,ys,rfl,rfl,hp.grow s.grow,hq.grow s.grow,by rw[r1.len,r2.len];exact hz,λz=>?_,λz z'=>?_,λ_ _ l hl=>?_⟩
    ·subst z
     cases r1
     exact k _ G H (Ext.refl s) (.tup hq r2)
    ·subst z'
     cases r2
     rw[P2] at k
     exact k _ G H (Ext.refl s) (.tup hp r1)
    ·have xn:=Ext.new s (o:=.tup (xs ++ ys)) hl
     exact k _ _ _ xn (.tup (.inl (.inl aE)) ((r1.append r2).mono xn.gg))
 ·cases e
end L2
section
namespace HT
open PySem PyProof.Rows PySem.Builtin PyProof
end HT
namespace L2
open PySem PySem.Spec PyProof.Rows
section
variable {X:Cx}{Γ:Fx}{E:XK}{e a:Expr}{te:TE}{fa:VF D}{La:List Nat}{ma:Md}{pos p2 p3 p4:Pos}{j:Nat}
theorem cx.reverse {K:Frag}{G:Hp}:∀{xs:List V} {ds:List D},cx K G xs ds->cx K G xs.reverse ds.reverse
 |_,_,.nil=>.nil
 |_,_,.cons h hs=>by rw[QV,QV];exact (cx.reverse hs).snoc h
end
end L2
end
namespace L2.ST
open PySem PySem.SetTable
section
variable {prog:Program}{w:World}{A:Around}{E:Value->Shared->Prop}{s:Shared}
set_option maxHeartbeats 3200000 in
theorem sd {l:Addr}{vs:List Value}{ns:List Int}{T:String}{itO:Obj}{St:Addr->Nat->Heap->Prop}{Q:Value->Shared->Prop}(X:Src prog w s.heap l vs T itO St)(hh:A.handled=none)(hi:PyProof.Rows.IntsAre vs ns)(hb:vs.length + 1 < scanBound)
  (h:∀(h':Heap) (tk:Nat),h'.SetOf (intKind prog w) s.heap.objs.size (λk'=>(PyProof.Rows.firstMet (λi=>ns.getD i 0) vs.length).any (· == k')) (PyProof.Rows.firstMet (λi=>ns.getD i 0) vs.length).length->(∀b o,s.heap.get? b=some o->h'.get? b=some o)->Q (.ref s.heap.objs.size) {s with heap:=h',toks:=tk}) :
  wpAny (model prog w) A (call (.type "set") [.ref l]) Q E s:=by
 obtain⟨c0,tl0,hmro0⟩:=QL.mro
 have hmade0:=QL.made
 have hsub0:=QL.sub
 refine wpAny_call (codeAny_of_tree ?_)
 show wpAny _ _ (callAny (.type "set") ⟨[.ref l],[]⟩) _ _ _
 refine Pl ⟨Code.quiet_builtin _ (by decide +kernel),Q9 F.entry_type_call ?_⟩
 (rw[Around.under_plain (weight_type_call_type "set" [.ref l] []) rfl])
 have g1:=QL.notType
 have g2:=QL.canCreate
 have g3:=F.typeCall_set_1 (.ref l)
 repeat (any_goals (first |assumption |wp_step))
 refine Rb (xu (.ref l) (E:=E) (Q1:=λobj s1=>obj=.ref s.heap.objs.size/\s1={s with heap:=s.heap.push {cls:=.type "set",dict:=none,data:=.set #[] 0 (.fresh 0 0 (xq w))}}) ⟨rfl,rfl⟩) λr s1 hr=>?_
 cases r with
 |error e=>exact hr
 |ok fl=>
  cases fl with
  |ret obj=>
   obtain⟨rfl,rfl⟩:=hr
   generalize hO:({cls:=.type "set",dict:=none,data:=.set #[] 0 (.fresh 0 0 (xq w))}:Obj)=O
   have hS0:(s.heap.push O).get? s.heap.objs.size=some O:=O0 _ (by rw[<-hO];rfl)
   have hT0:Shared.TypeIs {s with heap:=s.heap.push O} (.ref s.heap.objs.size) "set":=⟨_,hS0,by rw[<-hO]⟩
   have g4:=QL.init.lookup
   have g5:=QL.init.bind (.ref s.heap.objs.size)
   repeat (any_goals (first |assumption |wp_step))
   refine Rb (codeAny_call_builtin (R:=wants (λr s2=>r=.none/\∃h' tk,s2={s with heap:=h',toks:=tk}/\h'.SetOf (intKind prog w) s.heap.objs.size (λk'=>(PyProof.Rows.firstMet (λi=>ns.getD i 0) vs.length).any (· == k')) (PyProof.Rows.firstMet (λi=>ns.getD i 0) vs.length).length/\(∀b o,s.heap.get? b=some o->h'.get? b=some o)) E)
    QL.init.plain F.entry_set_init (check_set_init_1 hT0 ?_)) λr2 s2 hr2=>?_
   ·obtain⟨ol,hol,hcl⟩:=X.ty
    have hol':(s.heap.push O).get? l=some ol:=OL _ hol
    have e1:=X.ns
    have e2:=X.nf
    have e3:=X.nd
    have hTl:Shared.TypeIs {s with heap:=s.heap.push O} (.ref l) T:=⟨ol,hol',hcl⟩
    have hdat:O.data=.set #[] 0 (.fresh 0 0 (xq w)):=by rw[<-hO]
    (unfold Builtin.«set.__init__» noKeywords Builtin.Frozenset.updateFrom)
    subst hO
    obtain⟨oc,od,odt,osl⟩:=ol
    simp only at hcl
    subst hcl
    (generalize hPI0:pyIter=PI0)
    wp_walk
    subst hPI0
    have kp:∀b o,s.heap.get? b=some o->(s.heap.push {cls:=.type "set",dict:=none,data:=.set #[] 0 (.fresh 0 0 (xq w))}).get? b=some o:=λb o e=>OL _ e
    refine X.it _ _ _ _ kp ?_
    refine OT (wpAny_runValue ?_)
    have hlS:l < s.heap.objs.size:=OZ hol
    have hh3:A.in1.in1.in1.handled=none:=by simp[hh]
    have hneI:l≠(s.heap.push {cls:=.type "set",dict:=none,data:=.set #[] 0 (.fresh 0 0 (xq w))}).objs.size:=by
     rw[Qo];exact PN (Nat.lt_succ_of_lt hlS)
    have hSf:s.heap.objs.size∉ [(s.heap.push {cls:=.type "set",dict:=none,data:=.set #[] 0 (.fresh 0 0 (xq w))}).objs.size,l]:=by
     rw[Qo]
     intro z
     rcases OR.mp z with e |z
     ·exact absurd e (PN (Nat.lt_succ_self _))
     ·exact absurd (O3.mp z) (Nat.ne_of_gt hlS)
    refine PyProof.Rows.codeAny_set_update_loopS ((X.wk _ _ hh3 hneI).toS) s.heap.objs.size hSf (λi=>ns.getD i 0) (λi v e=>PyProof.Rows.IntsAre.int_at hi i v e) hb (vs.length - 0) 0 _ (by omega) (PX _) (X.st _ kp) ?_ ?_
    ·exact PyProof.Rows.SetOf_congr ((PyProof.Rows.setObjOf_fresh (knd:=intKind prog w) (xq w)).setOf (OL _ hS0) (by unfold scanBound;omega)) (λ_=>rfl) rfl
    ·intro s' hm F'
     obtain⟨h',g',d',tk,os'⟩:=s'
     have eg:g'=s.gens:=hm.gens
     have ed:d'=s.drawn:=hm.drawn
     have eo:os'=s.os:=hm.os
     subst eg;subst ed;subst eo
     show wpAny _ _ _ _ _ _
     refine Pl ?_
     show wpAny _ _ (ret Value.none) _ _ _
     refine Pl ⟨rfl,h',tk,rfl,F',λb o e=>hm.heap b o (λz=>?_) (OL _ (kp b o e))⟩
     have hlt:=OZ e
     rw[Qo] at z
     rcases OR.mp z with z |z
     ·exact absurd hlt (by rw[z];exact Pw _)
     ·rw[O3.mp z] at hlt
      exact absurd hlt (Nat.not_lt.mpr (Nat.le_succ _))
   ·cases r2 with
    |error e=>exact hr2
    |ok fl2=>
     cases fl2 with
     |ret r=>
      obtain⟨rfl,h',tk,rfl,hF,hk⟩:=hr2
      repeat (any_goals (first |assumption |wp_step))
      exact h _ _ hF hk
     |_=>exact hr2.elim
  |_=>exact hr.elim
end
end L2.ST
namespace L2
open PySem PyProof.Rows
section
variable {X:Cx}{K:Frag}{pins:List V}{σ:St}{H:Hp}{s:Shared}{E:XK}
def Kw (ns:List Int)(k:Int):Bool:=(firstMet (λi=>ns.getD i 0) ns.length).any (· == k)
def rW (ns:List Int):Nat:=(firstMet (λi=>ns.getD i 0) ns.length).length
def HP (K:Frag):List V->Hp->VK->Prop:=λxs H Q=>∃a ns,xs= [.ref a]/\(iF K H a (ns.map V.int)\/gA K H a (ns.map V.int))/\ns.length<=1000/\∀S,H S=none->Q (.ref S) (upd H S (.set (Kw ns) (rW ns)))
def BV (hc:X.calm=true):fU X (.type "set") (HP X.K):=by
 intro pins s σ H xs us Q I r h
 obtain⟨a,ns,rfl,hq,hz,q⟩:=h
 obtain⟨u,rfl,rx⟩:=vals1 r
 cases rx
 have hh:=I.ok.hd hc
 have core:∀{its:List Value} {T:String} {itO:Obj} {St:Addr->Nat->Heap->Prop},Vals (ns.map V.int) its->L2.ST.Src X.prog X.w s.heap a its T itO St->wpAny (model X.prog X.w) X.A (call (.type "set") [.ref a]) (EP X pins σ Q) X.xe s:=λ{its T itO St} rv src=>by
  have hl:its.length=ns.length:=by rw[<-rv.length,OK]
  refine L2.ST.sd src hh (intsAre_of rv) (by unfold scanBound;omega) λh' tk F k=>?_
  rw[hl] at F
  exact⟨.ref _,_,I.laid (t':=tk) (o:=.set (Kw ns) (rW ns)) k (ON _) F,rfl,q _ (I.hok.fresh (ON _))⟩
 rcases hq with hq |hq
 ·obtain⟨its,rv,pl,hz⟩:=I.list hq
  exact core rv (L2.ST.Src.list pl.isList)
 ·obtain⟨its,rv,pl,hz⟩:=I.tuple hq
  exact core rv (L2.ST.Src.tuple pl)
def AV:fU X (.builtin "len") (λxs H Q=>∃S f n,xs= [.ref S]/\H S=some (.set f n)/\Q (.int n) H):=by
 intro pins s σ H xs us Q I r h
 obtain⟨S,f,n,rfl,hS,q⟩:=h
 obtain⟨u,rfl,rx⟩:=vals1 r
 cases rx
 obtain⟨o,es,ep,t,ho,hex,hd,_,_,hb,hf,e⟩:s.heap.SetOf (intKind X.prog X.w) S f n:=I.hok _ _ hS
 refine call_len_set ho hex hd hf (by unfold scanBound at hb;omega) ⟨.int n,H,I.tok _,⟨_,by rw[e]⟩,q⟩
def p5 (d:D):Option D:=match lH d with
 |some ds=>(match jj ds with
  |some ns=>if ns.length<=1000 then some (.int (rW ns)) else none
  |none=>none)
 |none=>none
theorem cx.intsB {G:Hp}:∀{ns:List Int} {xs:List V},cx K G xs (ns.map int)->xs=ns.map V.int
 | [],_,.nil=>rfl
 |n :: ns,_,.cons r t=>by cases r;rw[cx.intsB t];rfl
variable {Γ:Fx}{e a b c:Expr}{f fa fb fc:VF D}{L La Lb:List Nat}{md ma mb mc:Md}{pos:Pos}
theorem AI {p1 p2 pos2:Pos}(hc:X.calm=true)(hK:X.K=Γ.K)(hg:Gl X "len")(hm:X.mg "len"=none)(hg2:Gl X "set")(hm2:X.mg "set"=none)(ha:SE X Γ E a fa La ma)
  (he:starEach [a] X.env=(false,eval a X.env) :: starEach [] X.env:=by rfl)
  (he2:starEach [.Call (.Name "set" p2) [a] [] pos2] X.env=(false,eval (.Call (.Name "set" p2) [a] [] pos2) X.env) :: starEach [] X.env:=by rfl) :
  SE X Γ E (.Call (.Name "len" p1) [.Call (.Name "set" p2) [a] [] pos2] [] pos) (f1 fa p5) La .v:=by
 refine PE.post' (lK AV hg hm (by decide +kernel) (a8 (j9 (BV hc) hg2 hm2 (by decide +kernel) (a8 ha bV he) (by decide) (by decide) he) bV he2) (by decide) (by decide) he2) λσ H Q ⟨env,G,B,β,I,o⟩=>?_
 refine kB (r:=λx H1 Q=>HP X.K [x] H1 λy H2=>∃S f n,[y]= [V.ref S]/\H2 S=some (.set f n)/\Q (.int n) H2) ?_ I o
 intro B G H x dx d Q s hB bx e k
 rw[hK]
 unfold p5 at e
 cases q:lH dx with
 |none=>rw[q] at e;cases e
 |some ds=>
  rw[q] at e
  dsimp only at e
  cases q2:jj ds with
  |none=>rw[q2] at e;cases e
  |some ns=>
   rw[q2] at e
   dsimp only at e
   split at e
   ·rename_i hz
    cases e
    obtain⟨p,xs,rfl,hq,r⟩:=bx.seq q s
    rw[og q2] at r
    have r:=r.intsB
    subst r
    exact⟨p,ns,rfl,hq,hz,λS hS=>⟨S,_,_,rfl,aE,k _ _ _ (Ext.own s hS) (.int _)⟩⟩
   ·cases e
end
end L2
namespace L2
open PySem
mutual
def l9:D->Bool
 | .none=>true
 | .bool _=>true
 | .int _=>true
 | .str _=>true
 | .tuple ds=>bP ds
 | .list _=>false
 | .dict _=>false
def bP:List D->Bool
 | []=>true
 |d :: ds=>l9 d && bP ds
end
section
variable {P:Program}{w:World}{K:Frag}{mg:Str->Option Value}{base:Heap}{ca:Str->Addr}{G G' H H':Hp}
mutual
theorem Rp.flat (s:av G H)(s':av G' H):∀{x:V} {d:D},Rp K G' x d->l9 d=true->Rp K (gL G H) x d
 |_,_,.non,_=>.non
 |_,_,.bl b,_=>.bl b
 |_,_,.int i,_=>.int i
 |_,_,.str x,_=>.str x
 |_,_,.tup h hs,e=>.tup (qJ s (h.grow s'.grow)) (cx.flat s s' hs (by simpa[l9] using e))
 |_,_,.lst h hs,e=>by simp[l9] at e
 |_,_,.scr h,e=>by simp[l9] at e
 |_,_,.dK h hs,e=>by simp[l9] at e
 |_,_,.dT h hs,e=>by simp[l9] at e
theorem cx.flat (s:av G H)(s':av G' H):∀{xs:List V} {ds:List D},cx K G' xs ds->bP ds=true->cx K (gL G H) xs ds
 |_,_,.nil,_=>.nil
 |_,_,.cons h hs,e=>by
  simp only[bP,O2] at e
  exact .cons (Rp.flat s s' h e.1) (cx.flat s s' hs e.2)
end
def oM (F:List D->FR):List D->FR:=λds=>match F ds with
 | .ok (.list es) false=>.ok (.list es) (bP ds && bP es)
 |r=>r
def uP {F:List D->FR}{ds es:List D}(e:F ds=.ok (.list es) false)(h1:bP ds=true)(h2:bP es=true):oM F ds=.ok (.list es) true:=by
 unfold oM;rw[e];dsimp only;rw[h1,h2];rfl
def B5:Hp:=λ_=>none
def ke:av B5 H:=λb o e=>by cases e
theorem u9 {b:Addr}{o:HO}(h:gL B5 H b=some o):Fz o:=by
 unfold gL at h
 have e:B5 b=none:=rfl
 rw[e] at h
 cases q:H b with
 |none=>rw[q] at h;cases h
 |some u=>
  rw[q] at h
  dsimp only at h
  split at h
  ·rename_i f;cases h;exact f
  ·cases h
def G9 {n:Nat}{F:List D->FR}{vs:List V}{Q:VK}{E:XK}(q:EB K ca n (oM F) vs H Q E):EB K ca n F vs H Q E:=by
 obtain⟨G,ds,sG,hl,r,q⟩:=q
 by_cases z:∃es,F ds=.ok (.list es) false/\bP ds=true/\bP es=true
 ·obtain⟨es,e,h1,h2⟩:=z
  rw[uP e h1 h2] at q
  have sn:av (gL B5 G) H:=(kg ke).trans sG
  refine⟨gL B5 G,ds,sn,hl,r.flat ke (av.refl _) h1,?_⟩
  rw[e]
  intro v G' H' hh g1 g2 hn fv
  have fv:Rp K G' v (.list es):=fv
  cases fv with
  | @lst a xs _ ha hs=>
   have hH':H' a=some (.lst xs):=g2 _ _ ha
   have hHa:H a=none:=by
    cases z:H a with
    |none=>rfl
    |some o=>
     have z':=uV (hh _ _ z) hH'
     subst z'
     have hm:Mx H a:=Mx.lst z
     have:gL B5 G a=none:=by
      cases y:gL B5 G a with
      |none=>rfl
      |some o=>
       have y':=uV (sn _ _ y) z
       subst y'
       exact (u9 y).elim
     rw[hn a hm this] at ha
     cases ha
   have sG':av G H':=sG.trans hh
   refine q (.ref a) (gL G H') H' hh oN (kg sG') (λb m e=>by rw[u4 hh m];exact e) ?_
   refine⟨a,rfl,hHa,?_,xs,hH',hs.flat sG' g2 h2⟩
   unfold gL
   rw[sG.free hHa,hH']
   exact OV λf=>f
 ·have:oM F ds=F ds:=by
   unfold oM
   split
   ·rename_i es e
    have hf:(bP ds && bP es)=false:=by
     cases y:(bP ds && bP es) with
     |false=>rfl
     |true=>rw[O2] at y;exact absurd ⟨es,e,y.1,y.2⟩ z
    rw[hf,e]
   ·rfl
  rw[this] at q
  exact⟨G,ds,sG,hl,r,q⟩
def bM.new {x:Str}{ps:List Str}{k:Nat}{F:List D->FR}(h:bM P w K mg base ca x ps k F):bM P w K mg base ca x ps k (oM F):=by
 obtain⟨f,fd,a,b,c,d⟩:=h.ex
 refine⟨⟨f,fd,a,b,c,d.imp λvs H Q E q=>G9 q⟩,λds hn=>h.len ds λz=>hn ?_⟩
 unfold oM;rw[z]
end
section
variable {K:Frag}{h:Heap}{mg:Str->Option Value}
theorem tO {α:Type}{P:List α->Prop}(q:∀a,P [a]):∀us:List α,us.length=1->P us
 | [a],_=>q a
theorem ln2 {α:Type}{P:List α->Prop}(q:∀a b,P [a,b]):∀us:List α,us.length=2->P us
 | [a,b],_=>q a b
theorem IH {α:Type}{P:List α->Prop}(q:∀a b c,P [a,b,c]):∀us:List α,us.length=3->P us
 | [a,b,c],_=>q a b c
theorem Ol {α:Type}{P:List α->Prop}(q:∀a b c d,P [a,b,c,d]):∀us:List α,us.length=4->P us
 | [a,b,c,d],_=>q a b c d
theorem Ov {α:Type}{P:List α->Prop}(q:∀a b c d e,P [a,b,c,d,e]):∀us:List α,us.length=5->P us
 | [a,b,c,d,e],_=>q a b c d e
def aP (x:Str)(st:Stmt)(ps:List Str):Prop:=∀(kV doc pm:Value) (an:Option Addr) (cdv ct:Value) (us:List Value),us.length=ps.length->bindArgs (PySem.W.fnOf x x (i2 st) (cZ st) (ar st) .none kV doc pm an cdv ct) ⟨us,[]⟩=pure (ps.zip us)
structure Fo (K:Frag)(mg:Str->Option Value)(x:Str)(st:Stmt)(ps:List Str):Prop where
 ex:∃f fd,gx K mg x st ps f fd
def bj {x:Str}{st:Stmt}{ps:List Str}{f:Addr}{oc:Value}{od an:Option Addr}{sl:Array (Option Value)}{kV doc pm cdv ct:Value}(X:K.In h)(G:h.Ns mainGlobals mg)(b:aP x st ps)(a:PySem.W.nsIn K mainGlobals x=some (some (.ref f)))
  (l:K.lookup f=some ⟨oc,od,.func (PySem.W.fnOf x x (i2 st) (cZ st) (ar st) .none kV doc pm an cdv ct),sl⟩) (c:PySem.W.codeIn K cdv x=true) (k:PySem.W.keepIn K (.ref f)=true):Fo K mg x st ps:=
 ⟨⟨f,_,QB X G a,qY l c k,(qY l c k).binds b⟩⟩
def NF:List Str:=["len","range","enumerate","zip","min","max","sum","abs","sorted","reversed","int","str","bool","list","tuple","dict","set","isinstance","repr","any","all","divmod"]
def NW (K:Frag):Bool:=NF.all λx=>match PySem.W.nsIn K mainGlobals x with
 |some none=>true
 |_=>false
def IL (q:NW K=true){x:Str}(hx:x∈NF):PySem.W.nsIn K mainGlobals x=some none:=by
 have:=O9.mp q x hx
 split at this
 ·assumption
 ·cases this
def Lu (X:K.In h)(G:h.Ns mainGlobals mg)(q:NW K=true):hX mg:=by
 have key:∀{x:Str},x∈NF->mg x=none:=λhx=>PySem.W.mg_none_of X G (IL q hx)
 constructor <;> exact key (by decide)
end
section
variable {X:Cx}{P:Program}{w:World}{K:Frag}{mg:Str->Option Value}{base:Heap}{ca:Str->Addr}
def j6 (step:(List D->FR)->List D->FR):Nat->List D->FR
 | 0=>λ_=>.bad
 |n + 1=>step (j6 step n)
theorem zw {x:Str}{st:Stmt}{ps:List Str}{f:Addr}{fd:FuncData}{j:Nat}{step:(List D->FR)->List D->FR}(F:gx K mg x st ps f fd)
  (h:∀(k:Nat) (F':List D->FR),j<=k->bM P w K mg base ca x ps k F'->bM P w K mg base ca x ps (k + 1) (step F')):∀n,bM P w K mg base ca x ps (j + n) (j6 step n)
 | 0=>⟨⟨f,fd,F.mg,F.F.kp,F.b,Dc⟩,λds hn=>(hn rfl).elim⟩
 |n + 1=>h (j + n) _ (Nat.le_add_right _ _) (zw F h n)
end
end L2
namespace L2
open PySem PySem.Spec PyProof.Rows
def He {prog:Program}{w:World}{A:Around}{it t:Addr}{xs:Array Value}(hh:A.handled=none)(i:Nat)(hx:xs[i]? =none):Draws prog w A it [it,t] i (λ_ _=>False) (λj h=>j=i/\h.IsListIter it t i/\h.IsList t xs) where
 live:=λ_ _ st=>let ⟨o,ho,_⟩:=st.2.1;⟨o,ho⟩
 frame:=λ_ _ _ st hk=>⟨st.1,st.2.1.at λo e=>hk it (by simp) o e,st.2.2.at λo e=>hk t (by simp) o e⟩
 item:=λj s Q E hi st k=>absurd st.1 (by omega)
 done:=λs Q E st k=>wpAny_nextOf_list_end hh st.2.1 st.2.2 hx k
def Hh (K:Frag)(a:Addr):It:=
 ⟨λi H=>∃xs x,iF K H a xs/\xs[i]? =some x,
  λi H v H'=>∃x t,H t=none/\(∀xs,iF K H a xs->xs[i]? =some x)/\v=.ref t/\H'=upd H t (.tup [.int i,x]),
  λi H=>∃xs,iF K H a xs/\xs.length<=i⟩
def B3 {h:Heap}{a n:Addr}{i:Nat}{its:Array Value}{b:Addr}(p:h.IsList a its)(q:h.IsListIter n b i):a≠n:=λz=>by
 subst z
 obtain⟨o,e,c,_⟩:=p
 obtain⟨o',e',c',_⟩:=q
 rw[e] at e';cases e'
 rw[c] at c'
 simp at c'
def A6 {h:Heap}{a n it:Addr}{i:Int}{its:Array Value}{old:Value}(p:h.IsList a its)(q:IsEnum h n it i old):n≠a:=λz=>by
 subst z
 obtain⟨o,e,c,_⟩:=p
 rw[q] at e;cases e
 simp at c
def rG {P:Program}{w:World}{K:Frag}{elts:List Expr}{x1}{pos:Pos}(a:Addr)(n:Nat):Turn P w K (.Tuple elts x1 pos) (Hh K a) (rJ n) (n + 1)
  (λi h=>(∃old,IsEnum h (n + 1) n i old)/\h.IsListIter n a i) where
 mem:=by simp
 obj:=λi h st c hc=>by
  obtain⟨⟨old,z1⟩,⟨o2,z2,_,d2⟩⟩:=st
  simp only[rJ,OR,PB,Qv] at hc
  rcases hc with rfl |rfl
  ·exact⟨_,z1,λv z=>by
    have z':Data.fields _=Data.cell v:=z
    cases z'⟩
  ·exact⟨o2,z2,λv z=>by rw[d2] at z;cases z⟩
 keep:=λi h h' st k=>by
  obtain⟨⟨old,z1⟩,z2⟩:=st
  exact⟨⟨old,k _ (by simp) _ z1⟩,z2.at λo e=>k _ (by simp) o e⟩
 item:=by
  intro X hP hw hK hc i pins s σ H E I hf st hg
  subst hP hw hK
  obtain⟨xs,x,ha,hx⟩:=hg
  obtain⟨its,rv,p,hz⟩:=I.list ha
  have p:s.heap.IsList a its.toArray:=p.isList
  obtain⟨u0,hu0,ru0⟩:=rv.get hx
  obtain⟨⟨old,z1⟩,z2⟩:=st
  have hh:X.A.in1.handled=none:=I.ok.hd hc
  have hlt:i < its.toArray.size:=by
   have:=OQ.mp hu0
   simpa using this.1
  refine wpAny_pyNext_enum_itemD (Draws.list hh n a (B3 p z2) its.toArray) z1 ⟨z2,p⟩ hlt (Kg 1 0 rfl) (by
   simp only[OR,PB,Qv,not_or]
   exact⟨Kg 1 0 rfl,A6 p z1⟩) λu h' tk hu q1 q2 q3 q4 q5=>?_
  have eu:u0=u:=by
   have hu:its.toArray[i]? =some u:=hu
   rw[List.getElem?_toArray,hu0] at hu
   exact Option.some.inj hu
  subst eu
  refine⟨_,rfl,wpAny_letOwnedTupleGo_enum (s:={s with heap:=h',toks:=tk + 1}) q1 λh2 r1 r2=>?_⟩
  have r2:∀c,c≠n + 1->h2.get? c=h'.get? c:=r2.2
  have lz:n + 1 < s.heap.objs.size:=OZ z1
  have hT:H s.heap.objs.size=none:=I.hok.fresh (ON _)
  have I1:Inv X pins σ (upd H s.heap.objs.size (.tup [.int i,x])) {s with heap:=s.heap.push {cls:=.type "tuple",data:=.seq #[.int i tk,u0]},toks:=s.toks}:=
   I.laid (λb o e=>OL _ e) (ON _) ⟨by show 2<=sizeLine;rw[PJ];omega,[.int i tk,u0],.cons ⟨tk,rfl⟩ (.cons ru0 .nil),rM.new _ _⟩
  have hf':∀c∈rJ n,jU X pins (upd H s.heap.objs.size (.tup [.int i,x])) c:=λc hc=>⟨by
   rw[aA (λz=>?_)]
   ·exact (hf c hc).1
   ·subst z
    simp only[rJ,OR,PB,Qv] at hc
    omega,(hf c hc).2⟩
  have I2:Inv X pins σ (upd H s.heap.objs.size (.tup [.int i,x])) {s with heap:=h2,toks:=tk + 1}:=by
   refine I1.turnedL (ch:=rJ n) (λc o hc e=>?_) hf'
   have e:(s.heap.push {cls:=.type "tuple",data:=.seq #[.int i tk,u0]}).get? c=some o:=e
   simp only[rJ,OR,PB,Qv,not_or] at hc
   rw[r2 c hc.1]
   by_cases z:c=s.heap.objs.size
   ·subst z
    rw[O0 _ rfl] at e
    rw[<-e];exact q3
   ·refine q5 c o hc.1 hc.2 ?_
    rw[Heap.get?_push_ne _ _ _ z] at e
    exact e
  refine⟨.ref s.heap.objs.size,_,I2,rfl,⟨x,_,hT,λxs' h'=>?_,rfl,rfl⟩,⟨⟨u0,r1⟩,q2.1.at λo e=>(r2 _ (Kg 0 1 rfl)).trans e⟩,λc hc=>(hf' c hc).1⟩
  rw[I.list_inj h' ha];exact hx
 done:=by
  intro X hP hw hK hc i pins s σ H E I hf st hg
  subst hP hw hK
  obtain⟨xs,ha,hl⟩:=hg
  obtain⟨its,rv,p,hz⟩:=I.list ha
  obtain⟨⟨old,z1⟩,z2⟩:=st
  have hh:X.A.in1.handled=none:=I.ok.hd hc
  have l1:=rv.length
  refine wpAny_pyNext_enum_endD (He hh i (xs:=its.toArray) (by simp;omega)) z1 ⟨rfl,z2,p.isList⟩ λh' q=>⟨rfl,?_⟩
  refine I.turnedL (t':=s.toks) (ch:=rJ n) (λc o hc e=>?_) hf
  simp only[rJ,OR,PB,Qv,not_or] at hc
  exact q c o hc.2 e
 self:=λ_ _ _ _ _ st h=>by
  obtain⟨⟨old,z1⟩,_⟩:=st
  exact QW z1 h
def MM (K:Frag)(ta:TA):TI:=λσ H R=>ta σ H λvs H2=>∃a xs,vs= [.ref a]/\iF K H2 a xs/\R (Hh K a) H2
section
variable {X:Cx}
theorem JG {a:Expr}{ta:TA}{p pos pt:Pos}{elts:List Expr}{x1}(hg:Gl X "enumerate")(hm:X.mg "enumerate"=none)(ha:PA X [a] ta)(hs:starEach [a] X.env= [(false,eval a X.env)]:=by rfl) :
  PI X (.Tuple elts x1 pt) (.Call (.Name "enumerate" p) [a] [] pos) (MM X.K ta):=by
 intro pins s σ H R I h
 refine Call_ (lX I hg hm sW (Qr (cO (ha pos pins s σ H _ I h) λus s1 ⟨vs,H1,I1,r1,q1⟩=>?_) hs rfl))
 obtain⟨a,xs,e,h1,q⟩:=q1
 subst e
 cases r1 with
 |cons r rr=>
  cases rr
  cases r
  obtain⟨its,rv,p1,hz⟩:=I1.list h1
  refine call_enumerate_list p1.isList λh' z1 z2 _ z3=>?_
  refine QW z1 ⟨_,rJ s1.heap.objs.size,_,_,H1,rfl,I1.kept (t':=s1.toks) z3,rG a s1.heap.objs.size,⟨⟨_,z1⟩,z2⟩,λc hc=>?_,q⟩
  have:s1.heap.objs.size<=c:=by
   simp only[rJ,OR,PB,Qv] at hc
   rcases hc with rfl |rfl <;> first |exact ON _ |exact Nat.le_add_right _ _
  exact I1.fpOk this (I1.hok.fresh this)
end
section
variable {X:Cx}{Γ:Fx}{E:XK}{e a b c:Expr}{f fa fb:VF D}{L La Lb:List Nat}{md ma mb:Md}{pos:Pos}
def Gm (fa:VF D):VF (List D):=λvs β=>(fa vs β).bnd λx β1=>match x with
 | .list ds=>.ok (dz ds) β1
 |_=>.bad
def xI {K:Frag}{B:Option Addr}{G H1:Hp}{p:Addr}{xs:List V}{ds:List D}(hp:∀Gc H,av G Gc->av Gc H->iJ B H1 H->iF K H p xs)(r:cx K G xs ds):Walk K B G H1 (dz ds) (Hh K p):=λGc H i s1 s2 m=>by
 have hp':=hp Gc H s1 s2 m
 have l1:=r.len
 have lz:(dz ds).length=ds.length:=by unfold dz;rw[List.length_mapIdx]
 refine⟨λhi=>⟨?_,λx H' y=>?_⟩,λhi=>⟨xs,hp',by omega⟩⟩
 ·have h1:i < xs.length:=by omega
  exact⟨xs,xs[i],hp',by simp[h1]⟩
 ·obtain⟨x,t,ht,hx,rfl,rfl⟩:=y
  obtain⟨d,ed,rd⟩:=r.at' (hx xs hp')
  have xn:=Ext.new s2 (o:=.tup [.int i,x]) ht
  refine⟨upd Gc t (.tup [.int i,x]),.tuple [.int i,d],xn,?_,.tup (.inl (.inl aE)) (.cons (.int i) (.cons (rd.mono (s1.trans xn.gg)) .nil))⟩
  unfold dz
  rw[Q6,ed];rfl
theorem w9 {p pt:Pos}{elts:List Expr}{x1}(hK:X.K=Γ.K)(hg:Gl X "enumerate")(hm:X.mg "enumerate"=none)(ha:SE X Γ E a fa La .v)(hs:starEach [a] X.env= [(false,eval a X.env)]:=by rfl)(hs':starEach [a] X.env=(false,eval a X.env) :: starEach [] X.env:=by rfl) :
  SI X Γ E (.Tuple elts x1 pt) (.Call (.Name "enumerate" p) [a] [] pos) (Gm fa) La .v:=by
 refine PI.post (JG hg hm (a8 ha bV hs') hs) ?_
 rintro σ H Q ⟨env,G,B,β,I,o⟩
 refine⟨env,G,B,β,I,o.bnd.imp λd1 β1 h x G1 H1 I1 s1 m1 vx=>?_⟩
 have vx:Rp Γ.K G1 x d1:=vx
 rw[hK]
 cases d1 with
 |list ds=>
  cases vx with
  | @lst p xs _ hq r=>exact⟨p,xs,rfl,.inl (Rd.mono (.inl hq) I1.sub),h _ G1 H1 I1 s1 m1 (xI (λGc H t1 t2 _=>.inl (Rd.mono (.inl hq) (t1.trans t2))) r)⟩
 |_=>exact h.elim
end
end L2
namespace L2
open PySem PyProof.Rows
section
variable {X:Cx}{K:Frag}{pins:List V}{σ:St}{H:Hp}{s:Shared}{E:XK}
theorem qt:∀{us:List Value} {ns:List Int},IntsAre us ns->∃xs:List (Int×Tok),us=xs.map (λp=>Value.int p.1 p.2)/\xs.map (·.1)=ns
 |_,_,.nil=>⟨[],rfl,rfl⟩
 |_,_,.cons n t hr=>by
  obtain⟨xs,e1,e2⟩:=qt hr
  exact⟨(n,t) :: xs,by rw[e1];rfl,by rw[<-e2];rfl⟩
def Dp {us:List Value}{ns:List Int}(h:IntsAre us ns):∃xs:Array (Int×Tok),us.toArray=intItems xs/\(∀i,numAt xs i=ns.getD i 0)/\xs.size=ns.length:=by
 obtain⟨xs,e1,e2⟩:=qt h
 refine⟨xs.toArray,?_,λi=>?_,?_⟩
 ·rw[e1,intItems,List.map_toArray]
 ·rw[numAt_eq];show ((xs.map (·.1)).getD i 0)=_;rw[e2]
 ·rw[<-e2];simp
end
end L2
namespace L2
open PySem PySem.Spec PyProof.Rows
def MU (K:Frag)(ta:TA):TI:=λσ H R=>ta σ H λvs H2=>(∃a xs,vs= [.ref a]/\gA K H2 a xs/\R (MT K a) H2)\/∃a xs,vs= [.ref a]/\iF K H2 a xs/\R (Hh K a) H2
section
variable {X:Cx}
def IJ {a:Expr}{ta:TA}{p pos pt:Pos}{elts:List Expr}{x1}(hg:Gl X "enumerate")(hm:X.mg "enumerate"=none)(ha:PA X [a] ta)(hs:starEach [a] X.env= [(false,eval a X.env)]:=by rfl) :
  PI X (.Tuple elts x1 pt) (.Call (.Name "enumerate" p) [a] [] pos) (MU X.K ta):=by
 intro pins s σ H R I h
 refine Call_ (lX I hg hm sW (Qr (cO (ha pos pins s σ H _ I h) λus s1 ⟨vs,H1,I1,r1,q1⟩=>?_) hs rfl))
 have fp:∀c∈rJ s1.heap.objs.size,jU X pins H1 c:=λc hc=>by
  have:s1.heap.objs.size<=c:=by
   simp only[rJ,OR,PB,Qv] at hc
   rcases hc with rfl |rfl <;> first |exact ON _ |exact Nat.le_add_right _ _
  exact I1.fpOk this (I1.hok.fresh this)
 rcases q1 with⟨a,xs,e,h1,q⟩ | ⟨a,xs,e,h1,q⟩
 ·subst e
  cases r1 with
  |cons r rr=>
   cases rr
   cases r
   obtain⟨its,rv,p1,hz⟩:=I1.tuple h1
   exact yJ (show s1.heap.IsTuple a its.toArray from p1) λh' z1 z2 z3=>QW z1 ⟨_,rJ s1.heap.objs.size,_,_,H1,rfl,I1.kept (t':=s1.toks) z3,yc a s1.heap.objs.size,⟨⟨_,z1⟩,z2⟩,fp,q⟩
 ·subst e
  cases r1 with
  |cons r rr=>
   cases rr
   cases r
   obtain⟨its,rv,p1,hz⟩:=I1.list h1
   exact call_enumerate_list p1.isList λh' z1 z2 _ z3=>QW z1 ⟨_,rJ s1.heap.objs.size,_,_,H1,rfl,I1.kept (t':=s1.toks) z3,rG a s1.heap.objs.size,⟨⟨_,z1⟩,z2⟩,fp,q⟩
end
section
variable {X:Cx}{Γ:Fx}{E:XK}{e a b c:Expr}{f fa fb:VF D}{L La Lb:List Nat}{md ma mb:Md}{pos:Pos}
def JK (fa:VF D):VF (List D):=λvs β=>(fa vs β).bnd λx β1=>match lH x with
 |some ds=>.ok (dz ds) β1
 |none=>.bad
theorem Jo {p pt:Pos}{elts:List Expr}{x1}(hK:X.K=Γ.K)(hg:Gl X "enumerate")(hm:X.mg "enumerate"=none)(ha:SE X Γ E a fa La .v)(hs:starEach [a] X.env= [(false,eval a X.env)]:=by rfl)(hs':starEach [a] X.env=(false,eval a X.env) :: starEach [] X.env:=by rfl) :
  SI X Γ E (.Tuple elts x1 pt) (.Call (.Name "enumerate" p) [a] [] pos) (JK fa) La .v:=by
 refine PI.post (IJ hg hm (a8 ha bV hs') hs) ?_
 rintro σ H Q ⟨env,G,B,β,I,o⟩
 refine⟨env,G,B,β,I,o.bnd.imp λd1 β1 h x G1 H1 I1 s1 m1 vx=>?_⟩
 have vx:Rp Γ.K G1 x d1:=vx
 rw[hK]
 cases d1 with
 |list ds=>
  cases vx with
  | @lst p xs _ hq r=>exact .inr ⟨p,xs,rfl,.inl (Rd.mono (.inl hq) I1.sub),h _ G1 H1 I1 s1 m1 (xI (λGc H t1 t2 _=>.inl (Rd.mono (.inl hq) (t1.trans t2))) r)⟩
 |tuple ds=>
  cases vx with
  | @tup p xs _ hq r=>exact .inl ⟨p,xs,rfl,hq.grow I1.sub.grow,h _ G1 H1 I1 s1 m1 (Cf hq r)⟩
 |_=>exact h.elim
end
end L2
namespace RM
open PySem L2
def mF (bA:List D->FR):SF:=(aG (j4 ([] ++ ([] ++ [])) (nH (oz (gu (f1 (gv 0) (ib "tuple")))) (dv (f2 (f1 (gv 0) cP) (gv 1) (eh true))))
 (bJ (cst (.bool false)))
 lC)
 (bJ (gy (f1 (aK 1 [1] (.nm 0) (ba (gv 0)) iB (ai bA (aa (gv 0) (aa (gv 1) ag)))) (bo λbs=>bs.all id)) (f2 (f1 (gv 0) p5) (gv 1) (eh false)))))
def oj:SF:=(aG (ic 1 (([] ++ []) ++ []) (f2 (cy (aa (cst (.int 0)) ag)) (f1 (gv 0) cP) mU))
 (aG (cW (.two 2 3) [0] (JK (gv 0))
 (n5 1 [2] [] (gv 2) (gv 3)))
 (mW 1)))
def gY (i7 dC:List D->FR):SF:=(aG (j4 ([0] ++ (([] ++ []) ++ [])) (oz (gu (ai i7 (aa (gv 0) (aa (f2 (gv 1) (cst (.int 0)) bh) ag)))))
 (bJ (cst (.bool false)))
 lC)
 (aG (bg 2 ([0] ++ []) (ai dC (aa (gv 0) ag)))
 (bJ (f1 (aK 2 [2] (.two 0 1) (ba (f2 (gv 1) (cst (.int 1)) bh)) iB (f2 (f2 (gv 2) (gv 0) bh) (f2 (gv 2) (gv 1) bh) pY)) (bo λbs=>bs.all id)))))
def fY:SF:=(bJ (f1 (aK 1 [1,2] (.nm 0) (ba (gv 0)) iB (f2 (f2 (gv 0) (gv 1) bh) (f2 (gv 0) (gv 2) bh) pY)) (bo λbs=>bs.all id)))
def gj (dC bG cT:List D->FR):SF:=(aG (bg 2 ([] ++ []) (aK 1 [] (.nm 0) (ba (gv 1)) iB (ai dC (aa (gv 0) ag))))
 (bJ (f1 (aK 2 [2] (.two 0 1) (ba (ai bG (aa (gv 0) ag))) (gu (ai cT (aa (gv 2) (aa (gv 0) (aa (gv 1) ag))))) (cC (aa (gv 0) (aa (gv 1) ag)))) lS)))
def kZ (cu:List D->FR):SF:=(aG (j4 ([] ++ ([] ++ [])) (nH (oz (gu (f1 (gv 0) (ib "list")))) (dv (f2 (f1 (gv 0) cP) (cst (.int 0)) (eh false))))
 (bJ (cst (.bool false)))
 lC)
 (bJ (f1 (aK 1 [1] (.nm 0) (ba (gv 0)) iB (ai cu (aa (gv 0) (aa (gv 1) ag)))) (bo λbs=>bs.all id))))
def yq (aB gP cU:List D->FR):SF:=(aG (lx ([1] ++ []) (ai aB (aa (gv 1) ag)))
 (bJ (gy (ai gP (aa (gv 0) (aa (gv 1) ag))) (f2 (ai cU (aa (f2 (gv 1) (cst (.int 0)) bh) (aa (gv 0) ag))) (f2 (gv 1) (cst (.int 1)) bh) (eh false)))))
def iZ:SF:=(bJ (f2 (gv 0) (f2 (cst (.int 1)) (gv 1) yT) Mp))
def hJ (au:List D->FR):SF:=(aG (ic 1 (([] ++ []) ++ ([] ++ [])) (f2 (cy (aa (cst (.int 0)) ag)) (f2 (gv 0) (cst (.int 0)) bh) mU))
 (aG (cW (.two 2 3) ([] ++ []) (ba (f2 (gv 0) (cst (.int 1)) bh))
 (n5 1 (([] ++ []) ++ ([2] ++ [])) [] (ai au (aa (f2 (gv 1) (gv 3) bh) (aa (gv 2) ag))) (gv 3)))
 (mW 1)))
def gW (au:List D->FR):SF:=(aG (ic 2 [] (cy ag))
 (aG (cW (.two 3 4) [0] (Gm (gv 0))
 (j4 ((([1] ++ ([3] ++ [])) ++ []) ++ (([] ++ []) ++ [])) (BU (dv (f2 (ai au (aa (gv 1) (aa (gv 3) ag))) (gv 1) (eh true))) (dv (f2 (f2 (gv 1) (gv 4) Eb) (gv 4) (eh false))))
 (lF 2 [3] (gv 3))
 lC))
 (mW 2)))
def ju (aW au:List D->FR):SF:=(aG (ic 2 [] (cy ag))
 (aG (bg 3 [] (cst (.int 0)))
 (aG (gE ([] ++ []) (dv (f2 (f1 (gv 2) cP) (f1 (gv 0) cP) pY))
 (aG (bg 4 ([0] ++ ([3] ++ [])) (ai aW (aa (gv 0) (aa (gv 3) ag))))
 (aG (bg 5 ([] ++ []) (aK 1 [1] (.nm 0) (ba (gv 4)) (dv (f2 (gv 0) (gv 1) (lW true))) (gv 0)))
 (aG (lF 2 (([] ++ []) ++ []) (f2 (f2 (gv 5) (gv 4) l0) (cst (.int 0)) bh))
 (bg 3 ([3] ++ (([] ++ []) ++ [])) (ai au (aa (gv 3) (aa (f2 (gv 2) (f1 (cst (.int 1)) nQ) bh) ag))))))) 1000)
 (bJ (f1 (gv 2) lS)))))
end RM
namespace L2
open PySem PyProof.Rows
section
variable {X:Cx}{K:Frag}{E:XK}
variable {Γ:Fx}{e a b c:Expr}{f fa fb fc:VF D}{L La Lb:List Nat}{md ma mb mc:Md}{pos:Pos}
def SI.vb {tg:Expr}{fi:VF (List D)}(h:SI X Γ E tg e fi L .v):SI X Γ E tg e fi L .b:=PI.post h λσ H Q ⟨env,G,B,β,I,o⟩=>⟨env,G,B,β,I,o.imp λds β' k J G' H' a b c w=>k J G' H' a b c w.any⟩
end
end L2
namespace L2
open PySem PySem.Spec PyProof.Rows
section
variable {X:Cx}{tg:Expr}
def K3 (lo:Int)(n:Nat):It:=⟨λi _=>i < n,λi H x H'=>H'=H/\x=.int (lo - i),λi _=>n<=i⟩
def xG {P:Program}{w:World}{K:Frag}{tg:Expr}(it:Addr)(lo:Int)(n:Nat):Turn P w K tg (K3 lo n) [it] it (λi h=>IsRangeIter h it (lo + (i:Nat) * (-1)) ((n:Int) - (i:Nat)) (-1)) where
 mem:=by simp
 obj:=λi h st b hb=>by
  have e:b=it:=by simpa using hb
  subst e
  exact⟨_,st,λv z=>by
   have z':Data.fields _=Data.cell v:=z
   cases z'⟩
 keep:=λi h h' st k=>k it (by simp) _ st
 item:=by
  intro X hP hw hK hc i pins s σ H E I hf st hg
  subst hP hw hK
  obtain⟨f0,f1,f2,f3,f4,f5⟩:=hf it (by simp)
  have W:=Walks.range (prog:=X.prog) (w:=X.w) (I.ok.hd hc) it lo (-1) n
  refine W.item i s _ _ hg st λv h' tk hv st' kk=>?_
  obtain⟨t,rfl⟩:=hv
  have I1:Inv X pins σ H {s with heap:=h',toks:=tk}:=I.turned (λb o hb e=>kk b o (by simpa using hb) e) f0 f1 f3 f4 f5
  refine⟨_,rfl,zO (s:={s with heap:=h',toks:=tk}) (n:="range_iterator") st' rfl rfl (by decide) ⟨.int (lo - i),H,I1,⟨t,?_⟩,⟨rfl,rfl⟩,st',λb hb=>(hf b hb).1⟩⟩
  rw[show lo + (i:Int) * (-1)=lo - i by omega]
 done:=by
  intro X hP hw hK hc i pins s σ H E I hf st hg
  subst hP hw hK
  obtain⟨f0,f1,f2,f3,f4,f5⟩:=hf it (by simp)
  exact wpAny_pyNext_range_end (I.ok.hd hc) st (by have:n<=i:=hg;omega) λh' eb=>⟨rfl,I.turned (t':=s.toks) (λb o hb e=>eb b o hb e) f0 f1 f3 f4 f5⟩
 self:=λ_ _ _ _ _ st h=>wpAny_pyIter_rangeiter st h
def By {pins:List (Addr×Obj)}{σ:St}{H:Hp}{s:Shared}{R:It->Hp->Prop}{E:Value->Shared->Prop}{lo hi:Int}{t u v:Tok}{tk:Nat}(I:Inv X pins σ H s)(h1: -(2 ^ 62)<=lo)(h2:lo < 2 ^ 62)(h3: -(2 ^ 62)<=hi)(h4:hi < 2 ^ 62)
  (q:R (K3 lo (lo - hi).toNat) H):wpAny (model X.prog X.w) X.A (pyIter (.ref s.heap.objs.size)) (NT X pins σ tg R) E {s with heap:=s.heap.push {cls:=.type "range",data:=.fields #[.int lo t,.int hi u,.int (-1) v]},toks:=tk}:=by
 refine wpAny_pyIter_range (IsRange.new ..) (PySem.W.small_down h1 h2 h3 h4) ?_
 have I1:Inv X pins σ H {s with heap:=s.heap.push {cls:=.type "range",data:=.fields #[.int lo t,.int hi u,.int (-1) v]},toks:=tk}:=I.kept λb o e=>OL _ e
 refine⟨(s.heap.push {cls:=.type "range",data:=.fields #[.int lo t,.int hi u,.int (-1) v]}).objs.size,[(s.heap.push {cls:=.type "range",data:=.fields #[.int lo t,.int hi u,.int (-1) v]}).objs.size],_,_,H,rfl,
  I1.kept (t':=tk) λb o e=>OL _ e,xG _ lo (lo - hi).toNat,?_,λb hb=>?_,q⟩
 ·have e1:lo + ((0:Nat):Int) * (-1)=lo:=by simp
  have e2:(((lo - hi).toNat:Nat):Int) - ((0:Nat):Int)=Builtin.Range.rangeSize lo hi (-1):=by rw[PySem.W.rangeSize_downNat];omega
  show IsRangeIter _ _ (lo + ((0:Nat):Int) * (-1)) ((((lo - hi).toNat:Nat):Int) - ((0:Nat):Int)) (-1)
  rw[e1,e2]
  exact O0 _ rfl
 ·have e:b=(s.heap.push {cls:=.type "range",data:=.fields #[.int lo t,.int hi u,.int (-1) v]}).objs.size:=by simpa using hb
  subst e
  exact I1.fpOk (ON _) (I1.hok.fresh (ON _))
def KL (ta:TA):TI:=λσ H R=>ta σ H λvs H1=>∃i j:Int,vs= [.int i,.int j,.int (-1)]/\(-(2 ^ 62)<=i/\i < 2 ^ 62/\ -(2 ^ 62)<=j/\j < 2 ^ 62)/\R (K3 i (i - j).toNat) H1
theorem BG {a b c:Expr}{ta:TA}{p pos:Pos}(hg:Gl X "range")(hm:X.mg "range"=none)(ha:PA X [a,b,c] ta)(hs:starEach [a,b,c] X.env= [(false,eval a X.env),(false,eval b X.env),(false,eval c X.env)]:=by rfl)(hs2:starEach [b,c] X.env= [(false,eval b X.env),(false,eval c X.env)]:=by rfl) :
  PI X tg (.Call (.Name "range" p) [a,b,c] [] pos) (KL ta):=by
 intro pins s σ H R I h
 refine Call_ (lX I hg hm boot_range (Qr (cO (ha pos pins s σ H _ I h) λus s1 ⟨vs,H1,I1,r1,q1⟩=>?_) (by rw[hs,hs2]) (by rw[hs2];rfl)))
 obtain⟨i,j,e,⟨q1,q2,q3,q4⟩,q⟩:=q1
 subst e
 cases r1 with
 |cons r rr=>
  cases rr with
  |cons r' rr=>
   cases rr with
   |cons r'' rr=>
    cases rr
    obtain⟨t,rfl⟩:=r
    obtain⟨t',rfl⟩:=r'
    obtain⟨t'',rfl⟩:=r''
    exact call_range_3 (by decide) (By I1 q1 q2 q3 q4 q) (.inl (PyProof.noPylong_small (by omega)))
end
def nX (lo:Int)(n:Nat):List D:=(List.range n).map λ(k:Nat)=>int (lo - k)
def oO (lo:Int)(n:Nat):(nX lo n).length=n:=by unfold nX;simp
def AY {K:Frag}{B:Option Addr}{G H1:Hp}(lo:Int)(n:Nat):Walk K B G H1 (nX lo n) (K3 lo n):=λGc H i s1 s2 m=>by
 rw[oO]
 refine⟨λhi=>⟨hi,λx H' y=>?_⟩,λhi=>hi⟩
 obtain⟨rfl,rfl⟩:=y
 refine⟨Gc,.int (lo - i),Ext.refl s2,?_,.int _⟩
 unfold nX
 rw[OW,Qj hi];rfl
def Ht (fa fb fc:VF D):VF (List D):=λvs β=>(fa vs β).bnd λx β1=>(fb vs β1).bnd λy β2=>(fc vs β2).bnd λz β3=>match x,y,z with
 | .int i,.int j,.int k=>if (zC i && zC j && k == -1)=true then .ok (nX i (i - j).toNat) β3 else .bad
 |_,_,_=>.bad
section
variable {X:Cx}{Γ:Fx}{tg:Expr}{a b c:Expr}{fa fb fc:VF D}{La Lb Lc:List Nat}{md ma mb mc:Md}{pos:Pos}{E:XK}
def Mg {p:Pos}(hg:Gl X "range")(hm:X.mg "range"=none)(ha:SE X Γ E a fa La ma)(hb:SE X Γ E b fb Lb mb)(hc:SE X Γ E c fc Lc mc)(hs:starEach [a,b,c] X.env= [(false,eval a X.env),(false,eval b X.env),(false,eval c X.env)]:=by rfl)(hs2:starEach [b,c] X.env= [(false,eval b X.env),(false,eval c X.env)]:=by rfl)(hs':starEach [a,b,c] X.env=(false,eval a X.env) :: starEach [b,c] X.env:=by rfl)(hs3:starEach [b,c] X.env=(false,eval b X.env) :: starEach [c] X.env:=by rfl)(hs4:starEach [c] X.env=(false,eval c X.env) :: starEach [] X.env:=by rfl):SI X Γ E tg (.Call (.Name "range" p) [a,b,c] [] pos) (Ht fa fb fc) (La ++ Lb ++ Lc) md:=by
 refine PI.post (BG hg hm (a8 ha (a8 hb (a8 hc bV hs4) hs3) hs') hs hs2) λσ H Q ⟨env,G,B,β,I,o⟩=>?_
 refine two (W:=λx y H2=>pT Γ E fc Lc mc σ H2 λz H3=>∃i j:Int,[x,y,z]= [.int i,.int j,.int (-1)]/\(-(2 ^ 62)<=i/\i < 2 ^ 62/\ -(2 ^ 62)<=j/\j < 2 ^ 62)/\Q (K3 i (i - j).toNat) H3) I (o.bnd.imp λd1 β1 h=>h.bnd.imp λd2 β2 h x y G2 H2 I2 s2 m2 bx by'=>?_)
 refine⟨_,G2,B,β2,I2,?_⟩
 rw[dH]
 refine h.bnd.imp λd3 β3 h z G3 H3 I3 s3 m3 bz=>?_
 have bz:=bz.brw I2.boxThere
 obtain⟨i,j,k,rfl,rfl,rfl⟩:∃i j k,d1=.int i/\d2=.int j/\d3=.int k:=by
  cases d1 <;> cases d2 <;> cases d3 <;> first |exact h.elim |exact⟨_,_,_,rfl,rfl,rfl⟩
 obtain rfl:=bx.int
 obtain rfl:=by'.int
 obtain rfl:=bz.int
 dsimp only at h
 by_cases hj:(zC i && zC j && k == -1)=true
 ·rw[OO hj] at h
  rw[O2,O2,beq_iff_eq] at hj
  obtain⟨⟨hi,hj⟩,rfl⟩:=hj
  exact⟨i,j,rfl,⟨(oU hi).1,(oU hi).2,(oU hj).1,(oU hj).2⟩,h _ G3 H3 (by rw[cq];exact I3) (s2.trans s3) (m2.trans m3) (AY i _)⟩
 ·rw[OV hj] at h;exact h.elim
end
end L2
namespace L2
open PySem PyProof.Rows
section
variable {X:Cx}{K:Frag}{pins:List V}{σ:St}{H:Hp}{s:Shared}{E:XK}
def K6 (K:Frag):List V->Hp->VK->Prop:=λxs H Q=>∃(a:Addr) (ns:List Int),xs= [.ref a]/\iF K H a (ns.map V.int)/\Q (.int ns.sum) H
def CT (hc:X.calm=true):fU X (.builtin "sum") (K6 X.K):=by
 intro pins s σ H xs us Q I r h
 obtain⟨a,ns,rfl,hq,q⟩:=h
 obtain⟨u,rfl,rx⟩:=vals1 r
 cases rx
 have hh:=I.ok.hd hc
 obtain⟨its,rv,pl,_⟩:=I.list hq
 obtain⟨xs,e,hx,hs⟩:=Dp (intsAre_of rv)
 refine sum_intListG (xs:=xs) hh (e▸pl.isList) λh' tk t' k=>⟨.int ns.sum,H,I.kept k,⟨t',?_⟩,q⟩
 have:preSum (numAt xs) xs.size=ns.sum:=by
  rw[show numAt xs=λi=>ns.getD i 0 from funext hx,preSum_getD,hs,QU (ON _)]
 rw[this]
def rP (d:D):Option D:=match d with
 | .list ds=>(jj ds).map λns=>.int ns.sum
 |_=>none
def Mb:EH K (λx=>K6 K [x]) rP .v:=by
 intro B G H x dx d Q s hB bx e k
 unfold rP at e
 split at e
 ·rename_i ds
  cases q2:jj ds with
  |none=>rw[q2] at e;cases e
  |some ns=>
   rw[q2] at e
   cases e
   obtain⟨p,xs,rfl,hq,r⟩:=bx.list s
   rw[og q2] at r
   have r:=r.intsB
   subst r
   exact⟨p,ns,rfl,.inl hq,k _ G H (Ext.refl s) (.int _)⟩
 ·cases e
end
end L2
namespace RM
open PySem L2
def mB (aW au:List D->FR):SF:=(aG (bg 1 (([] ++ []) ++ []) (f2 (f2 (cst (.int 1)) (f1 (gv 0) cP) yT) (cst (.int 1)) ua))
 (aG (ic 2 ((([] ++ []) ++ []) ++ ([] ++ [])) (f2 (f2 (cy (aa (cst (.int 0)) ag)) (gv 1) mU) (cy (aa (cst (.int 1)) ag)) l0))
 (aG (cW (.nm 3) ((([] ++ []) ++ []) ++ []) (Ht (f2 (gv 1) (cst (.int 1)) ua) (f1 (cst (.int 1)) nQ) (f1 (cst (.int 1)) nQ))
 (n5 2 (([0] ++ ([3] ++ [])) ++ [3]) [] (f1 (aK 1 [2,3] (.nm 0) (ba (ai aW (aa (gv 0) (aa (gv 3) ag)))) iB (f2 (gv 1) (ai au (aa (gv 2) (aa (gv 0) ag))) bh)) rP) (gv 3)))
 (mW 2))))
def jB (aB cw aV:List D->FR):SF:=(aG (lx ([0] ++ []) (ai aB (aa (gv 0) ag)))
 (bJ (f2 (ai cw (aa (ai aV (aa (gv 0) ag)) ag)) (cst (.int 0)) bh)))
def n9 (aW au:List D->FR):SF:=(aG (bg 4 ([0] ++ ([2] ++ [])) (ai aW (aa (gv 0) (aa (gv 2) ag))))
 (aG (bg 5 [] (cst (.int 0)))
 (aG (gE ([] ++ ([] ++ ([2] ++ (([] ++ []) ++ [])))) (dv (f2 (gv 3) (f2 (gv 1) (ai au (aa (gv 2) (aa (f2 (gv 4) (gv 5) bh) ag))) bh) Nu))
 (aG (bg 3 ([] ++ ([] ++ ([2] ++ (([] ++ []) ++ [])))) (f2 (gv 3) (f2 (gv 1) (ai au (aa (gv 2) (aa (f2 (gv 4) (gv 5) bh) ag))) bh) ua))
 (bg 5 ([] ++ []) (f2 (gv 5) (cst (.int 1)) cJ))) 1000)
 (bJ (cC (aa (f2 (gv 4) (gv 5) bh) (aa (gv 3) ag)))))))
def mw (aB aV cw bA kj au:List D->FR):SF:=(aG (lx ([0] ++ []) (ai aB (aa (gv 0) ag)))
 (aG (bg 2 ([0] ++ []) (ai aV (aa (gv 0) ag)))
 (aG (bg 3 ([2] ++ []) (ai cw (aa (gv 2) ag)))
 (aG (j4 ([1] ++ (([] ++ []) ++ [])) (oz (gu (ai bA (aa (gv 1) (aa (f2 (gv 3) (cst (.int 0)) bh) ag)))))
 (λenv β=>toS ((aa (cst (.str "this is no number of a row of the order")) ag) (vl env) β) λds _=>if ds.length<=sizeLine then .exc "NoNumber" else .bad)
 lC)
 (aG (ic 4 [] (cy ag))
 (aG (bg 5 [] (cst (.int 0)))
 (aG (bg 6 [1] (gv 1))
 (aG (cW (.nm 7) ([] ++ []) (dM (f2 (gv 0) (cst (.int 0)) bh))
 (aG (bg 8 ([2] ++ ([3] ++ ([5] ++ ([6] ++ [])))) (ai kj (aa (gv 2) (aa (gv 3) (aa (gv 5) (aa (gv 6) ag))))))
 (aG (lF 4 ([] ++ []) (f2 (gv 8) (cst (.int 0)) bh))
 (aG (bg 5 ([5] ++ (([] ++ []) ++ [])) (ai au (aa (gv 5) (aa (f2 (gv 8) (cst (.int 0)) bh) ag))))
 (bg 6 ([] ++ []) (f2 (gv 8) (cst (.int 1)) bh))))))
 (bJ (f1 (gv 4) lS))))))))))
def o7 (aB cu aV cw aW au:List D->FR):SF:=(aG (lx ([0] ++ []) (ai aB (aa (gv 0) ag)))
 (aG (j4 ([1] ++ ([0] ++ [])) (oz (gu (ai cu (aa (gv 1) (aa (gv 0) ag)))))
 (λenv β=>toS ((aa (cst (.str "this is no row of the order")) ag) (vl env) β) λds _=>if ds.length<=sizeLine then .exc "NoRow" else .bad)
 lC)
 (aG (bg 2 ([0] ++ []) (ai aV (aa (gv 0) ag)))
 (aG (bg 3 ([2] ++ []) (ai cw (aa (gv 2) ag)))
 (aG (bg 4 [] (cst (.int 0)))
 (aG (bg 5 [] (cst (.int 0)))
 (aG (cW (.nm 6) [1] (ba (gv 1))
 (aG (bg 7 (([2] ++ ([5] ++ [])) ++ []) (aK 1 [6] (.nm 0) (ba (ai aW (aa (gv 2) (aa (gv 5) ag)))) (dv (f2 (gv 0) (gv 1) pY)) (gv 0)))
 (aG (bg 4 ([] ++ ([] ++ [5])) (f2 (gv 4) (f1 (aK 1 [3,5] (.nm 0) (ba (gv 7)) iB (f2 (gv 1) (ai au (aa (gv 2) (aa (gv 0) ag))) bh)) rP) cJ))
 (bg 5 ([5] ++ ([6] ++ [])) (ai au (aa (gv 5) (aa (gv 6) ag)))))))
 (mW 4))))))))
end RM
namespace L2
open PySem PyProof.Rows
section
variable {X:Cx}{K:Frag}{σ:St}{G H:Hp}{s:Shared}{E:XK}
def kP (p:Int×Int):List Key:=[.inl p.1,.inl p.2]
def ID {p q:Int×Int}:kP p=kP q↔p=q:=by
 unfold kP
 constructor
 ·intro h
  simp at h
  exact Prod.ext h.1 h.2
 ·intro h;rw[h]
abbrev KP (K:Frag)(G:Hp):List (List Key×V)->List ((Int×Int)×D)->Prop:=Paired λa b=>a.1=kP b.1/\Rp K G a.2 b.2
theorem KP.any {kvs:List (List Key×V)}{acc:List ((Int×Int)×D)}(h:KP K G kvs acc)(p:Int×Int):(kvs.any λkv=>decide (kv.1=kP p))=acc.any λkv=>decide (kv.1=p):=by
 induction h with
 |nil=>rfl
 |cons h _ ih=>
  rw[Qu,Qu,ih,h.1]
  congr 1
  rw[P4];exact ID
theorem KP.snoc {p:Int×Int}{v:V}{d:D}(hv:Rp K G v d):∀{kvs:List (List Key×V)} {acc:List ((Int×Int)×D)},KP K G kvs acc->KP K G (kvs ++ [(kP p,v)]) (acc ++ [(p,d)])
 |_,_,.nil=>.cons ⟨rfl,hv⟩ .nil
 |_,_,.cons h1 t=>.cons h1 (KP.snoc hv t)
end
section
variable {X:Cx}{K:Frag}{σ:St}{G H:Hp}{s:Shared}{E:XK}
theorem tf {α β:Type}{F:α->β->Prop}:∀{l₁:List α} {l₂:List β},Paired F l₁ l₂->∀{i:Nat} {a:α} {b:β},l₁[i]? =some a->l₂[i]? =some b->F a b
 |_,_,.nil,_,_,_,e,_=>by simp at e
 |_,_,.cons h t,0,_,_,e,e'=>by simp at e e';subst e e';exact h
 |_,_,.cons h t,i + 1,_,_,e,e'=>tf t (i:=i) (by simpa using e) (by simpa using e')
theorem ng (bt:Nat->Nat->Bool):∀k,argBest bt k<=k
 | 0=>ON _
 |k + 1=>by
  unfold argBest
  split
  ·exact ON _
  ·exact Nat.le_succ_of_le (ng bt k)
end
end L2
namespace L2.ST
open PySem PySem.SetTable
def Oz (k:Int):Prop:=0<=k/\k < 8
structure KR (f:Int->Int)(led:Bool)(h:Heap)(S:Addr)(es:List (Int×Value)):Prop where
 ex:∃o ep t,h.get? S=some o/\o.ExactSet/\o.data=.set es.toArray ep t/\Tab t (es.map (·.1))/\t.led=led
 el:∀e,e∈es->∃k tk,e=(f k,.int k tk)/\Oz k
 nd:(es.map (·.1)).Nodup
def KR.len {f:Int->Int}{led:Bool}{h:Heap}{S:Addr}{es:List (Int×Value)}(P:KR f led h S es):es.length<=8:=by
 have:=fV (m:=(List.range 8).map λ(k:Nat)=>f (k:Int)) P.nd λx hx=>by
  obtain⟨e,he,rfl⟩:=Pp.mp hx
  obtain⟨k,tk,rfl,h0,h8⟩:=P.el e he
  exact Pp.mpr ⟨k.toNat,PL.mpr (by omega),by show f ((k.toNat:Nat):Int)=f k;rw[Int.toNat_of_nonneg h0]⟩
 simpa using this
end L2.ST
namespace L2
open PySem PySem.Spec PyProof.Rows
section
variable {Γ:Fx}{B:Option Addr}{G H G3 H3:Hp}{σ σ3:St}{env env' env3:En}{β β3:Int}
def SR.shape (I:SR Γ B G H σ env β)(J:SR Γ B G3 H3 σ3 env3 β3)(hbr:∀j,Γ.br j=false)(s:av G G3)(m:iJ B H H3)(hl:σ3.length=env'.length)(he:∀(j:Nat) (t:Sl),env'[j]? =some t->t=Sl.no\/(env[j]? =some t/\σ3[j]? =σ[j]?)):SR Γ B G H3 σ3 env' β3:=by
 refine⟨s.trans J.sub,I.old,I.new,J.keep,J.pin,I.fix,λb e=>⟨(J.box b e).1,(I.box b e).2⟩,hl,λj t q=>?_,λj k c d1 d2 q1 q2 q3 q4=>?_⟩
 ·rcases he j t q with rfl | ⟨e,es⟩
  ·trivial
  ·have w:=I.slot j t e
   rw[es]
   cases t with
   |no=>trivial
   |fz d=>exact w
   |ow d=>
    obtain⟨c,w1,w2,w3,w4,w5⟩:=w
    exact⟨c,w1,w2,w3,w4,w5.mono (av.refl _) λo q=>m.1 c o q w4⟩
   |bx=>exact w
   |br d=>obtain⟨b1,_⟩:=w;rw[hbr j] at b1;cases b1
 ·rcases he j _ q1 with z | ⟨e1,s1⟩
  ·cases z
  ·rcases he k _ q2 with z | ⟨e2,s2⟩
   ·cases z
   ·rw[s1] at q3;rw[s2] at q4
    exact I.sep j k c d1 d2 e1 e2 q3 q4
structure DI (Γ:Fx)(d0:D)(σ:St)(H:Hp)(β:Int)(cs:List (List Int))(B:Option Addr)(G:Hp)(a:Addr)(bs:List Addr):Prop where
 sr:SR Γ B G H σ [.bx,.fz d0,.no,.no,.no] β
 fa:σ[2]? =some (some (.ref a))
 ha:H a=some (.lst (bs.map V.ref))
 len:bs.length=cs.length
 hb:∀(k:Nat) (b:Addr),bs[k]? =some b->H b=some (.lst ((cs.getD k []).map V.int))
 h0:∀b,b∈a :: bs->Γ.H0 b=none/\G b=none/\B≠some b
 nd:(a :: bs).Nodup
end
section
variable {Γ:Fx}{B:Option Addr}{G H G2 H2:Hp}{σ:St}{β:Int}{d0:D}{cs:List (List Int)}{a:Addr}{bs:List Addr}
def DI.ext (I:DI Γ d0 σ H β cs B G a bs)(hbr:∀j,Γ.br j=false)(x:Ext G H G2 H2):DI Γ d0 σ H2 β cs B G a bs:=by
 refine⟨I.sr.shape (I.sr.ext x) hbr x.gg (x.hh.mov B) I.sr.len λj t e=>.inr ⟨e,rfl⟩,I.fa,x.hh _ _ I.ha,I.len,λk b e=>x.hh _ _ (I.hb k b e),I.h0,I.nd⟩
end
end L2
namespace L2.HM
open PySem PySem.W PySem.Spec PyProof.Rows
structure KV (V:List (Addr×Obj)->Shared->Prop)(l:Addr)(n:Nat)(Pv:Nat->Value->Prop):Prop where
 get:∀own z,V own z->∀p,p∈own->z.heap.get? p.1=some p.2
 put:∀own own' z h' tk,V own z->(∀b o,b∉own.map (·.1)->z.heap.get? b=some o->h'.get? b=some o)->own'.map (·.1)=own.map (·.1)->(∀p,p∈own'->h'.get? p.1=some p.2/\∀v,p.2.data≠.cell v)->V own' {z with heap:=h',toks:=tk}
 drop:∀own z h' tk,V own z->(∀b o,b∉own.map (·.1)->z.heap.get? b=some o->h'.get? b=some o)->V [] {z with heap:=h',toks:=tk}
 lst:∀own z,V own z->∃its:List Value,z.heap.IsList l its.toArray/\its.length=n/\∀i v,its[i]? =some v->Pv i v
 add:∀z oI oS,oI.isFreed=false->oS.isFreed=false->(∀v,oI.data≠.cell v)->(∀v,oS.data≠.cell v)->V [] z->V [((z.heap.push oI).objs.size,oS),(z.heap.objs.size,oI)] {z with heap:=(z.heap.push oI).push oS}
section
variable {prog:Program}{w:World}{A:Around}{E:Value->Shared->Prop}{l q I S:Addr}{n:Nat}{Pv:Nat->Value->Prop}{R:Result->Shared->Prop}{V:List (Addr×Obj)->Shared->Prop}
theorem AO (k:KV V l n Pv)(kf:Nat->Int)(hh:A.handled=none)(hlI:l≠I)(hSI:S≠I)
  (turn:∀(i:Nat) (v:Value) own z,Pv i v->V own z->wpAny (model prog w) A.in1 (call (.ref q) [v]) (λx z'=>∃t,x=.int (kf i) t/\V own z') (λ_ _=>False) z)
  (hR:∀i v z',Pv i v->(∀j,j < n->kf i<=kf j/\(j < i->kf i < kf j))->V [] z'->R (.ok (.ret v)) z') :
  ∀(r j i:Nat) (z:Shared) (vb:Value) (tb:Tok) (c:Nat) (oI:Obj),n - (j + 1)=r->j + 1<=n->
   V [(S,seqObj "list" #[vb,.int (kf i) tb] c),(I,oI)] z->z.heap.IsListIter I l (j + 1)->Pv i vb->i<=j->(∀j',j'<=j->kf i<=kf j'/\(j' < i->kf i < kf j'))->
   codeAny (model prog w) A (.builtin "min.loop" ⟨[.ref I,.ref q,.ref S],[]⟩) R z:=by
 have hname:(toString "min" ++ toString ".loop":String)="min.loop":=by decide
 intro r
 induction r with
 |zero=>
  intro j i z vb tb c oI hr hj hV hit hvb hij hbest
  have hin:j + 1=n:=by omega
  obtain⟨its,hls,hln,hpv⟩:=k.lst _ _ hV
  have W:=Walks.list (prog:=prog) (w:=w) (A:=A.in1) hh I l hlI its.toArray
  have hsz:its.toArray.size=n:=by rw[O1];exact hln
  have nS:=k.get _ _ hV (S,seqObj "list" #[vb,.int (kf i) tb] c) (.head _)
  refine Q9 PySem.F.entry_min_loop ?_
  rw[Q5 Qg _]
  show wpAny _ A.in1 (seqItems? (.ref S) >>= _) _ _ _
  refine OT (wpAny_seqItems nS rfl ?_)
  show wpAny _ A.in1 (tryCatch (pyNext (.ref I)) _ >>= _) _ _ _
  refine OT (Q2 (W.done _ _ _ ⟨by rw[hsz,<-hin];exact hit,hls⟩ λh' tk' hk'=>?_))
  have hS':=hk' S _ (by simpa using hSI) nS
  show wpAny _ A.in1 (updateSeq S (λ_=>#[]) >>= _) _ _ _
  refine OT ?_
  refine wpAny_updateSeq hS' rfl (OT (wpAny_letGo (Pl ?_)))
  refine hR i vb _ hvb (λj' hj'=>hbest j' (by omega)) (k.drop _ z (h'.update S (Obj.mapSeq λ_=>(#[]:Array Value))) tk' hV λb o hb e=>?_)
  have hb1:b≠S:=λz=>hb (by rw[z];exact .head _)
  have hb2:b≠I:=λz=>hb (by rw[z];exact .tail _ (.head _))
  exact (P1 _ _ (Ne.symm hb1)).trans (hk' b o (by simpa using hb2) e)
 |succ r ih=>
  intro j i z vb tb c oI hr hj hV hit hvb hij hbest
  have hlt:j + 1 < n:=by omega
  obtain⟨its,hls,hln,hpv⟩:=k.lst _ _ hV
  have W:=Walks.list (prog:=prog) (w:=w) (A:=A.in1) hh I l hlI its.toArray
  have hsz:its.toArray.size=n:=by rw[O1];exact hln
  have nS:=k.get _ _ hV (S,seqObj "list" #[vb,.int (kf i) tb] c) (.head _)
  refine Q9 PySem.F.entry_min_loop ?_
  rw[Q5 Qg _]
  show wpAny _ A.in1 (seqItems? (.ref S) >>= _) _ _ _
  refine OT (wpAny_seqItems nS rfl ?_)
  show wpAny _ A.in1 (tryCatch (pyNext (.ref I)) _ >>= _) _ _ _
  refine OT (Q2 (W.item (j + 1) _ _ _ (by rw[hsz];exact hlt) ⟨hit,hls⟩ λv h' tk' hP hst' hk'=>?_))
  have hv:Pv (j + 1) v:=hpv _ _ (by simpa using hP)
  obtain⟨oI',hoI',hoc,hod⟩:=id hst'.1
  have V1:V [(S,seqObj "list" #[vb,.int (kf i) tb] c),(I,oI')] {z with heap:=h',toks:=tk'}:=k.put _ _ _ _ tk' hV (λb o hb e=>hk' b o (by simpa using λz=>hb (by rw[z];exact .tail _ (.head _))) e) rfl λp hp=>by
   rcases OR.mp hp with rfl |hp
   ·exact⟨hk' S _ (by simpa using hSI) nS,λv z=>by cases z⟩
   ·rw[O3.mp hp];exact⟨hoI',λv z=>by rw[hod] at z;cases z⟩
  show wpAny _ A.in1 (tryCatch (holding [v] (call (.ref q) [v])) _ >>= _) _ _ _
  refine OT (Q2 (QP (P9 (turn (j + 1) v _ _ hv V1) (λx s'' he=>?_) λ_ _ hF=>hF.elim)))
  obtain⟨t2,rfl,V2⟩:=he
  have nS2:=k.get _ _ V2 (S,seqObj "list" #[vb,.int (kf i) tb] c) (.head _)
  have nI2:=k.get _ _ V2 (I,oI') (.tail _ (.head _))
  have hit2:s''.heap.IsListIter I l (j + 1 + 1):=⟨oI',nI2,hoc,hod⟩
  show wpAny _ A.in1 (tryCatch (holding [v,.int (kf (j + 1)) t2] (richCompare .Lt (.int (kf (j + 1)) t2) (.int (kf i) tb) >>= _)) _ >>= _) _ _ _
  refine OT (Q2 (QP (OT (CmpOf.ints_lt (prog:=prog) (w:=w) (A:=A.in1) (P:=λi v=>∃t,v=.int (kf i) t) kf (λi v h=>h) (j + 1) i _ _ _ _ _ ⟨t2,rfl⟩ ⟨tb,rfl⟩ ?_))))
  refine OT (QP (Qa ?_))
  refine OT (wpAny_letGo (Pl ?_))
  by_cases hb':kf (j + 1) < kf i
  ·have s1:=Heap.SameBut.update s''.heap S (Obj.mapSeq λ_=>#[v,.int (kf (j + 1)) t2])
   obtain⟨c2,hc2⟩:∃c2,(s''.heap.update S (Obj.mapSeq λ_=>#[v,.int (kf (j + 1)) t2])).get? S=some (seqObj "list" #[v,.int (kf (j + 1)) t2] c2):=⟨_,get?_update_seq nS2 λ_=>#[v,.int (kf (j + 1)) t2]⟩
   simp only[hb',decide_true,Qs]
   refine OT ?_
   refine wpAny_updateSeq nS2 rfl (OT (wpAny_letGo ?_))
   rw[hname]
   refine Pl ⟨plainId_quiet Qg _,ih (j + 1) (j + 1) _ v t2 c2 oI' (by omega) hlt (k.put _ _ _ _ s''.toks V2 (λb o hb e=>?_) rfl λp hp=>?_) ⟨oI',(s1.2 I hSI.symm).trans nI2,hoc,hod⟩ hv (ON _) λj' hj'=>?_⟩
   ·exact (s1.2 b λz=>hb (by rw[z];exact .head _)).trans e
   ·rcases OR.mp hp with rfl |hp
    ·exact⟨hc2,λv z=>by cases z⟩
    ·rw[O3.mp hp]
     exact⟨(s1.2 I hSI.symm).trans nI2,λv z=>by rw[hod] at z;cases z⟩
   ·by_cases e:j'=j + 1
    ·subst e
     exact⟨by omega,λ_=>by omega⟩
    ·have hb1:=hbest j' (by omega)
     have hb2:=hb1.1
     exact⟨by omega,λ_=>by omega⟩
  ·simp only[hb',decide_false,Qw,Q4]
   refine OT (wpAny_letGo ?_)
   rw[hname]
   refine Pl ⟨plainId_quiet Qg _,ih (j + 1) i _ vb tb c oI' (by omega) hlt V2 hit2 hvb (by omega) λj' hj'=>?_⟩
   by_cases e:j'=j + 1
   ·subst e
    exact⟨by omega,λ_=>by omega⟩
   ·exact hbest j' (by omega)
def Nc {s:Shared}{Q:Value->Shared->Prop}(k:KV V l n Pv)(kf:Nat->Int)(hh:A.handled=none)(hV:V [] s)(hne:0 < n)
  (turn:∀(i:Nat) (v:Value) own z,Pv i v->V own z->wpAny (model prog w) A.in1 (call (.ref q) [v]) (λx z'=>∃t,x=.int (kf i) t/\V own z') (λ_ _=>False) z)
  (hQ:∀i v z',Pv i v->(∀j,j < n->kf i<=kf j/\(j < i->kf i < kf j))->V [] z'->Q v z') :
  wpAny (model prog w) A (call (.builtin "min") [.ref l] [(Str.ofString "key",.ref q)]) Q E s:=by
 have hname:(toString "min" ++ toString ".loop":String)="min.loop":=by decide
 obtain⟨its0,hls,_,_⟩:=k.lst _ _ hV
 obtain⟨ol,hol,_⟩:=id hls
 have hll:l < s.heap.objs.size:=OZ hol
 refine kmk_tree PySem.F.kind_min PySem.F.plain_min PySem.F.entry_min (kmk_min_key _ _) ?_
 show wpAny _ A.in1 (Builtin.Builtins.bindParams "min" ["key","default"] 0 ⟨[],[(Str.ofString "key",.ref q)]⟩ >>= _) _ _ s
 refine OT (wpAny_of_eq (show Builtin.Builtins.bindParams "min" ["key","default"] 0 ⟨[],[(Str.ofString "key",.ref q)]⟩=pure [some (.ref q),none] from rfl) ?_)
 refine OT (Pl ?_)
 refine OT (QJ hls ?_)
 refine OT (wpAny_newList ?_ (PX _))
 rw[hname]
 have hS:(s.heap.push {cls:=.type "list_iterator",data:=.fields #[.ref l,.int 0 0]}).objs.size=s.heap.objs.size + 1:=Qo ..
 have hlI:l≠s.heap.objs.size:=PN hll
 have hSI:(s.heap.push {cls:=.type "list_iterator",data:=.fields #[.ref l,.int 0 0]}).objs.size≠s.heap.objs.size:=by rw[hS];exact Nat.ne_of_gt (Nat.lt_succ_self _)
 have V0:=k.add s {cls:=.type "list_iterator",data:=.fields #[.ref l,.int 0 0]} (seqObj "list" #[] 0) rfl rfl (λv z=>by cases z) (λv z=>by cases z) hV
 generalize hSd:(s.heap.push {cls:=.type "list_iterator",data:=.fields #[.ref l,.int 0 0]}).objs.size=S at hSI V0
 refine Pl ⟨plainId_quiet Qg _,?_⟩
 have gS:=k.get _ _ V0 (S,seqObj "list" #[] 0) (.head _)
 have gI:=k.get _ _ V0 (s.heap.objs.size,_) (.tail _ (.head _))
 obtain⟨its,hls0,hln,hpv⟩:=k.lst _ _ V0
 have W:=Walks.list (prog:=prog) (w:=w) (A:=A.in1) hh s.heap.objs.size l hlI its.toArray
 have hsz:its.toArray.size=n:=by rw[O1];exact hln
 refine Q9 PySem.F.entry_min_loop ?_
 rw[Q5 Qg _]
 show wpAny _ A.in1 (seqItems? (.ref _) >>= _) _ _ _
 refine OT (wpAny_seqItems gS rfl ?_)
 show wpAny _ A.in1 (tryCatch (pyNext (.ref s.heap.objs.size)) _ >>= _) _ _ _
 refine OT (Q2 (W.item 0 _ _ _ (by rw[hsz];exact hne) ⟨⟨_,gI,rfl,rfl⟩,hls0⟩ λv h' tk' hP hst' hk'=>?_))
 have hv:Pv 0 v:=hpv _ _ (by simpa using hP)
 obtain⟨oI',hoI',hoc,hod⟩:=id hst'.1
 have V1:=k.put _ [(S,seqObj "list" #[] 0),(s.heap.objs.size,oI')] _ h' tk' V0 (λb o hb e=>hk' b o (by simpa using λz=>hb (by rw[z];exact .tail _ (.head _))) e) rfl λp hp=>by
  rcases OR.mp hp with rfl |hp
  ·exact⟨hk' S _ (by simpa using hSI) gS,λv z=>by cases z⟩
  ·rw[O3.mp hp];exact⟨hoI',λv z=>by rw[hod] at z;cases z⟩
 show wpAny _ A.in1 (tryCatch (holding [v] (call (.ref q) [v])) _ >>= _) _ _ _
 refine OT (Q2 (QP (P9 (turn 0 v _ _ hv V1) (λx s'' he=>?_) λ_ _ hF=>hF.elim)))
 obtain⟨t2,rfl,V2⟩:=he
 have nS2:=k.get _ _ V2 (S,seqObj "list" #[] 0) (.head _)
 have nI2:=k.get _ _ V2 (s.heap.objs.size,oI') (.tail _ (.head _))
 have s1:=Heap.SameBut.update s''.heap S (Obj.mapSeq λ_=>#[v,.int (kf 0) t2])
 obtain⟨c2,hc2⟩:∃c2,(s''.heap.update S (Obj.mapSeq λ_=>#[v,.int (kf 0) t2])).get? S=some (seqObj "list" #[v,.int (kf 0) t2] c2):=⟨_,get?_update_seq nS2 λ_=>#[v,.int (kf 0) t2]⟩
 show wpAny _ A.in1 (updateSeq S (λ_=>#[v,.int (kf 0) t2]) >>= _) _ _ _
 refine OT ?_
 refine wpAny_updateSeq nS2 rfl ?_
 rw[hname]
 refine Pl ⟨plainId_quiet Qg _,AO k kf hh hlI hSI turn hQ _ 0 0 _ v t2 c2 oI' rfl hne (k.put _ _ _ _ s''.toks V2 (λb o hb e=>(s1.2 b λz=>hb (by rw[z];exact .head _)).trans e) rfl λp hp=>?_) ⟨oI',(s1.2 _ hSI.symm).trans nI2,hoc,hod⟩ hv (ON _) λj' hj'=>?_⟩
 ·rcases OR.mp hp with rfl |hp
  ·exact⟨hc2,λv z=>by cases z⟩
  ·rw[O3.mp hp]
   exact⟨(s1.2 _ hSI.symm).trans nI2,λv z=>by rw[hod] at z;cases z⟩
 ·have e:j'=0:=by omega
  subst e
  exact⟨by omega,λh=>absurd h (Pw _)⟩
end
end L2.HM
namespace L2
open PySem PySem.Spec PyProof.Rows
section
variable {X:Cx}{pins:List (Addr×Obj)}{σ:St}{H:Hp}{l:Addr}{xs:List V}
def Nz (X:Cx)(pins:List (Addr×Obj))(σ:St)(H:Hp)(own:List (Addr×Obj))(z:Shared):Prop:=∃H',Inv X (pins ++ own) σ H' z/\av H H'/\∀p,p∈own->jU X pins H' p.1
def Jr (hl:H l=some (.lst xs)):HM.KV (Nz X pins σ H) l xs.length (λi v=>∃x,xs[i]? =some x/\RelV x v):=by
 refine⟨λown z ⟨H',I,s,f⟩ p hp=>(I.pin p (Pn _ (Pn _ hp))).1,?_,?_,?_,?_⟩
 ·rintro own own' z h' tk ⟨H',I,s,f⟩ kk eo hg
  have hf:∀b,b∈own.map (·.1)->jU X pins H' b:=λb hb=>by
   obtain⟨p,hp,rfl⟩:=Pp.mp hb
   exact f p hp
  have It:=I.unpinned.turnedL (t':=tk) (ch:=own.map (·.1)) kk hf
  have hf':∀p,p∈own'->jU X pins H' p.1:=λp hp=>hf p.1 (by rw[<-eo];exact Pp.mpr ⟨p,hp,rfl⟩)
  refine⟨H',It.pins_of λp hp=>?_,s,hf'⟩
  rcases O4.mp hp with hp |hp
  ·exact It.pin p (Pn _ hp)
  ·obtain⟨a1,a2,a3,_⟩:=hf' p hp
   exact⟨(hg p hp).1,a1,a2,a3,(hg p hp).2⟩
 ·rintro own z h' tk ⟨H',I,s,f⟩ kk
  have hf:∀b,b∈own.map (·.1)->jU X pins H' b:=λb hb=>by
   obtain⟨p,hp,rfl⟩:=Pp.mp hb
   exact f p hp
  exact⟨H',by rw[P2];exact I.unpinned.turnedL (t':=tk) (ch:=own.map (·.1)) kk hf,s,λp hp=>by cases hp⟩
 ·rintro own z ⟨H',I,s,f⟩
  obtain⟨its,rv,pl,hz⟩:=I.list (.inl (.inl (s _ _ hl)))
  refine⟨its,pl.isList,rv.length.symm,λi v e=>?_⟩
  have hi:i < xs.length:=by rw[rv.length];exact (OQ.mp e).1
  exact⟨xs[i],OJ hi,tf rv (OJ hi) e⟩
 ·rintro z oI oS n1 n2 h1 h2 ⟨H',I,s,f⟩
  rw[P2] at I
  have kp:∀b u,z.heap.get? b=some u->((z.heap.push oI).push oS).get? b=some u:=λb u e=>OL _ (OL _ e)
  have I2:Inv X pins σ H' {z with heap:=(z.heap.push oI).push oS}:=I.kept (t':=z.toks) kp
  have sz:(z.heap.push oI).objs.size=z.heap.objs.size + 1:=Qo ..
  have fI:jU X pins H' z.heap.objs.size:=I.fpOk (ON _) (I.hok.fresh (ON _))
  have fS:jU X pins H' (z.heap.push oI).objs.size:=I.fpOk (by rw[sz];exact Nat.le_succ _) (I.hok.fresh (by rw[sz];exact Nat.le_succ _))
  have hf:∀p,p∈ [((z.heap.push oI).objs.size,oS),(z.heap.objs.size,oI)]->jU X pins H' p.1:=λp hp=>by
   rcases OR.mp hp with rfl |hp
   ·exact fS
   ·rw[O3.mp hp];exact fI
  refine⟨H',I2.pins_of λp hp=>?_,s,hf⟩
  rcases O4.mp hp with hp |hp
  ·exact I2.pin p (Pn _ hp)
  ·obtain⟨a1,a2,a3,_⟩:=hf p hp
   rcases OR.mp hp with rfl |hp
   ·exact⟨O0 _ n2,a1,a2,a3,h2⟩
   ·rw[O3.mp hp] at a1 a2 a3 ⊢
    exact⟨OL _ (O0 _ n1),a1,a2,a3,h1⟩
def DH {s:Shared}{q:Addr}{Q:VK}{E:Value->Shared->Prop}(I:Inv X pins σ H s)(hh:X.A.handled=none)(hl:H l=some (.lst xs))(hne:0 < xs.length)(kf:Nat->Int)
  (turn:∀(i:Nat) (x:V) (v:Value) own z H',xs[i]? =some x->RelV x v->Inv X (pins ++ own) σ H' z->av H H'->
   wpAny (model X.prog X.w) X.A.in1 (call (.ref q) [v]) (λu z'=>∃t H'',u=.int (kf i) t/\Inv X (pins ++ own) σ H'' z'/\av H' H'') (λ_ _=>False) z)
  (hQ:∀i x H',xs[i]? =some x->(∀j,j < xs.length->kf i<=kf j/\(j < i->kf i < kf j))->av H H'->Q x H') :
  wpAny (model X.prog X.w) X.A (call (.builtin "min") [.ref l] [(Str.ofString "key",.ref q)]) (EP X pins σ Q) E s:=by
 refine HM.Nc (Jr (X:=X) (pins:=pins) (σ:=σ) hl) kf hh ⟨H,by rw[P2];exact I,av.refl _,λp hp=>by cases hp⟩ hne ?_ ?_
 ·rintro i v own z ⟨x,ex,rx⟩ ⟨H',I',s',f'⟩
  refine P9 (turn i x v own z H' ex rx I' s') (λu z' ⟨t,H'',e,I'',s''⟩=>⟨t,e,H'',I'',s'.trans s'',λp hp=>?_⟩) λ_ _ h=>h
  obtain⟨a1,a2⟩:=f' p hp
  exact⟨(I''.pin p (Pn _ (Pn _ hp))).2.1,a2⟩
 ·rintro i v z' ⟨x,ex,rx⟩ hb ⟨H',I',s',_⟩
  rw[P2] at I'
  exact⟨x,H',I',rx,hQ i x H' ex hb s'⟩
end
abbrev GC (X:Cx)(qual:Str)(scope:Scope)(C q:Addr)(cdv:Value):Env:=PySem.W.envX qual scope C q cdv (iE X.env.cells scope.names [])
def zp (X:Cx)(A:Around)(NB:List Str)(qual:Str)(scope:Scope)(q:Addr)(cdv:Value)(s3:Shared)(H3:Hp)(pn:List (Addr×Obj)):Cx:=
 {X with A:=A.deeper (GC X qual scope s3.heap.objs.size q cdv),N:=NB,s₀:=s3,H₀:=H3,env:=GC X qual scope s3.heap.objs.size q cdv,outer:=X.stack,stack:=GC X qual scope s3.heap.objs.size q cdv :: X.stack,ex:=[],fn:=λ_=>false,pn:=pn,xe:=λ_ _=>False}
section
variable {X:Cx}{NB:List Str}{ixs:List Nat}{scope:Scope}{pins:List (Addr×Obj)}{σ:St}{H:Hp}{s:Shared}
def AW {A:Around}{qual:Str}{q:Addr}{cdv:Value}{y:Str}{v:V}{u:Value}(S:cg X NB 1 ixs scope)(nc:∀y∈scope.names,y.2≠.cell)(I:Inv X pins σ H s)(hA:A.frames=some X.stack)(hh:A.handled=none)(hy:NB[0]? =some y)(hloc:scope.names.lookup y=some .local)(rv:RelV v u){h1:Heap}{tk:Nat}
  (hn:h1.Ns s.heap.objs.size (λx=>[(y,u)].reverse.lookup x)) (hk:∀b o,s.heap.get? b=some o->h1.get? b=some o) :
  Inv (zp X A NB qual scope q cdv s H (X.pn ++ pins)) [] (some v :: ixs.map λi=>(σ[i]?).join) H {s with heap:=h1,toks:=tk}:=by
 have stk:=I.stack
 have frees:∀{x:Str},(x,NameKind.free)∈scope.names->∃c,X.env.cells.lookup x=some c:=λ{x} hx=>I.ok.has x (S.frees _ hx rfl)
 have clE:∀{x:Str} {c:Addr},(iE X.env.cells scope.names []).lookup x=some c->(x,NameKind.free)∈scope.names/\X.env.cells.lookup x=some c:=λ{x c} h=>by
  rcases mO h with⟨a,b⟩ |a
  ·obtain⟨c',e⟩:=frees a
   rw[e] at b
   exact⟨a,by rw[e,b];rfl⟩
  ·simp at a
 have isFree:∀{x:Str},(scope.names.lookup x=some .cell\/scope.names.lookup x=some .free)->(x,NameKind.free)∈scope.names:=λ{x} h=>by
  rcases h with h |h
  ·exact absurd rfl (nc _ (PY h))
  ·exact PY h
 have neN:∀b o,s.heap.get? b=some o->b≠s.heap.objs.size:=λb o e=>PN (OZ e)
 have noA:∀b:Addr,b∉(zp X A NB qual scope q cdv s H (X.pn ++ pins)).ex:=λb z=>absurd (show b∈([]:List Addr) from z) (by simp)
 have ok:(zp X A NB qual scope q cdv s H (X.pn ++ pins)).Ok:=
  ⟨I.ok.mod,S.kind,rfl,rfl,ON _,λx y c h1 h2=>I.ok.inj x y c (clE h1).2 (clE h2).2,λx hx=>⟨_,mn (.inl (isFree hx))⟩,λx c h=>(by cases h),λ_=>hh,Around.frames_deeper hA,.inr ⟨rfl,rfl⟩,λb hb=>absurd hb (noA b),I.bs,Pz I.ok.bsz I.sz,λb _ _=>noA b,λb hb=>absurd hb (noA b),stk,I.stkFree⟩
 refine⟨ok,rfl,I.bare,Un.kept hk,⟨_,hn,λi x v' h1' h2' h3'=>?_⟩,λx c h=>?_,I.hok.fresh (ON _),λx c h=>I.freeC x c (clE h).2,λp hp=>?_,I.hok.kept hk,?_⟩
 ·have h1':NB[i]? =some x:=h1'
  cases i with
  |zero=>
   rw[hy] at h1'
   cases h1'
   have h2':some v=some v':=by simpa using h2'
   cases h2'
   exact⟨u,rv,.inl ⟨hloc,by simp⟩⟩
  |succ k=>
   have hk':k < ixs.length:=by
    have:=(OQ.mp h1').1
    rw[S.len] at this;omega
   obtain⟨e1,e2⟩:=S.at' k hk'
   rw[Nat.add_comm 1 k] at e1 e2
   have hm:=e2 x h1'
   rw[List.getElem?_cons_succ,OW,OJ hk'] at h2'
   simp only[Option.map_some,Option.some.injEq] at h2'
   have hix:ixs.getD k 0=ixs[k]:=by simp[hk']
   have hσ:σ[ixs[k]]? =some (some v'):=by
    cases e:σ[ixs[k]]? with
    |none=>rw[e] at h2';cases h2'
    |some o=>rw[e] at h2';simp at h2';rw[h2']
   rw[e1,hix] at h1'
   have hkind:=S.frees _ hm rfl
   have hvis:zJ X.env.scope x:=hkind.elim (λz=>.inr (.inl z)) (λz=>.inr (.inr z))
   obtain⟨m,hm',hl⟩:=I.loc
   obtain⟨u',r,look⟩:=hl _ x v' h1' hσ hvis
   refine⟨u',r,.inr ⟨.inr (S.names _ hm),?_⟩⟩
   rcases look with⟨z,_⟩ | ⟨_,c,hc,hcell⟩
   ·rcases hkind with q |q
    ·rw[q] at z;cases z
    ·rw[q] at z;cases z
   ·refine⟨c,?_,?_⟩
    ·have:=mn (cells:=X.env.cells) (cs:=[]) (.inl hm)
     rw[hc] at this
     exact this
    ·obtain⟨o,ho,hd⟩:=hcell
     exact⟨o,hk _ _ ho,hd⟩
 ·obtain⟨v,o,ho,hd⟩:=I.cell x c (clE h).2
  exact⟨v,o,hk _ _ ho,hd⟩
 ·have hp':p∈X.pn ++ pins:=by
   rcases O4.mp hp with z |z
   ·exact z
   ·cases z
  obtain⟨e,n,ne,nf,d⟩:=I.pin p hp'
  refine⟨hk _ _ e,n,neN _ _ e,λz=>?_,d⟩
  rcases OR.mp (I.stkSub _ z) with q |q
  ·exact ne q
  ·exact nf q
 ·show (some v :: ixs.map λi=>(σ[i]?).join).length=NB.length
  rw[S.len];simp;omega
end
def BL {prog:Program}{w:World}{A:Around}{R:Result->Shared->Prop}{s:Shared}{a:Addr}{args:Args}{o:Obj}{fd:FuncData}{body:Expr}{qn:Str}(hroom:A.depth < recursionLimit)
  (ho:s.heap.get? a=some o)
  (hd':o.data=.func fd) (hco:fd.scope.isCoroutine=false) (hgen:fd.scope.isGenerator=false) (hbody:fd.body=.expr body) (hcd:s.heap.CodeRec fd.code qn)
  (h:wpAny (model prog w) A.in1 (bindArgs fd args) (λbinds s₁=>
   wpAny (model prog w) A.in1 (newFunctionEnv fd.scope fd.globals fd.closure binds (qn ++ ".<locals>.") (some a) fd.code none fd.builtins)
    (λenv s₂=>s₂.heap.NoLimit/\codeAny (model prog w) A (.expr body env) R s₂) (λe s'=>R (.error e) s') s₁) (λe s'=>R (.error e) s') s) :
  codeAny (model prog w) A (.call (.ref a) args) R s:=by
 refine codeAny_of_tree ?_
 show wpAny _ A.in1 (callAny (.ref a) args) _ _ s
 simp only[callAny]
 refine OT (wpAny_load ho ?_)
 obtain⟨c,oc,vs,tq,hc,hoc,hdc,hq⟩:=hcd
 simp only[hd',callFunction,hco,hgen,hbody,hc]
 rw[hc] at h
 refine OT (m:=field (.ref c) 1) (Q7 hoc hdc hq (OT (Pl ?_)))
 exact OT (P9 h (λbinds s₁ h₁=>OT (P9 h₁ (λenv s₂ h₂=>OT (wpAny_enterFrame h₂.1 hroom
  (Pl (And.intro rfl h₂.2)))) λ_ _ h'=>h')) λ_ _ h'=>h')
section
variable {X:Cx}{NB:List Str}{ixs:List Nat}{scope:Scope}{pins:List (Addr×Obj)}{σ:St}{H:Hp}{s:Shared}
def Ej {A:Around}{name qual:Str}{params:Arguments}{body:Expr}{pm ctv:Value}{q c':Addr}{y:Str}{v:V}{u:Value}{te:TE}{Q:VK}{qn:Str}
  (S:cg X NB 1 ixs scope) (nc:∀y∈scope.names,y.2≠.cell) (hco:scope.isCoroutine=false) (hgen:scope.isGenerator=false) (I:Inv X pins σ H s) (hA:A.frames=some X.stack) (hh:A.handled=none) (hd:A.depth < recursionLimit) (hy:NB[0]? =some y) (hloc:scope.names.lookup y=some .local) (rv:RelV v u)
  (ho:s.heap.get? q=some (PySem.W.kla_obj name qual params body scope (iE X.env.cells scope.names []) pm c' ctv)) (hcd:s.heap.CodeRec (.ref c') qn)
  (hb:bindArgs (PySem.W.kla_fn name qual params body scope (iE X.env.cells scope.names []) pm (.ref c') ctv) ⟨[u],[]⟩=pure [(y,u)])
  (he:PE (zp X A NB qn scope q (.ref c') s H (X.pn ++ pins)) body te) (h:te (some v :: ixs.map λi=>(σ[i]?).join) H Q) :
  wpAny (model X.prog X.w) A (call (.ref q) [u]) (EP X pins σ Q) (λ_ _=>False) s:=by
 refine wpAny_call ?_
 refine BL hd ho rfl hco hgen rfl hcd ?_
 rw[hb]
 refine Pl (wpAny_newFunctionEnv nc (λx hx=>by rw[O3] at hx;rw[hx];exact hloc) (λh1 hn hsb=>?_) S.kind)
 have hk:∀b o,s.heap.get? b=some o->h1.get? b=some o:=λb o e=>hsb.extBut b o (PN (OZ e)) (OL _ e)
 have lim:s.heap.NoLimit:=I.ok.mod.nolimit.keeps λb o e=>I.bk b o e
 refine⟨lim.keeps hk,?_⟩
 show codeAny _ _ (.expr body (GC X qn scope s.heap.objs.size q (.ref c'))) _ _
 refine PySem.W.kla_codeExpr ?_
 have I':=AW (qual:=qn) (q:=q) (cdv:=.ref c') (tk:=s.toks + [(y,u)].length) S nc I hA hh hy hloc rv hn hk
 refine P9 (he [] _ _ H Q I' h) (λu' s' ⟨x,H',I2,rx,qx⟩=>?_) λe s' hx=>hx.elim
 exact I.after ⟨x,H',I2.os,I2.bare,I2.base,I2.hok,rx,qx⟩
end
def KG (X:Cx)(kr:St->V->V->Hp->VK->Prop):Prop:=∀(pins:List (Addr×Obj)) (s:Shared) (σ:St) (H:Hp) (q:Addr) (x:V) (u:Value) (Q:VK),Inv X pins σ H s->RelV x u->kr σ (.ref q) x H Q->wpAny (model X.prog X.w) X.A.in1 (call (.ref q) [u]) (EP X pins σ Q) (λ_ _=>False) s
def Kq (kr:St->V->V->Hp->VK->Prop)(ta tl:TE):TE:=λσ H Q=>ta σ H λx H1=>tl σ H1 λf H2=>∃(l q:Addr) (xs:List V) (kf:Nat->Int),x=.ref l/\f=.ref q/\H2 l=some (.lst xs)/\0 < xs.length/\
 (∀(i:Nat) (y:V) (H':Hp),xs[i]? =some y->av H2 H'->kr σ (.ref q) y H' λw H''=>w=.int (kf i)/\av H' H'')/\
 ∀(i:Nat) (y:V) (H':Hp),xs[i]? =some y->(∀j,j < xs.length->kf i<=kf j/\(j < i->kf i < kf j))->av H2 H'->Q y H'
section
variable {X:Cx}{a lam:Expr}{ta tl:TE}{p pos kp:Pos}{kr:St->V->V->Hp->VK->Prop}
theorem A2 (hc:X.calm=true)(hg:Gl X "min")(hm:X.mg "min"=none)(hkr:KG X kr)(ha:PE X a ta)(hl:PE X lam tl)(hv:bootBuiltins "min"=some (.builtin "min"):=by decide +kernel)
  (he:starEach [a] X.env=(false,eval a X.env) :: starEach [] X.env:=by rfl):PE X (.Call (.Name "min" p) [a] [⟨some "key",lam,kp⟩] pos) (Kq kr ta tl):=by
 intro pins s σ H Q I h
 refine Rf (lX I hg hm hv ?_ (by decide))
 let K2:V->V->Hp->Prop:=λx f H2=>∃(l q:Addr) (xs:List V) (kf:Nat->Int),x=.ref l/\f=.ref q/\H2 l=some (.lst xs)/\0 < xs.length/\
  (∀(i:Nat) (y:V) (H':Hp),xs[i]? =some y->av H2 H'->kr σ (.ref q) y H' λw H''=>w=.int (kf i)/\av H' H'')/\
  ∀(i:Nat) (y:V) (H':Hp),xs[i]? =some y->(∀j,j < xs.length->kf i<=kf j/\(j < i->kf i < kf j))->av H2 H'->Q y H'
 let QK:V->List V->Hp->Prop:=λx fs H2=>match fs with
  | [f]=>K2 x f H2
  |_=>False
 let QA:List V->Hp->Prop:=λvs H1=>match vs with
  | [x]=>Ae tl Fu σ H1 (QK x)
  |_=>False
 have h':Ae ta Fu σ H QA:=h
 refine callWith_kw (cO (a8 ha bV he pos pins s σ H QA I h') λus s1 ⟨vs,H1,I1,r1,q1⟩=>?_) (by rw[he];rfl) (by rw[he];rfl) rfl rfl
 match vs,r1,q1 with
 | [],_,q1=>exact q1.elim
 |_ :: _ :: _,_,q1=>exact q1.elim
 | [x],r1,q1=>
  refine cO (G6 hl Jc pos pins s1 σ H1 (QK x) I1 q1) λws s2 ⟨zs,H2,I2,rz,q2⟩=>?_
  match zs,rz,q2 with
  | [],_,q2=>exact q2.elim
  |_ :: _ :: _,_,q2=>exact q2.elim
  | [f],rz,q2=>
   obtain⟨l,q,xs,kf,rfl,rfl,hL,hne,hk,hQ⟩:=q2
   obtain⟨u,rfl,ru⟩:=vals1 r1
   obtain⟨uf,rfl,rf⟩:=vals1 rz
   cases ru
   cases rf
   show wpAny (model X.prog X.w) X.A (call (.builtin "min") [.ref l] [(Str.ofString "key",.ref q)]) (EP X pins σ Q) _ s2
   refine DH I2 (I2.ok.hd hc) hL hne kf (λi x v own z H' ex rx I' s'=>?_) λi x H' ex hb s'=>hQ i x H' ex hb s'
   refine P9 (hkr (pins ++ own) z σ H' q x v _ I' rx (hk i x H' ex s')) (λu' z' ⟨w,H'',I'',rw',e,s''⟩=>?_) λ_ _ hF=>hF
   subst e
   obtain⟨t,rfl⟩:=rw'
   exact⟨t,H'',rfl,I'',s''⟩
end
section
variable {X:Cx}{NB:List Str}{ixs:List Nat}{scope:Scope}
def wN (X:Cx)(params:Arguments)(body:Expr)(scope:Scope)(q:Addr)(H:Hp):Prop:=∃(name qual:Str) (pm ctv:Value) (c':Addr) (oc:Obj),
 H q=some (.a9 (PySem.W.kla_obj name qual params body scope (iE X.env.cells scope.names []) pm c' ctv) (.own 0))/\H c'=some (.a9 oc (.own 0))/\GP oc
def wN.step {params:Arguments}{body:Expr}{q:Addr}{H H':Hp}(h:wN X params body scope q H)(s:av H H'):wN X params body scope q H':=by
 obtain⟨name,qual,pm,ctv,c',oc,h1,h2,h3⟩:=h
 exact⟨name,qual,pm,ctv,c',oc,s _ _ h1,s _ _ h2,h3⟩
def OE (X:Cx)(params:Arguments)(body:Expr)(scope:Scope)(ixs:List Nat)(te:TE):St->V->V->Hp->VK->Prop:=λσ f x H Q=>∃q,f=.ref q/\wN X params body scope q H/\te (some x :: ixs.map λi=>(σ[i]?).join) H Q
def EZ {params:Arguments}{body:Expr}{y:Str}{te:TE}(S:cg X NB 1 ixs scope)(nc:∀y∈scope.names,y.2≠.cell)(hco:scope.isCoroutine=false)(hgen:scope.isGenerator=false)(hc:X.calm=true)(hd:X.A.in1.depth < recursionLimit)(hy:NB[0]? =some y)(hloc:scope.names.lookup y=some .local)
  (hb:∀(name qual:Str) (pm ctv:Value) (c':Addr) (u:Value),bindArgs (PySem.W.kla_fn name qual params body scope (iE X.env.cells scope.names []) pm (.ref c') ctv) ⟨[u],[]⟩=pure [(y,u)])
  (he:∀qn q c' s H pn,PE (zp X X.A.in1 NB qn scope q (.ref c') s H pn) body te):KG X (OE X params body scope ixs te):=by
 rintro pins s σ H q x u Q I rx ⟨q',e,⟨name,qual,pm,ctv,c',oc,h1,h2,vs,qn,t,d1,d2⟩,h⟩
 cases e
 have g1:=(I.hok _ _ h1).1
 have g2:=(I.hok _ _ h2).1
 exact Ej S nc hco hgen I I.env0.in1.frames (I.ok.hd hc) hd hy hloc rx g1 ⟨c',oc,vs,t,rfl,g2,d1,d2⟩ (hb name qual pm ctv c' u) (he qn q c' s H _) h
end
def Mj (X:Cx)(Tb:Hp->Prop)(params:Arguments)(body:Expr)(scope:Scope):TE:=λσ H Q=>Tb H/\∀q H',av H H'->wN X params body scope q H'->Q (.ref q) H'
def me (fb:VF D)(dr:D)(β:Int)(d:D):Option Int:=match fb [.da d,.da dr] β with
 | .ok (.int k) _=>some k
 |_=>none
def xc (ks:List Int):Nat:=argBest (λi j=>decide (ks.getD i 0 < ks.getD j 0)) (ks.length - 1)
def Ar (ir:Nat)(fa fb:VF D):VF D:=λvs β=>(fa vs β).bnd λx β1=>match x,dat vs[ir]? with
 | .list ds,some dr=>if 0 < ds.length/\ds.all (λd=>(me fb dr β1 d).isSome)=true then R.of ds[xc (ds.map λd=>(me fb dr β1 d).getD 0)]? β1 else .bad
 |_,_=>.bad
def rD {ks:List Int}(h:0 < ks.length):xc ks < ks.length/\∀i,i < ks.length->(∀j,j < ks.length->ks.getD i 0<=ks.getD j 0/\(j < i->ks.getD i 0 < ks.getD j 0))->i=xc ks:=by
 have h1:=ng (λi j=>decide (ks.getD i 0 < ks.getD j 0)) (ks.length - 1)
 refine⟨by unfold xc;omega,λi hi hb=>?_⟩
 have first:∀n:Nat,n < ks.length->∀j,j<=n->ks.getD (argBest (λi j=>decide (ks.getD i 0 < ks.getD j 0)) n) 0<=ks.getD j 0/\(j < argBest (λi j=>decide (ks.getD i 0 < ks.getD j 0)) n->ks.getD (argBest (λi j=>decide (ks.getD i 0 < ks.getD j 0)) n) 0 < ks.getD j 0):=by
  intro n
  induction n with
  |zero=>
   intro _ j hj
   have:j=0:=by omega
   subst this
   exact⟨Int.le_refl _,λz=>absurd z (Pw _)⟩
  |succ n ih=>
   intro hn j hj
   have ihn:=ih (by omega)
   have le:=ng (λi j=>decide (ks.getD i 0 < ks.getD j 0)) n
   unfold argBest
   by_cases c:ks.getD (n + 1) 0 < ks.getD (argBest (λi j=>decide (ks.getD i 0 < ks.getD j 0)) n) 0
   ·rw[OO (OP c)]
    by_cases e:j=n + 1
    ·subst e;exact⟨Int.le_refl _,λz=>absurd z (Pw _)⟩
    ·have:=(ihn j (by omega)).1
     exact⟨by omega,λ_=>by omega⟩
   ·rw[OV (by rw[O5];exact c)]
    by_cases e:j=n + 1
    ·subst e;exact⟨by omega,λz=>by omega⟩
    ·exact ihn j (by omega)
 have hB:=first (ks.length - 1) (by omega)
 show i=argBest _ (ks.length - 1)
 generalize argBest (λi j=>decide (ks.getD i 0 < ks.getD j 0)) (ks.length - 1)=b at hB h1
 have a1:=hB i (by omega)
 have a2:=hb b (by omega)
 rcases Nat.lt_trichotomy i b with z |z |z
 ·have:=a1.2 z;omega
 ·exact z
 ·have:=a2.2 z;omega
section
variable {X:Cx}{Γ:Fx}{E:XK}{a lam:Expr}{fa fb:VF D}{La Lb:List Nat}{ma mb:Md}{p pos kp:Pos}{NB:List Str}{scope:Scope}{params:Arguments}{body:Expr}{y:Str}{ir:Nat}{Tb:Hp->Prop}
theorem AF (hc:X.calm=true)(hK:X.K=Γ.K)(hg:Gl X "min")(hm:X.mg "min"=none)(ha:SE X Γ E a fa La .v)(hl:PE X lam (Mj X Tb params body scope))(hT:∀(B:Option Addr) (G H:Hp) σ env β,SR Γ B G H σ env β->Tb H)
  (S:cg X NB 1 [ir] scope) (nc:∀y∈scope.names,y.2≠.cell) (hco:scope.isCoroutine=false) (hgen:scope.isGenerator=false) (hd:X.A.in1.depth < recursionLimit) (hy:NB[0]? =some y) (hloc:scope.names.lookup y=some .local)
  (hb:∀(name qual:Str) (pm ctv:Value) (c':Addr) (u:Value),bindArgs (PySem.W.kla_fn name qual params body scope (iE X.env.cells scope.names []) pm (.ref c') ctv) ⟨[u],[]⟩=pure [(y,u)])
  (he:∀H0 G0 qn q c' s H pn,SE (zp X X.A.in1 NB qn scope q (.ref c') s H pn) (Γ.jq H0 G0 [] (λ_=>false) none) E0 body fb Lb .v)
  (hst:starEach [a] X.env=(false,eval a X.env) :: starEach [] X.env:=by rfl):SE X Γ E (.Call (.Name "min" p) [a] [⟨some "key",lam,kp⟩] pos) (Ar ir fa fb) La .v:=by
 let te:TE:=λσ H Q=>∃H0 G0,pT (Γ.jq H0 G0 [] (λ_=>false) none) E0 fb Lb .v σ H Q
 have hkr:=EZ (te:=te) S nc hco hgen hc hd hy hloc hb λqn q c' s H pn pins s' σ' H' Q I ⟨H0,G0,h⟩=>he H0 G0 qn q c' s H pn pins s' σ' H' Q I h
 refine PE.post' (A2 hc hg hm hkr ha hl (he:=hst)) λσ H Q ⟨env,G,B,β,I,o⟩=>?_
 refine⟨env,G,B,β,I,o.bnd.imp λd1 β1 h x G1 H1 I1 s1 m1 vx=>?_⟩
 refine⟨hT B G1 H1 σ _ β1 I1,λq H2 s2 hlam=>?_⟩
 cases d1 with
 |list ds=>
  cases edr:dat (vl env)[ir]? with
  |none=>rw[edr] at h;exact h.elim
  |some dr=>
  rw[edr] at h
  dsimp only at h
  by_cases hz:0 < ds.length/\ds.all (λd=>(me fb dr β1 d).isSome)=true
  case neg=>rw[OV hz] at h;exact h.elim
  rw[OO hz] at h
  obtain⟨d,ed,k⟩:=h.of
  have vx:Rp Γ.K G1 x (.list ds):=vx
  cases vx with
  | @lst l xs _ hq r=>
  have hl2:H2 l=some (.lst xs):=s2 _ _ (I1.sub _ _ hq)
  have hlen:=r.len
  refine⟨l,q,xs,λi=>(ds.map λd=>(me fb dr β1 d).getD 0).getD i 0,rfl,rfl,hl2,by omega,λi y H' ey s'=>?_,λi y H' ey hbest s'=>?_⟩
  ·refine⟨q,rfl,hlam.step s',H',H',?_⟩
   obtain⟨di,edi,rdi⟩:=r.at' ey
   have sH:av H1 H':=s2.trans s'
   have ry:Rp Γ.K H' y di:=rdi.mono (I1.sub.trans sH)
   have e1:(vl (a9 La env))[ir]? =some (.da dr):=by rw[dH];exact join_some edr
   obtain⟨v,hv,rv⟩:∃v,σ[ir]? =some (some v)/\Rp Γ.K H' v dr:=by
    rcases DV e1 with z |z |z
    ·obtain⟨v,w1,w2⟩:=I1.slot ir _ z
     exact⟨v,w1,w2.mono (I1.sub.trans sH)⟩
    ·obtain⟨c,w1,w2,w3,w4,w5⟩:=I1.slot ir _ z
     exact⟨_,w1,(mj.rpH (B:=B) (.inr ⟨c,rfl,w4,w5⟩) I1.sub).mono sH⟩
    ·obtain⟨_,c,w1,w4,_,w5⟩:=I1.slot ir _ z
     exact⟨_,w1,(mj.rpH (B:=B) (.inr ⟨c,rfl,w4,w5⟩) I1.sub).mono sH⟩
   have J:SR (Γ.jq H' H' [] (λ_=>false) none) none H' H' (some y :: [ir].map λi=>(σ[i]?).join) [.fz di,.fz dr] β1:=by
    refine⟨av.refl _,av.refl _,λb _ h=>h,λb o e _=>Kt.of e,(λb hb=>by cases hb),λb e=>e,(λb e=>by cases e),rfl,λi t e=>?_,λi j c d1 d2 e=>?_⟩
    ·match i,e with
     | 0,e=>cases e;exact⟨y,rfl,ry⟩
     | 1,e=>cases e;exact⟨v,by simp[hv],rv⟩
     |i + 2,e=>simp at e
    ·match i,e with
     | 0,e=>cases e
     | 1,e=>cases e
     |i + 2,e=>simp at e
   refine⟨_,H',none,β1,J,?_⟩
   show Out _ _ (fb [.da di,.da dr] β1) _
   have hs:=O9.mp hz.2 di (Pb edi)
   have ek:(ds.map λd=>(me fb dr β1 d).getD 0).getD i 0=(me fb dr β1 di).getD 0:=by
    rw[Pa,OW,edi];rfl
   cases ef:fb [.da di,.da dr] β1 with
   |exc c=>unfold me at hs;rw[ef] at hs;cases hs
   |bad=>unfold me at hs;rw[ef] at hs;cases hs
   |ok dk β'=>
    unfold me at hs
    rw[ef] at hs
    cases dk with
    |int kk=>
     intro w G'' H'' J2 _ _ vo
     have vo:Rp Γ.K G'' w (.int kk):=vo
     cases vo
     have e2:me fb dr β1 di=some kk:=by unfold me;rw[ef]
     exact⟨by dsimp only;rw[ek,e2];rfl,λb o e=>J2.keep b o e (by intro z;cases z)⟩
    |_=>cases hs
  ·have hks:(ds.map λd=>(me fb dr β1 d).getD 0).length=ds.length:=OK ..
   have hi:i < xs.length:=(OQ.mp ey).1
   have ei:=(rD (ks:=ds.map λd=>(me fb dr β1 d).getD 0) (by omega)).2 i (by omega) λj hj=>hbest j (by omega)
   rw[<-ei] at ed
   obtain⟨y',ey',ry⟩:=r.at ed
   rw[ey] at ey'
   cases ey'
   have sH:av H1 H':=s2.trans s'
   exact k y G1 H' (I1.ext ⟨sH,av.refl _,I1.sub.trans sH,λ_ _=>rfl⟩) s1 (m1.trans (sH.mov B)) ry
 |_=>exact h.elim
end
section
variable {X:Cx}{pins:List (Addr×Obj)}{σ:St}{H:Hp}{s:Shared}
def Inv.grow {P c':Addr}{ps more:Array Value}{oc:Obj}{h':Heap}{tk:Nat}(I:Inv X pins σ H s)(hP:H P=some (.tbl ps))(hx:Heap.ExtBut P s.heap h')(htb:h'.get? P=some (PySem.W.tabObj (ps ++ more)))(hge:s.heap.objs.size<=c')(hoc:h'.get? c'=some oc) :
  Inv X pins σ (upd (upd H P (.tbl (ps ++ more))) c' (.a9 oc (.own 0))) {s with heap:=h',toks:=tk}:=by
 have lt:∀{b:Addr} {o:HO},H b=some o->b≠c':=λ{b o} e z=>by
  have:=I.hok.lt e
  rw[z] at this
  exact Pw _ (Pk this hge)
 have lts:∀{b:Addr} {o:Obj},s.heap.get? b=some o->b≠c':=λ{b o} e z=>by
  have:=OZ e
  rw[z] at this
  exact Pw _ (Pk this hge)
 have nP:∀{b:Addr},H b=none->b≠P:=λ{b} e z=>by rw[z,hP] at e;cases e
 have up:∀{b:Addr} {o:HO},H b=some o->b≠P->upd (upd H P (.tbl (ps ++ more))) c' (.a9 oc (.own 0)) b=some o:=λ{b o} e n=>by rw[aA (lt e),aA n];exact e
 refine I.step (g':=s.gens) (d':=s.drawn) (t':=tk) (ch:=[]) (λ_ z=>nomatch z) (λb o _ _ _ e n=>hx b o (nP n) e) (λb o _ _ _ e n=>⟨o.slots,hx b o (nP n) e⟩) (λb o _ e n=>by rw[aA (lts e),aA (nP n)];exact n) (λb o _ e=>?_)
  (λb xs e=>up e λz=>by rw[z,hP] at e;cases e) (λb o u e=>up e λz=>by rw[z,hP] at e;cases e) (λb ps' e=>?_) (λm hn=>hn.extBut hx (nP I.free)) (λb u e=>?_) I.bare
 ·by_cases z:b=P
  ·rw[z];exact⟨_,htb⟩
  ·exact⟨o,hx b o z e⟩
 ·by_cases z:b=P
  ·subst z
   rw[hP] at e
   cases e
   exact⟨more,by rw[aA (lt hP),aE]⟩
  ·exact⟨#[],by rw[up e z];simp⟩
 ·by_cases zc:b=c'
  ·subst zc
   rw[aE] at e
   cases e
   exact⟨hoc,oc,hoc⟩
  ·rw[aA zc] at e
   by_cases z:b=P
   ·subst z
    rw[aE] at e
    cases e
    exact htb
   ·rw[aA z] at e
    refine (I.hok b u e).stay (λb' u' hb' q=>hx b' u' (λzz=>?_) q) (λb' q=>up q λzz=>by rw[zz,hP] at q;cases q) λb' xs q=>?_
    ·rcases hb' with rfl |hb'
     ·exact z zz
     ·rw[zz,hP] at hb';cases hb'
    ·rcases q with q | ⟨o,q⟩
     ·exact .inl (up q λzz=>by rw[zz,hP] at q;cases q)
     ·exact .inr ⟨o,up q λzz=>by rw[zz,hP] at q;cases q⟩
def av.grow_tbl {P c':Addr}{ps:Array Value}{oc:Obj}{l k:Value}(hP:H P=some (.tbl ps))(hc:H c'=none)(hi:GP oc)(hl:∃i t,l=.int i t)(hk:∃i t,k=.int i t):av H (upd (upd H P (.tbl (ps ++ #[l,k,.ref c']))) c' (.a9 oc (.own 0))):=by
 obtain⟨il,tl,rfl⟩:=hl
 obtain⟨ik,tk,rfl⟩:=hk
 intro b o e
 have nc:b≠c':=λz=>by rw[z,hc] at e;cases e
 have Pc:P≠c':=λz=>by rw[z,hc] at hP;cases hP
 by_cases z:b=P
 ·subst z
  rw[hP] at e
  cases e
  refine⟨#[.int il tl,.int ik tk,.ref c'],by rw[aA nc,aE],trivial,λc hcm=>?_⟩
  have:c=c':=by
   simp only[OR,PB,Qv] at hcm
   rcases hcm with z |z |z
   ·cases z
   ·cases z
   ·cases z;rfl
  subst this
  exact⟨oc,aE,hi⟩
 ·exact Kt.of (by rw[aA nc,aA z];exact e)
end
theorem Eh:∀{l:List Value},Ez l->TriplesOk l
 | [],_=>trivial
 | .int _ _ :: .int _ _ :: .ref _ :: r,h=>Eh (l:=r) h
theorem Ab {pos:Pos}{cv:Value}:∀{l:List Value},Ez l->codeAmong pos l=some cv->∃c,cv=.ref c/\Value.ref c∈l
 | [],_,h=>by cases h
 | .int a b :: .int c d :: .ref e :: r,h,hc=>by
  unfold codeAmong at hc
  split at hc
  ·cases hc;exact⟨e,rfl,by simp⟩
  ·obtain⟨c,e1,e2⟩:=Ab (l:=r) h hc
   exact⟨c,e1,by simp[e2]⟩
def DP (P:Addr)(H:Hp):Prop:=∃ps,H P=some (.tbl ps)/\Ez ps.toList/\∀c,Value.ref c∈ps.toList->∃o,H c=some (.a9 o (.own 0))/\GP o
section
variable {X:Cx}{NB:List Str}{own:Nat}{ixs:List Nat}{scope:Scope}{params:Arguments}{body:Expr}{pos:Pos}{c P:Addr}
theorem JU (S:cg X NB own ixs scope)(hdef:defaultsOf params X.env=([],[]))(hcode:X.env.code=.ref c)(C:PySem.W.CodeHd X.base c P)(hb:X.base.BuiltinsAt X.mg P)(hgP:mainGlobals≠P):PE X (.Lambda params body scope pos) (Mj X (DP P) params body scope):=by
 rintro pins s σ H Q I ⟨⟨ps,hP,htr,hrefs⟩,h⟩
 refine PySem.W.kla_eval hdef ?_
 have hcl:closureFor scope X.env=pure (iE X.env.cells scope.names []):=nA λy hy e=>I.ok.has _ (S.frees y hy e)
 have hb':s.heap.BuiltinsAt X.mg P:=by
  obtain⟨bm,o,b1,b2,b3,b4,b5,b6⟩:=hb
  exact⟨bm,o,b1,b2,b3,b4,I.bk _ _ b5,b6⟩
 cases hca:codeAmong pos ps.toList with
 |none=>
  refine PySem.W.kla_makeFunction hcl I.ok.glob (I.mod.glob.keeps I.bk) hcode (C.keeps I.bk) (I.hok P _ hP) (Eh htr) hca hgP hb' λc' ctv h' tk hx hge hlt hrec htb=>?_
  obtain⟨c2,oc,vs,t,e2,hoc,hd,hv⟩:=hrec
  cases e2
  have I1:=I.grow (tk:=tk) hP hx htb hge hoc
  have hc0:H c'=none:=I.hok.fresh hge
  have sm:=av.grow_tbl (l:=rawInt pos.line) (k:=rawInt pos.col) hP hc0 (oc:=oc) ⟨vs,_,t,hd,hv⟩ ⟨_,_,rfl⟩ ⟨_,_,rfl⟩
  generalize hH1:upd (upd H P (.tbl (ps ++ #[rawInt pos.line,rawInt pos.col,.ref c']))) c' (.a9 oc (.own 0))=H1 at I1 sm
  have ec:H1 c'=some (.a9 oc (.own 0)):=by rw[<-hH1,aE]
  have ff:H1 h'.objs.size=none:=I1.hok.fresh (ON _)
  have I2:=I1.laid (a:=h'.objs.size) (o:=.a9 (PySem.W.kla_obj "<lambda>" (X.env.qual ++ "<lambda>") params body scope (iE X.env.cells scope.names []) ((X.mg "__name__").getD .none) c' ctv) (.own 0)) (t':=tk) (h':=h'.push (PySem.W.kla_obj "<lambda>" (X.env.qual ++ "<lambda>") params body scope (iE X.env.cells scope.names []) ((X.mg "__name__").getD .none) c' ctv)) (λb u e=>OL _ e) (ON _) ⟨O0 _ rfl,_,O0 _ rfl⟩
  exact⟨.ref h'.objs.size,_,I2,rfl,h _ _ (sm.trans (av.new ff)) ⟨_,_,_,_,c',oc,aE,by rw[aA (aM ec ff)];exact ec,vs,_,t,hd,hv⟩⟩
 |some cv=>
  obtain⟨c',rfl,hm⟩:=Ab htr hca
  obtain⟨oc,ec,hi⟩:=hrefs c' hm
  refine PySem.W.kla_makeFunctionHit hcl I.ok.glob (I.mod.glob.keeps I.bk) hcode (C.keeps I.bk) (I.hok P _ hP) (Eh htr) hca hb' λctv h' tk hk hsz=>?_
  have I1:Inv X pins σ H {s with heap:=h',toks:=tk}:=I.kept (t':=tk) hk
  have ff:H h'.objs.size=none:=I1.hok.fresh (ON _)
  have I2:=I1.laid (a:=h'.objs.size) (o:=.a9 (PySem.W.kla_obj "<lambda>" (X.env.qual ++ "<lambda>") params body scope (iE X.env.cells scope.names []) ((X.mg "__name__").getD .none) c' ctv) (.own 0)) (t':=tk) (h':=h'.push (PySem.W.kla_obj "<lambda>" (X.env.qual ++ "<lambda>") params body scope (iE X.env.cells scope.names []) ((X.mg "__name__").getD .none) c' ctv)) (λb u e=>OL _ e) (ON _) ⟨O0 _ rfl,_,O0 _ rfl⟩
  exact⟨.ref h'.objs.size,_,I2,rfl,h _ _ (av.new ff) ⟨_,_,_,_,c',oc,aE,by rw[aA (aM ec ff)];exact ec,hi⟩⟩
end
def DP.mono {P:Addr}{G G':Hp}(h:DP P G)(s:av G G'):DP P G':=by
 obtain⟨ps,e,t,k⟩:=h
 obtain⟨m,e2,t2,k2⟩:=s P _ e
 refine⟨ps ++ m,e2,by rw[QC];exact t.app t2,λc hc=>?_⟩
 rw[QC,O4] at hc
 rcases hc with hc |hc
 ·obtain⟨o,eo,io⟩:=k c hc;exact⟨o,s c _ eo,io⟩
 ·exact k2 c hc
def spT (T:Addr)(K:Frag)(ca:Str->Addr)(n:Nat)(F:List D->FR):Sp:=λvs H Q E=>∃G ds,DP T G/\av G H/\ds.length=n/\cx K G vs ds/\match F ds with
 | .ok d fr=>∀v G' H',av H H'->av G G'->av G' H'->(∀b,Mx H b->G b=none->G' b=none)->FV K H G' H' fr d v->Q v H'
 | .exc c=>∀H',av H H'->E (.ref (ca c)) none H'
 | .bad=>False
structure iL (T:Addr)(P:Program)(w:World)(K:Frag)(mg:Str->Option Value)(base:Heap)(ca:Str->Addr)(x:Str)(ps:List Str)(k:Nat)(F:List D->FR):Prop where
 ex:∃f fd,mg x=some (.ref f)/\PySem.W.keepIn K (.ref f)=true/\Binds K fd ps []/\fA P w K mg base (l4 P w) k f fd ps (spT T K ca ps.length F)
 len:∀ds,F ds≠.bad->ds.length=ps.length
section
variable {P:Program}{w:World}{K:Frag}{mg:Str->Option Value}{base:Heap}{ca:Str->Addr}{T:Addr}
def NN {x qual:Str}{st:Stmt}{f:Addr}{fd:FuncData}{N ps:List Str}{k:Nat}{sp:Sp}(F:B4 K x qual st f fd)(S:aH N ps (ar st))(len:∀vs H Q E,sp vs H Q E->vs.length=ps.length)
  (hbody:∀(cdv:Value) (A:Around) (outer:List Env) (s:Shared) (H:Hp) (vs:List V) (Q:VK) (E:XK),fd.code=cdv->dW k (A.deeper (envOfC qual (ar st) s.heap.objs.size f cdv))->sp vs H Q E->
   ∃t,rR (lD (l4 P w) P w K mg base N qual (ar st) f cdv A outer s H E) (cZ st) t/\t {nx:=λ_ H'=>Q .non H',rt:=Q} (start N vs) H):fA P w K mg base (l4 P w) (k + 1) f fd ps sp:=by
 obtain⟨oc,od,kV,doc,pm,an,cdv,ct,osl,rfl,lk,hcd⟩:=F.ex
 exact C0 lk hcd S len λA outer s H vs Q E hr hsp=>hbody cdv A outer s H vs Q E rfl hr hsp
def jb {x qual:Str}{st:Stmt}{f:Addr}{fd:FuncData}{N ps:List Str}{k:Nat}{m:SF}(F:B4 K x qual st f fd)(S:aH N ps (ar st))
  (hbody:∀(cdv:Value) (A:Around) (outer:List Env) (s:Shared) (H G:Hp) (E:XK),fd.code=cdv->DP T G->dW k (A.deeper (envOfC qual (ar st) s.heap.objs.size f cdv))->El (lD (l4 P w) P w K mg base N qual (ar st) f cdv A outer s H E) (Fx.fn K H G ca) E (cZ st) m) :
  fA P w K mg base (l4 P w) (k + 1) f fd ps (spT T K ca ps.length (aR N.length ps.length m)):=by
 have hpn:ps.length<=N.length:=by have:=congrArg List.length S.pre;rw[PZ] at this;omega
 refine NN F S (λvs H Q E h=>?_) (λcdv A outer s H vs Q E hcd hr h=>?_)
 ·obtain⟨G,ds,_,sG,hl,r,_⟩:=h
  rw[r.len];exact hl
 ·obtain⟨G,ds,tG,sG,hl,r,h⟩:=h
  refine⟨_,hbody cdv A outer s H G E hcd tG hr,?_⟩
  have I:=SR.start (ca:=ca) (N:=N) sG r (by omega)
  refine⟨_,G,none,0,I,?_⟩
  unfold aR at h
  rw[OO hl] at h
  have fin':∀{B G' H' σ env β},SR (Fx.fn K H G ca) B G' H' σ env β->av H H':=λJ b o e=>J.keep b o e (λz=>by cases z)
  cases q:m (yI N.length ds) 0 with
  |nx env β=>rw[q] at h;exact λB G' H' σ J s'=>h .non G' H' (fin' J) s' J.sub (λb h1 h2=>J.new b h1 h2) Rp.non
  |bk env β=>rw[q] at h;exact h.elim
  |ct env β=>rw[q] at h;exact h.elim
  |rt d fr β=>
   rw[q] at h
   refine λB G' H' σ env v J s' rv=>h v G' H' (fin' J) s' J.sub (λb h1 h2=>J.new b h1 h2) ?_
   cases fr with
   |true=>exact rv
   |false=>exact rv
  |exc c=>rw[q] at h;exact λH' kp=>h H' λb o e=>kp b o e (λz=>by cases z)
  |bad=>rw[q] at h;exact h.elim
def A9 {f:Addr}{fd:FuncData}{ps:List Str}{k:Nat}:fA P w K mg base (l4 P w) k f fd ps (spT T K ca ps.length λ_=>.bad):=
 ⟨λvs H Q E h=>by obtain⟨_,_,_,_,_,_,h⟩:=h;exact h.elim,λA outer s H args us vs Q E _ _ _ _ h=>by obtain⟨_,_,_,_,_,_,h⟩:=h;exact h.elim⟩
def iL.imp {x:Str}{ps:List Str}{k:Nat}{F F':List D->FR}(h:iL T P w K mg base ca x ps k F)(i:∀ds,F' ds≠.bad->F ds=F' ds):iL T P w K mg base ca x ps k F':=by
 obtain⟨f,fd,a,b,c,d⟩:=h.ex
 refine⟨⟨f,fd,a,b,c,d.imp λvs H Q E q=>?_⟩,λds hn=>h.len ds (by rw[i ds hn];exact hn)⟩
 obtain⟨G,ds,t,s,hl,r,q⟩:=q
 refine⟨G,ds,t,s,hl,r,?_⟩
 by_cases hb:F' ds=.bad
 ·rw[hb] at q;exact q.elim
 ·rw[i ds hb];exact q
theorem xQ {x:Str}{st:Stmt}{ps:List Str}{f:Addr}{fd:FuncData}{j:Nat}{step:(List D->FR)->List D->FR}(F:gx K mg x st ps f fd)
  (h:∀(k:Nat) (F':List D->FR),j<=k->iL T P w K mg base ca x ps k F'->iL T P w K mg base ca x ps (k + 2) (step F')):∀n,iL T P w K mg base ca x ps (j + 2 * n) (j6 step n)
 | 0=>⟨⟨f,fd,F.mg,F.F.kp,F.b,A9⟩,λds hn=>(hn rfl).elim⟩
 |n + 1=>h (j + 2 * n) _ (Nat.le_add_right _ _) (xQ F h n)
end
section
variable {X:Cx}{Γ:Fx}{E:XK}{a:Expr}{es:List Expr}{fr:VF (List D)}{L:List Nat}{pos:Pos}{T:Addr}
theorem rC {F:List D->FR}{ps:List Str}{Q:VK}{B:Option Addr}{G H:Hp}{σ:St}{env:En}{β:Int}(hT:DP T Γ.G0)(I:SR Γ B G H σ env β)(hK:X.K=Γ.K){wv:Bool}
  (h:Out Γ E (if wv=true then pj F fr (vl env) β else ai F fr (vl env) β) λd β'=>∀v G' H',SR Γ B G' H' σ (a9 L env) β'->av G G'->iJ B H H'->VO Γ.K B H G' H' (if wv=true then .w else .v) d v->Q v H') (hl:∀ds,F ds≠.bad->ds.length=ps.length) :
  aT Γ E fr L σ H λvs H1=>spT T X.K Γ.ca ps.length F vs H1 Q E:=by
 refine⟨env,G,B,β,I,?_⟩
 have h:Out Γ E (fr (vl env) β) λds β1=>Out Γ E (match F ds with
   | .ok d true=>.ok d β1
   | .ok d false=>if wv=true then .bad else .ok d β1
   | .exc c=>.exc c
   | .bad=>.bad) λd β'=>∀v G' H',SR Γ B G' H' σ (a9 L env) β'->av G G'->iJ B H H'->VO Γ.K B H G' H' (if wv=true then .w else .v) d v->Q v H':=by
  cases wv with
  |true=>
   simp only[Qs] at h ⊢
   refine h.bnd.imp λds β1 h=>?_
   cases q:F ds with
   |ok d b=>rw[q] at h;cases b <;> exact h
   |exc c=>rw[q] at h;exact h
   |bad=>rw[q] at h;exact h
  |false=>
   simp only[Qw,Q4] at h ⊢
   refine h.bnd.imp λds β1 h=>?_
   cases q:F ds with
   |ok d b=>rw[q] at h;cases b <;> exact h
   |exc c=>rw[q] at h;exact h
   |bad=>rw[q] at h;exact h
 refine h.imp λds β1 k vs G1 H1 I1 s1 m1 r=>?_
 refine⟨G1,ds,hT.mono I1.old,I1.sub,?_,by rw[hK];exact r,?_⟩
 ·exact hl ds λz=>by rw[z] at k;exact k
 cases q:F ds with
 |bad=>rw[q] at k;exact k
 |exc c=>rw[q] at k;exact λH' s=>k H' (I1.kp s)
 |ok d b=>
  rw[q] at k
  intro v G' H' hh hg hs hn fv
  obtain⟨I2,m2⟩:=I1.called hh hg hs hn
  cases b with
  |true=>
   obtain⟨p,rfl,p1,p2,p3⟩:∃a,v=.ref a/\H1 a=none/\G' a=none/\Own X.K G' H' a d:=fv
   rw[hK] at p3
   have hp:=fP m1 I1.boxThere p1
   cases wv with
   |true=>exact k _ G' H' I2 (s1.trans hg) (m1.trans m2) ⟨p,rfl,hp,p2,p3⟩
   |false=>
    obtain⟨q1,q2,q3,q4⟩:=I1.fresh p1
    obtain⟨G3,I3,s3,r3⟩:=I2.letIn q1 p2 q3 q4 p3
    exact k _ G3 H' I3 ((s1.trans hg).trans s3) (m1.trans m2) r3
  |false=>
   cases wv with
   |true=>exact k.elim
   |false=>
    have fv:Rp X.K G' v d:=fv
    rw[hK] at fv
    exact k _ G' H' I2 (s1.trans hg) (m1.trans m2) fv
def ij {x:Str}{ps:List Str}{k:Nat}{F:List D->FR}{p:Pos}(hT:DP T Γ.G0)(hf:iL T X.prog X.w X.K X.mg X.base Γ.ca x ps k F)(hr:dW k X.A)(hx:Passes (l4 X.prog X.w) X E)(hK:X.K=Γ.K)(hg:Gl X x)(ha:SA X Γ E (a :: es) fr L)(hdb:(x == ("__debug__":Str))=false:=by decide)
  (he:starEach (a :: es) X.env=(false,eval a X.env) :: starEach es X.env:=by rfl) (hpl:(backTo pos (starEach es X.env)).any (·.1)=false:=by rfl):SE X Γ E (.Call (.Name x p) (a :: es) [] pos) (ai F fr) L .v:=by
 obtain⟨f,fd,hm,hk,hb,hF⟩:=hf.ex
 refine PE.post' (mP (dvs:=[]) hF hr hg hm hk hb .nil hx ha hdb he hpl) λσ H Q ⟨env,G,B,β,I,o⟩=>?_
 show aT Γ E fr L σ H λvs H1=>spT T X.K Γ.ca ps.length F (vs ++ []) H1 Q E
 have:=rC (Q:=Q) (wv:=false) (ps:=ps) hT I hK o hf.len
 simpa using this
end
structure Bm (mg:Str->Option Value)(base:Heap)(c T:Addr):Prop where
 hd:PySem.W.CodeHd base c T
 bt:base.BuiltinsAt mg T
 ne:mainGlobals≠T
def Lj {X:Cx}{A:Around}{NB:List Str}{qual:Str}{scope:Scope}{q:Addr}{cdv:Value}{s3:Shared}{H3:Hp}{pn:List (Addr×Obj)}{P:Program}{w:World}:Passes (l4 P w) (zp X A NB qual scope q cdv s3 H3 pn) E0:=λpins σ H s e s' I h=>by
 obtain⟨_,_,_,_,_,_,_,_,_,q⟩:=h
 exact q.elim
theorem BJ {P:Program}{w:World}{K:Frag}{mg mb:Str->Option Value}{CX:BO}{k:Nat}{fa a T c:Addr}{fd:FuncData}{x:Str}{sp:Sp}{s₁:Shared}{vs:List Value}{ns:List Int}
  (KX:K.In s₁.heap) (hns:s₁.heap.Ns mainGlobals mg) (hb:s₁.heap.Ns builtinsNs mb) (hbb:∀x:Str,x≠"__name__"->mb x=bootBuiltins x) (hlim:s₁.heap.NoLimit) (hsys:∃mm,s₁.heap.Ns sysModules mm) (hg:s₁.gens=#[])
  (hbm:∃bm ob,mg "__builtins__"=some (.ref bm)/\bm≠builtinsNs/\s₁.heap.get? bm=some ob/\ob.cls=.type "module"/\ob.dict=some builtinsNs/\ob.data=.plain)
  (hT:s₁.heap.get? T=some (PySem.W.tabObj #[])) (hKT:K.lookup T=none) (hcd:PySem.W.codeHdIn K c T=true)
  (ha:s₁.heap.get? a=some {cls:=.type "list",data:=.seq vs.toArray}) (hi:IntsAre vs ns) (hl:ns.length<=sizeLine) (hr:dW k callerA)
  (F:∀base:Heap,K.In base->base.Ns mainGlobals mg->Bm mg base c T->fA P w K mg base CX k fa fd [x] sp) (hbind:∀(s:Shared) (u:Value),BindsTo s fd ⟨[u],[]⟩ [(x,u)])
  (hsp:∀H:Hp,H T=some (.tbl #[])->iF K H a (ns.map V.int)->sp [.ref a] H (λv _=>v=.bl true) λ_ _ _=>False)
  (hCX:∀H e s',CX [] H s₁ (λ_ _ _=>False) e s'->False) :
  codeAny (model P w) callerA (.call (.ref fa) ⟨[.ref a],[]⟩) (λr s'=>r=.ok (.ret (.bool true))/\OldK s₁.heap s'.heap/\s'.os=s₁.os/\AllBare s'.gens) s₁:=by
 have rv:=ue hi
 have lenV:=hi.length
 have aT:a≠T:=λz=>by rw[z,hT] at ha;cases ha
 have tabs:s₁.heap.TableAt c T #[]:=(PySem.W.codeHd_of_K KX hcd).tab hT
 have core:∀H:Hp,(∀b,b≠T->H b=none\/∃o xs,H b=some (.a9 o (.lst xs)))->H T=some (.tbl #[])->iF K H a (ns.map V.int)->nI P w H s₁.heap->(∀b,H b≠none->b=a\/b=T)->(H a≠none->K.lookup a=none)->
   codeAny (model P w) callerA (.call (.ref fa) ⟨[.ref a],[]⟩) (λr s'=>r=.ok (.ret (.bool true))/\OldK s₁.heap s'.heap/\s'.os=s₁.os/\AllBare s'.gens) s₁:=by
  intro H hO hHT hS hok hA hK
  have base_of:∀{b:Addr} {o:Obj},s₁.heap.get? b=some o->H b=none->(sy s₁.heap H).get? b=some o:=λe n=>Cn e n
  have noO:∀{b:Addr} {o:Obj},s₁.heap.get? b=some o->(∀xs n,o.data≠.seq xs n)->(∀ps,o.data≠.fields ps)->H b=none:=λ{b o} e d1 d2=>by
   cases q:H b with
   |none=>rfl
   |some u=>
    rcases hA b (by rw[q];simp) with e' |e'
    ·subst e'
     rw[ha] at e;cases e
     exact absurd rfl (d1 _ _)
    ·subst e'
     rw[hT] at e;cases e
     exact absurd rfl (d2 _)
  have nsK:∀{b:Addr} {m:Str->Option Value},s₁.heap.Ns b m->(sy s₁.heap H).Ns b m:=λ{b m} ⟨o,es,ep,e,d,r⟩=>⟨o,es,ep,base_of e (noO e (λxs n z=>by rw[d] at z;cases z) λps z=>by rw[d] at z;cases z),d,r⟩
  have hKb:K.In (sy s₁.heap H):=λb o e=>base_of (KX b o e) (by
   cases q:H b with
   |none=>rfl
   |some u=>
    rcases hA b (by rw[q];simp) with e' |e'
    ·subst e'
     rw[hK (by rw[q];simp)] at e;cases e
    ·subst e'
     rw[hKT] at e;cases e)
  have hM:Mod K mg (sy s₁.heap H):=⟨hKb,nsK hns,⟨mb,nsK hb,hbb⟩,let ⟨mc,h1,h2⟩:=hlim;⟨mc,nsK h1,h2⟩,let ⟨mm,h1⟩:=hsys;⟨mm,nsK h1⟩⟩
  have neM:mainGlobals≠T:=λz=>by
   obtain⟨o,es,ep,e,d,_⟩:=hns
   rw[z,hT] at e
   cases e
   have d':Data.fields #[]=Data.dict es ep:=d
   cases d'
  have hL:Bm mg (sy s₁.heap H) c T:=by
   refine⟨PySem.W.codeHd_of_K hKb hcd,?_,neM⟩
   obtain⟨bm,ob,b1,b2,b3,b4,b5,b6⟩:=hbm
   refine⟨bm,ob,b1,b2,λz=>?_,λz=>?_,base_of b3 (noO b3 (λxs n z=>by rw[b6] at z;cases z) λps z=>by rw[b6] at z;cases z),b4,b5,b6⟩
   ·obtain⟨o,es,ep,e,d,_⟩:=hns
    rw[<-z,b3] at e
    cases e
    rw[b6] at d
    cases d
   ·rw[z,hT] at b3
    cases b3
    cases b4
  have e0:yd P w K mg (sy s₁.heap H) callerA [] s₁ H:=⟨rfl,hM,λb o e=>Fp e,Nat.le_of_eq (Bi _ _),trivial,λb hb=>absurd (show b∈([]:List Addr) from hb) (by simp),hok,.of_eq hg⟩
  refine Rb ((F _ hKb (nsK hns) hL).run callerA [] s₁ H ⟨[.ref a],[]⟩ [.ref a] [.ref a] _ _ hr e0 (hbind s₁ (.ref a)) (.cons rfl .nil) (hsp H hHT hS)) λr s' h=>?_
  cases r with
  |error e=>exact (hCX H e s' h).elim
  |ok fl=>
   cases fl with
   |next=>exact False.elim h
   |brk=>exact False.elim h
   |cont=>exact False.elim h
   |ret u=>
    obtain⟨v,H',os,bare,un,hok',r',q⟩:=h
    have q':v=.bl true:=q
    subst q'
    obtain rfl:u=Value.bool true:=r'
    refine⟨rfl,⟨λb o e=>?_,λb o e=>?_⟩,os,bare⟩
    ·by_cases bT:b=T
     ·subst bT
      rw[hT] at e
      cases e
      obtain⟨more,e2⟩:=un.tbls b _ hHT
      exact .inr (.inl ⟨tabs.isCodeTable,rfl,#[],more,rfl,hok' b _ e2⟩)
     ·refine .inl ?_
      cases q:H b with
      |none=>exact un.keep b o e q (by intro z;exact absurd (show b∈([]:List Addr) from z) (by simp)) (by simp)
      |some u=>
       rcases hO b bT with z | ⟨ob,xs,z⟩
       ·rw[q] at z;cases z
       ·have z2:=un.frzs b ob _ z
        obtain⟨e1,_⟩:=hok b _ z
        obtain⟨e2,_⟩:=hok' b _ z2
        rw[e] at e1;cases e1
        exact e2
    ·by_cases bT:b=T
     ·subst bT
      obtain⟨more,e2⟩:=un.tbls b _ hHT
      exact⟨_,hok' b _ e2⟩
     ·cases q:H b with
      |none=>exact⟨o,un.keep b o e q (by intro z;exact absurd (show b∈([]:List Addr) from z) (by simp)) (by simp)⟩
      |some u=>
       rcases hO b bT with z | ⟨ob,xs,z⟩
       ·rw[q] at z;cases z
       ·exact⟨_,(hok' b _ (un.frzs b ob _ z)).1⟩
 cases hk:K.lookup a with
 |some o=>
  have e:=KX a o hk
  rw[ha] at e
  cases e
  refine core (λb=>if b=T then some (.tbl #[]) else none) (λb n=>.inl (OV n)) (OO rfl) (.inr ⟨_,vs.toArray,_,hk,rfl,rfl,rfl,by rw[O1,lenV];exact hl,by simpa using rv⟩) (λb u z=>?_) (λb z=>?_) λz=>absurd (OV aT) z
  ·by_cases hb:b=T
   ·have z':=(OO hb).symm.trans z
    cases z'
    subst hb
    exact hT
   ·have z':=(OV hb).symm.trans z
    cases z'
  ·by_cases hb:b=T
   ·exact .inr hb
   ·exact absurd (OV hb) z
 |none=>
  refine core (λb=>if b=T then some (.tbl #[]) else if b=a then some (.a9 {cls:=.type "list",data:=.seq vs.toArray} (.lst (ns.map V.int))) else none) (λb n=>?_) (OO rfl) (.inl (.inr ⟨{cls:=.type "list",data:=.seq vs.toArray},(OV aT).trans (OO rfl)⟩)) (λb u z=>?_) (λb z=>?_) λ_=>hk
  ·by_cases hb:b=a
   ·exact .inr ⟨_,_,(OV n).trans (OO hb)⟩
   ·exact .inl ((OV n).trans (OV hb))
  ·by_cases hbT:b=T
   ·have z':=(OO hbT).symm.trans z
    cases z'
    subst hbT
    exact hT
   ·have z:=(OV hbT).symm.trans z
    by_cases hb:b=a
    ·have z':=(OO hb).symm.trans z
     cases z'
     subst hb
     exact⟨ha,by rw[OK];exact hl,vs,_,rv,ha⟩
    ·have z':=(OV hb).symm.trans z
     cases z'
  ·by_cases hbT:b=T
   ·exact .inr hbT
   ·by_cases hb:b=a
    ·exact .inl hb
    ·exact absurd ((OV hbT).trans (OV hb)) z
def uW (T:Addr)(K:Frag):Sp:=λvs H Q _=>∃(a:Addr) (ns:List Int),vs= [.ref a]/\H T=some (.tbl #[])/\iF K H a (ns.map V.int)/\∀H',av H H'->Q (.bl true) H'
def DK {l:PySem.W.OpenLaw}{n k:Nat}{q:Program}{loose:List Str}{XP:(Str->Option Value)->Heap->Prop}{YP:World->Heap->Prop}{d:DefRec}{K:Params->Frag}{T c:Addr}
  (hn:l.most=some n) (hn2:n<=sizeLine) (hdf:d.params.defaults= []) (hi:PyProof.Rows.importsNone q=true) (hr:dW k callerA)
  (hY:∀(w:World) (h:Heap),YP w h->(K w.params).In h) (hYT:∀(w:World) (h:Heap),YP w h->h.get? T=some (PySem.W.tabObj #[])) (hKT:∀p,(K p).lookup T=none) (hcd:∀p,PySem.W.codeHdIn (K p) c T=true)
  (F:∀(w:World) (mg:Str->Option Value) (fa:Addr) (h:Heap),(K w.params).In h->h.Ns mainGlobals mg->mg d.name=some (.ref fa)->
   ∃fd:FuncData,(∀(s:Shared) (u:Value),BindsTo s fd ⟨[u],[]⟩ [("script",u)])/\
    ∀base:Heap,(K w.params).In base->base.Ns mainGlobals mg->Bm mg base c T->fA l.prog w (K w.params) mg base (l4 l.prog w) k fa fd ["script"] (uW T (K w.params))) :
  PySem.W.WalkO q loose XP YP l.row.toRowW d [] (λf vs=>PySem.call f vs):=by
 refine Att.xF hn hdf λw s₀ s₁ mg mb fa o pm cd doc a vs ns G Y ho hd hcd' hmg hobj hints hlen hg=>?_
 have KX:=hY w _ Y
 obtain⟨fd,hb,hF⟩:=F w mg fa _ KX G.T.g hmg
 exact BJ KX G.T.g G.T.b G.T.builtins G.T.nolimit (let ⟨mm,h1,_⟩:=(G.T.seer hi).mods;⟨mm,h1⟩) hg G.T.bmain (hYT w _ Y) (hKT _) (hcd _) hobj hints (Pz hlen hn2) hr hF hb (λH hO hS=>⟨a,ns,rfl,hO,hS,λ_ _=>rfl⟩) λH e s' z=>by
  obtain⟨_,_,_,_,_,_,_,_,_,z⟩:=z
  exact z
structure Of (K:Frag)(mg:Str->Option Value)(x:Str)(st:Stmt)(ps:List Str)(c:Addr):Prop where
 ex:∃f fd,gx K mg x st ps f fd/\fd.code=.ref c
def Jv {K:Frag}{mg:Str->Option Value}{h:Heap}{x:Str}{st:Stmt}{ps:List Str}{f c:Addr}{oc:Value}{od an:Option Addr}{sl:Array (Option Value)}{kV doc pm ct:Value}(X:K.In h)(G:h.Ns mainGlobals mg)(b:aP x st ps)(a:PySem.W.nsIn K mainGlobals x=some (some (.ref f)))
  (l:K.lookup f=some ⟨oc,od,.func (PySem.W.fnOf x x (i2 st) (cZ st) (ar st) .none kV doc pm an (.ref c) ct),sl⟩) (hc:PySem.W.codeIn K (.ref c) x=true) (k:PySem.W.keepIn K (.ref f)=true):Of K mg x st ps c:=
 ⟨⟨f,_,⟨QB X G a,qY l hc k,(qY l hc k).binds b⟩,rfl⟩⟩
def Nw {T:Addr}{H:Hp}(h:H T=some (.tbl #[])):DP T H:=⟨#[],h,trivial,λc hc=>by simp at hc⟩
end L2
namespace RM
open PySem L2
def kY:SF:=(bJ (Kh (f2 (f2 (gv 1) (cst (.int 0)) bh) (f2 (gv 2) (cst (.int 1)) bh) (eh false)) (f2 (cC (aa (f2 (gv 1) (cst (.int 0)) bh) (aa (f2 (gv 2) (cst (.int 1)) bh) ag))) (f2 (gv 0) (cst (.int 1)) bh) (lW false))))
def kG (au:List D->FR):SF:=(bJ (f2 (ai au (aa (f2 (gv 0) (gv 2) bh) (aa (gv 1) ag))) (f2 (gv 0) (gv 2) bh) (eh false)))
def jx (bE:List D->FR):SF:=(bJ (ai bE (aa (gv 0) (aa (f2 (gv 1) (cst (.int 1)) bh) (aa (f2 (gv 1) (cst (.int 0)) bh) ag)))))
def jD (bE:List D->FR):SF:=(bJ (ai bE (aa (gv 0) (aa (f2 (gv 1) (cst (.int 0)) bh) (aa (f2 (gv 1) (cst (.int 1)) bh) ag)))))
def lj (bE au:List D->FR):SF:=(aG (bg 2 ([] ++ [0]) (aK 1 [1,0] (.nm 0) (dM (f1 (gv 0) cP)) (nH (dv (f2 (gv 0) (f2 (gv 1) (cst (.int 0)) bh) (eh false))) (gu (ai bE (aa (gv 2) (aa (f2 (gv 1) (cst (.int 0)) bh) (aa (gv 0) ag)))))) (gv 0)))
 (aG (bg 3 (([] ++ ([] ++ [])) ++ (([] ++ []) ++ [])) (ai au (aa (f2 (gv 0) (f2 (gv 1) (cst (.int 1)) bh) bh) (aa (f2 (gv 1) (cst (.int 1)) bh) ag))))
 (km (aK 2 [2,3] (.two 0 1) (Gm (gv 0)) iB (Iu (dv (f2 (gv 0) (gv 2) (lW false))) (f2 (gv 1) (gv 3) Mp) (gv 1))))))
def jA (fD:List D->FR):SF:=(aG (ic 3 (([2] ++ []) ++ []) (cy (aa (cy (aa (gv 2) ag)) ag)))
 (aG (bg 4 [1] (gv 1))
 (aG (bg 5 [] (cst (.int 0)))
 (aG (gE ([0] ++ ((([] ++ []) ++ []) ++ ([2] ++ []))) (oz (gu (ai fD (aa (gv 0) (aa (f2 (f2 (gv 3) (gv 5) bh) (f1 (cst (.int 1)) nQ) bh) (aa (gv 2) ag))))))
 (aG (bg 6 ([] ++ [0]) (aK 1 [0,3,5] (.nm 0) (ba (gv 4)) (gu (ai fD (aa (gv 1) (aa (f2 (f2 (gv 2) (gv 3) bh) (f1 (cst (.int 1)) nQ) bh) (aa (gv 0) ag))))) (gv 0)))
 (aG (bg 4 ([] ++ []) (aK 1 [6] (.nm 0) (ba (gv 4)) (dv (f2 (gv 0) (gv 1) (lW true))) (gv 0)))
 (aG (A4 3 ([] ++ []) (aK 1 [3,5] (.nm 0) (ba (gv 6)) iB (f2 (f2 (gv 1) (gv 2) bh) (cy (aa (gv 0) ag)) l0)))
 (bg 5 ([] ++ []) (f2 (gv 5) (cst (.int 1)) cJ))))) 1000)
 (bJ (f2 (gv 3) (gv 5) bh))))))
def i8 (cj b9 fO gF:List D->FR):SF:=(aG (bg 5 (([] ++ []) ++ []) (f2 (f2 (gv 2) (gv 3) bh) (cst (.int 0)) bh))
 (aG (bg 6 (([] ++ []) ++ []) (f2 (f2 (gv 2) (gv 3) bh) (cst (.int 1)) bh))
 (aG (j4 ([5] ++ ([4] ++ [])) (gu (ai b9 (aa (gv 5) (aa (gv 4) ag))))
 (bJ (cC (aa (cst (.str "ring")) (aa (gv 3) (aa (ai fO (aa (gv 0) (aa (gv 6) (aa (gv 4) ag)))) ag)))))
 lC)
 (bJ (ai cj (aa (gv 0) (aa (gv 1) (aa (f2 (f2 (ES (gv 2) (λ_ β=>.ok none β) (E2 (gv 3))) (cy (aa (cC (aa (ai gF (aa (gv 5) (aa (gv 4) ag))) (aa (f2 (gv 6) (cC (aa (gv 4) ag)) oa) ag))) ag)) l0) (ES (gv 2) (E2 (f2 (gv 3) (cst (.int 1)) cJ)) (λ_ β=>.ok none β)) l0) ag))))))))
def jG (b9:List D->FR):SF:=(bJ (f1 (aK 2 [1] (.two 0 1) (ba (gv 0)) (oz (gu (ai b9 (aa (gv 0) (aa (gv 2) ag))))) (gv 0)) cP))
def fu (i9 fH fT fQ:List D->FR):SF:=(aG (bg 3 ([] ++ []) (aK 1 [2] (.nm 0) (ba (gv 1)) (oz (gu (f1 (aK 2 [0] (.two 0 1) (ba (gv 1)) iB (ai fH (aa (gv 0) (aa (gv 2) ag)))) (bo λbs=>bs.any id)))) (gv 0)))
 (aG (j4 ([] ++ []) (dv (f2 (f1 (gv 3) cP) (cst (.int 0)) (eh false)))
 (bJ (cC (aa (cst (.str "rows")) (aa (aK 2 [] (.two 0 1) (ba (gv 2)) iB (ai fT (aa (gv 0) (aa (cy ag) ag)))) ag))))
 lC)
 (aG (bg 4 [3] (Ar 2 (gv 3) (ai fQ (aa (gv 1) (aa (gv 0) ag)))))
 (aG (ic 5 [] (cy ag))
 (aG (cW (.nm 6) [] (dM (f1 (gv 2) cP))
 (aG (bg 7 ([0] ++ ([3] ++ ([2] ++ ([6] ++ ([4] ++ []))))) (ai i9 (aa (gv 0) (aa (gv 3) (aa (gv 2) (aa (gv 6) (aa (gv 4) ag)))))))
 (aG (j4 (([] ++ []) ++ []) (dv (f2 (f2 (gv 7) (cst (.int 0)) bh) (cst (.str "rows")) (eh false)))
 (mW 7)
 lC)
 (lF 5 [7] (gv 7)))))
 (bJ (cC (aa (cst (.str "turn")) (aa (gv 4) (aa (f1 (gv 5) lS) ag))))))))))
def pP (aV cj de:List D->FR):SF:=(aG (bg 2 (([0] ++ []) ++ ([] ++ [])) (cC (aa (ai aV (aa (gv 0) ag)) (aa (cC ag) ag))))
 (bJ (ai cj (aa (gv 0) (aa (ai de (aa (gv 0) ag)) (aa (f2 (cy (aa (gv 2) ag)) (gv 1) mU) ag))))))
def eZ (aB kU:List D->FR):SF:=(aG (lx ([0] ++ []) (ai aB (aa (gv 0) ag)))
 (aG (bg 1 [] (cst (.int 1)))
 (aG (bg 2 ([0] ++ ([1] ++ [])) (ai kU (aa (gv 0) (aa (gv 1) ag))))
 (aG (gE (([] ++ []) ++ []) (dv (f2 (f2 (gv 2) (cst (.int 0)) bh) (cst (.str "rows")) (eh true)))
 (aG (bg 1 ([] ++ []) (f2 (gv 1) (cst (.int 1)) cJ))
 (bg 2 ([0] ++ ([1] ++ [])) (ai kU (aa (gv 0) (aa (gv 1) ag))))) 1000)
 (bJ (f2 (gv 2) (cst (.int 1)) bh))))))
def oi (c9:List D->FR):SF:=(bJ (f1 (ai c9 (aa (gv 0) ag)) cP))
end RM
namespace L2
open PySem PySem.Spec PyProof.Rows
section
variable {P:Program}{w:World}{K:Frag}{mg:Str->Option Value}{base:Heap}{ca:Str->Addr}{T:Addr}{H:Hp}
def Fw {n:Nat}{F:List D->FR}{vs:List V}{Q:VK}{E:XK}(q:spT T K ca n (oM F) vs H Q E):spT T K ca n F vs H Q E:=by
 obtain⟨G,ds,tG,sG,hl,r,q⟩:=q
 by_cases z:∃es,F ds=.ok (.list es) false/\bP ds=true/\bP es=true
 ·obtain⟨es,e,h1,h2⟩:=z
  rw[uP e h1 h2] at q
  obtain⟨ps,eT,tr,hc⟩:=tG
  have nT:gL B5 G T=none:=by
   cases y:gL B5 G T with
   |none=>rfl
   |some o=>
    have f:=u9 y
    obtain⟨u,eu,k1,k2⟩:=(kg (G:=B5) (H:=G) ke T o y).some
    rw[eT] at eu
    cases eu
    by_cases c:∃ps,o=.tbl ps
    ·obtain⟨ps,rfl⟩:=c;exact f.elim
    ·have:=k1 λps z=>c ⟨ps,z⟩
     rw[<-this] at f;exact f.elim
  generalize hG2:upd (gL B5 G) T (.tbl ps)=G2
  have s1:av (gL B5 G) G2:=by rw[<-hG2];exact av.new nT
  have s2:av G2 G:=by
   rw[<-hG2]
   intro b o eb
   by_cases z:b=T
   ·subst z;rw[aE] at eb;cases eb;exact Kt.of eT
   ·rw[aA z] at eb;exact kg ke b o eb
  have sn:av G2 H:=s2.trans sG
  have e2:G2 T=some (.tbl ps):=by rw[<-hG2];exact aE
  have tb:DP T G2:=⟨ps,e2,tr,λc hm=>by
   obtain⟨o,eo,io⟩:=hc c hm
   exact⟨o,s1 _ _ (uK ke eo trivial),io⟩⟩
  refine⟨G2,ds,tb,sn,hl,(r.flat ke (av.refl _) h1).mono s1,?_⟩
  rw[e]
  intro v G' H' hh g1 g2 hn fv
  have fv:Rp K G' v (.list es):=fv
  cases fv with
  | @lst a xs _ ha hs=>
   have hH':H' a=some (.lst xs):=g2 _ _ ha
   have hHa:H a=none:=by
    cases z:H a with
    |none=>rfl
    |some o=>
     have z':=uV (hh _ _ z) hH'
     subst z'
     have hm:Mx H a:=Mx.lst z
     have:G2 a=none:=by
      cases y:G2 a with
      |none=>rfl
      |some o=>
       have y':=uV (sn _ _ y) z
       subst y'
       by_cases c:a=T
       ·subst c;rw[e2] at y;cases y
       ·rw[<-hG2,aA c] at y;exact (u9 y).elim
     rw[hn a hm this] at ha
     cases ha
   have sG':av G H':=sG.trans hh
   refine q (.ref a) (gL G H') H' hh oN (kg sG') (λb m e=>by rw[u4 hh m];exact e) ?_
   refine⟨a,rfl,hHa,?_,xs,hH',hs.flat sG' g2 h2⟩
   unfold gL
   rw[sG.free hHa,hH']
   exact OV λf=>f
 ·have:oM F ds=F ds:=by
   unfold oM
   split
   ·rename_i es e
    have hf:(bP ds && bP es)=false:=by
     cases y:(bP ds && bP es) with
     |false=>rfl
     |true=>rw[O2] at y;exact absurd ⟨es,e,y.1,y.2⟩ z
    rw[hf,e]
   ·rfl
  rw[this] at q
  exact⟨G,ds,tG,sG,hl,r,q⟩
def iL.new {x:Str}{ps:List Str}{k:Nat}{F:List D->FR}(h:iL T P w K mg base ca x ps k F):iL T P w K mg base ca x ps k (oM F):=by
 obtain⟨f,fd,a,b,c,d⟩:=h.ex
 refine⟨⟨f,fd,a,b,c,d.imp λvs H Q E q=>Fw q⟩,λds hn=>h.len ds λz=>hn ?_⟩
 unfold oM;rw[z]
end
section
variable {X:Cx}{Γ:Fx}{E:XK}{a b:Expr}{es:List Expr}{fr:VF (List D)}{fa fb:VF D}{L La Lb:List Nat}{pos:Pos}{T:Addr}
def Be {x:Str}{ps:List Str}{k:Nat}{F:List D->FR}{p:Pos}(hT:DP T Γ.G0)(hf:iL T X.prog X.w X.K X.mg X.base Γ.ca x ps k F)(hr:dW k X.A)(hx:Passes (l4 X.prog X.w) X E)(hK:X.K=Γ.K)(hg:Gl X x)(ha:SA X Γ E (a :: es) fr L)(hdb:(x == ("__debug__":Str))=false:=by decide)
  (he:starEach (a :: es) X.env=(false,eval a X.env) :: starEach es X.env:=by rfl) (hpl:(backTo pos (starEach es X.env)).any (·.1)=false:=by rfl):SE X Γ E (.Call (.Name x p) (a :: es) [] pos) (pj F fr) L .w:=by
 obtain⟨f,fd,hm,hk,hb,hF⟩:=hf.ex
 refine PE.post' (mP (dvs:=[]) hF hr hg hm hk hb .nil hx ha hdb he hpl) λσ H Q ⟨env,G,B,β,I,o⟩=>?_
 show aT Γ E fr L σ H λvs H1=>spT T X.K Γ.ca ps.length F (vs ++ []) H1 Q E
 have:=rC (Q:=Q) (wv:=true) (ps:=ps) hT I hK o hf.len
 simpa using this
end
end L2
namespace RM
open PySem L2
def du (aB:List D->FR):SF:=(aG (lx ([0] ++ []) (ai aB (aa (gv 0) ag)))
 (j4 (([] ++ []) ++ []) (dv (f2 (f2 (gv 0) (cst (.int 0)) bh) (cst (.int 4)) N5))
 (λenv β=>toS ((aa (cst (.str "the order has more than 4 things")) ag) (vl env) β) λds _=>if ds.length<=sizeLine then .exc "TooMany" else .bad)
 lC))
def jE (fW i6:List D->FR):SF:=(km (aK 1 [0] (.nm 0) (dM (ai fW (aa (gv 0) ag))) iB (ai i6 (aa (gv 1) (aa (gv 0) ag)))))
def dP (bH oD:List D->FR):SF:=(aG (j4 ([] ++ []) (dv (f2 (f1 (gv 2) cP) (gv 3) (eh false)))
 (bJ (Iu (gu (ai oD (aa (gv 2) (aa (gv 0) ag)))) (gv 2) (cst .none)))
 lC)
 (aG (cW (.nm 4) [1] (ba (gv 1))
 (aG (bg 5 ([0] ++ ([1] ++ (([] ++ ([4] ++ [])) ++ ([3] ++ [])))) (ai bH (aa (gv 0) (aa (gv 1) (aa (f2 (gv 2) (cy (aa (gv 4) ag)) l0) (aa (gv 3) ag))))))
 (j4 [] (tN (gv 5) true)
 (mW 5)
 lC)))
 (bJ (cst .none))))
def iY (cf bH fF kx:List D->FR):SF:=(aG (lx ([0] ++ []) (ai cf (aa (gv 0) ag)))
 (bJ (ai bH (aa (gv 0) (aa (ai fF (aa (gv 0) ag)) (aa (cy ag) (aa (ai kx (aa (gv 0) ag)) ag)))))))
def c8:SF:=(aG (bg 1 ([] ++ []) (cy (aa (cC ag) ag)))
 (aG (cW (.nm 2) ([] ++ []) (dM (f2 (gv 0) (cst (.int 0)) bh))
 (aG (ic 3 [] (cy ag))
 (aG (cW (.nm 4) [1] (ba (gv 1))
 (cW (.nm 5) ([] ++ []) (dM (f2 (gv 0) (cst (.int 0)) bh))
 (j4 (([] ++ []) ++ (([] ++ []) ++ [])) (BU (dv (f2 (gv 5) (gv 4) (lW true))) (gu (f1 (aK 2 [5,4] (.two 0 1) (ba (f2 (gv 0) (cst (.int 1)) bh)) (dv (f2 (gv 1) (gv 2) (eh false))) (f2 (gv 0) (gv 3) (lW false))) (bo λbs=>bs.all id))))
 (lF 3 ([] ++ ([5] ++ [])) (f2 (gv 4) (cC (aa (gv 5) ag)) oa))
 lC)))
 (bg 1 [3] (gv 3)))))
 (mW 1)))
def iV (cF bR:List D->FR):SF:=(aG (bg 1 ([0] ++ []) (ai cF (aa (gv 0) ag)))
 (aG (cW (.nm 2) [1] (ba (gv 1))
 (j4 ((([] ++ []) ++ (([2] ++ []) ++ [])) ++ ([] ++ [])) (dv (f2 (ai bR (aa (f2 (gv 0) (cst (.int 0)) bh) (aa (cy (aa (gv 2) ag)) ag))) (f2 (gv 0) (cst (.int 1)) bh) (eh false)))
 (km (cy (aa (gv 2) ag)))
 lC))
 (aG (cW (.nm 3) [1] (ba (gv 1))
 (cW (.nm 4) [1] (ba (gv 1))
 (j4 ((([] ++ []) ++ (([3] ++ ([4] ++ [])) ++ [])) ++ ([] ++ [])) (dv (f2 (ai bR (aa (f2 (gv 0) (cst (.int 0)) bh) (aa (cy (aa (gv 3) (aa (gv 4) ag))) ag))) (f2 (gv 0) (cst (.int 1)) bh) (eh false)))
 (km (cy (aa (gv 3) (aa (gv 4) ag))))
 lC)))
 (bJ (cst .none)))))
def zE (gB bR dQ c5:List D->FR)(b8 cG:List D->Int->FB):SF:=(aG (cW (.nm 1) ([] ++ ([] ++ [])) (dM (f2 (cst (.int 1)) (f2 (f1 (gv 0) cP) (cst (.int 2)) (v5 λi j=>.int (if j < i then j else i))) (v5 λi j=>.int (if j > i then j else i))))
 (aG (Aa 2 ([0] ++ ([1] ++ [])) (pj gB (aa (gv 0) (aa (gv 1) ag))))
 (aG (bg 3 ([] ++ ([] ++ [])) (f2 (cst (.int 1)) (xY 2 b8 (aa (cst (.int 4)) ag)) cJ))
 (aG (bg 4 ([3] ++ (([3] ++ (([] ++ []) ++ [])) ++ [])) (cC (aa (gv 3) (aa (ai bR (aa (gv 3) (aa (aK 1 [2,3] (.nm 0) (dM (cst (.int 2))) iB (xY 1 cG (aa (f1 (gv 2) iq) ag))) ag))) ag))))
 (aG (bg 5 ([4] ++ []) (ai dQ (aa (gv 4) ag)))
 (aG (ic 6 ([4] ++ []) (pj c5 (aa (gv 4) ag)))
 (aG (j4 ([] ++ (([] ++ []) ++ ([] ++ []))) (nH (oz (gu (f1 (gv 6) (ib "list")))) (nH (dv (f2 (gv 6) (gv 5) (eh true))) (oz (gu (f1 (aK 1 [] (.nm 0) (ba (gv 6)) iB (f1 (gv 0) (ib "tuple"))) (bo λbs=>bs.all id))))))
 (bJ (cst (.bool false)))
 lC)
 (aG (lF 6 [] (cst (.int 0)))
 (j4 (([4] ++ []) ++ []) (dv (f2 (ai c5 (aa (gv 4) ag)) (gv 5) (eh true)))
 (bJ (cst (.bool false)))
 lC)))))))))
 (bJ (cst (.bool true))))
end RM
namespace RQ
open PySem L2 RM
def top (i:Nat):Stmt:=PySem.Challenge.pw_rowsorder_k74_first_lists.main.body.getD i (.Pass ⟨0,0,0,0⟩)
section
variable {P:Program}{w:World}{K:Frag}{mg:Str->Option Value}{base:Heap}{ca:Str->Addr}
abbrev lb:Stmt:=top 2
def xh:aH ["thing"] ["thing"] (ar lb):=⟨rfl,rfl,rfl,by decide +kernel,rfl,by decide +kernel,by decide +kernel⟩
def vc {f:Addr}{fd:FuncData}(F:gx K mg "is_whole" lb ["thing"] f fd)(B:hX mg):bM P w K mg base ca "is_whole" ["thing"] 1 (aR 1 1 (qF)):=
 ⟨⟨f,fd,F.mg,F.F.kp,F.b,aQ (N:=["thing"]) (k:=0) F.F xh λcdv A outer s H G E hr=>
  (ax (aX (kL (kW "int" (by decide) rfl rfl B.isinstance rfl B.int (by decide +kernel) (af 0)) (k8 (DQ (kW "bool" (by decide) rfl rfl B.isinstance rfl B.bool (by decide +kernel) (af 0)))) (λ_ _=>rfl))))⟩,λds h=>aI ds h⟩
abbrev kQ:Stmt:=top 3
def w8:aH ["thing","bound"] ["thing","bound"] (ar kQ):=⟨rfl,rfl,rfl,by decide +kernel,rfl,by decide +kernel,by decide +kernel⟩
def vY {f:Addr}{fd:FuncData}{cz:List D->FR}(F:gx K mg "is_below" kQ ["thing","bound"] f fd)(B:hX mg)(gK:bM P w K mg base ca "is_whole" ["thing"] 1 cz):bM P w K mg base ca "is_below" ["thing","bound"] 2 (aR 2 2 (qr cz)):=
 ⟨⟨f,fd,F.mg,F.F.kp,F.b,aQ (N:=["thing","bound"]) (k:=1) F.F w8 λcdv A outer s H G E hr=>
  (ax (aX (kL (az gK (hr.mono (by decide)) aS rfl rfl (ae (aj 0 rfl) ah)) (k8 (wI C4 tX IG Bl aw (af 0) (af 1))) (λ_ _=>rfl))))⟩,λds h=>aI ds h⟩
abbrev mQ:Stmt:=top 4
def yO:aH ["thing"] ["thing"] (ar mQ):=⟨rfl,rfl,rfl,by decide +kernel,rfl,by decide +kernel,by decide +kernel⟩
def wL {f:Addr}{fd:FuncData}{cz:List D->FR}(F:gx K mg "is_many" mQ ["thing"] f fd)(B:hX mg)(gK:bM P w K mg base ca "is_whole" ["thing"] 1 cz){sg:Tok}(jR:mg "MOST_THINGS"=some (.int 8 sg)):bM P w K mg base ca "is_many" ["thing"] 2 (aR 1 1 (ui cz)):=
 ⟨⟨f,fd,F.mg,F.F.kp,F.b,aQ (N:=["thing"]) (k:=1) F.F yO λcdv A outer s H G E hr=>
  (ax (aX (kL (az gK (hr.mono (by decide)) aS rfl rfl (ae (aj 0 rfl) ah)) (k8 (wI C4 C4 IG IG aw (af 0) (zA (by rfl) jR))) (λ_ _=>rfl))))⟩,λds h=>aI ds h⟩
abbrev mr:Stmt:=top 5
def za:aH ["thing","many"] ["thing","many"] (ar mr):=⟨rfl,rfl,rfl,by decide +kernel,rfl,by decide +kernel,by decide +kernel⟩
def xf {f:Addr}{fd:FuncData}{bA:List D->FR}(F:gx K mg "is_pair" mr ["thing","many"] f fd)(B:hX mg)(cN:bM P w K mg base ca "is_below" ["thing","bound"] 2 bA):bM P w K mg base ca "is_pair" ["thing","many"] 3 (aR 2 2 (sZ bA)):=
 ⟨⟨f,fd,F.mg,F.F.kp,F.b,aQ (N:=["thing","many"]) (k:=2) F.F za λcdv A outer s H G E hr=>
  (ak (c7 (v3.t (pe (eM (cm rfl (kW "tuple" (by decide) rfl rfl B.isinstance rfl B.tuple (by decide +kernel) (af 0)))) (ni (bQ (jS hr.units) gz (a7 cc iA rfl B.len PM (af 0)) aw (bw _))) (λ_ _=>rfl)))
  (ax (aX lP))
  cn)
  (ax (aX (kL (az cN (hr.mono (by decide)) aS rfl rfl (ae (aO aJ bu (af 0) aw (λ_ _=>rfl)) (ae (aj 1 rfl) ah))) (k8 (az cN (hr.mono (by decide)) aS rfl rfl (ae (aO aJ bu (af 0) aw (λ_ _=>rfl)) (ae (aj 1 rfl) ah)))) (λ_ _=>rfl)))))⟩,λds h=>aI ds h⟩
abbrev mL:Stmt:=top 6
def zd:aH ["thing","many"] ["thing","many"] (ar mL):=⟨rfl,rfl,rfl,by decide +kernel,rfl,by decide +kernel,by decide +kernel⟩
def xJ {f:Addr}{fd:FuncData}{bA:List D->FR}(F:gx K mg "is_line" mL ["thing","many"] f fd)(B:hX mg)(cN:bM P w K mg base ca "is_below" ["thing","bound"] 2 bA):bM P w K mg base ca "is_line" ["thing","many"] 3 (aR 2 2 (mF bA)):=
 ⟨⟨f,fd,F.mg,F.F.kp,F.b,aQ (N:=["thing","many"]) (k:=2) F.F zd λcdv A outer s H G E hr=>
  (ak (c7 (v3.t (pe (eM (cm rfl (kW "tuple" (by decide) rfl rfl B.isinstance rfl B.tuple (by decide +kernel) (af 0)))) (ni (bQ (jS hr.units) gz (a7 cc iA rfl B.len PM (af 0)) (af 1) (bw _))) (λ_ _=>rfl)))
  (ax (aX lP))
  cn)
  (ax (aX (kL (a7 (eS rfl) fg rfl B.all (by decide +kernel) (bF (NB:=["one","many"]) (own:=1) (ixs:=[1]) [1] rfl (bK (by kernel_rfl)) (λ_ _=>rfl) (iS rfl (af 0)) (λH0 G0 par br bx C ex s3 H3 pn=>(cA (i:=0) (show (["one","many"]:List Str).Nodup by decide +kernel))) (λH0 G0 par br bx C ex s3 H3 pn hB1=>cH) (λH0 G0 par br bx C ex s3 H3 pn hB1=>(az cN (hr.mono (by decide)) jo rfl rfl (ae (aj 0 (hB1 0 (by decide))) (ae (aj 1 (hB1 1 (by decide))) ah)))))) (k8 (eG (dg hr.units) gz (AI rfl rfl rfl B.len rfl B.set (af 0)) (af 1) (bw _))) (λ_ _=>rfl)))))⟩,λds h=>aI ds h⟩
abbrev gn:Stmt:=top 7
def rX:aH ["many"] ["many"] (ar gn):=⟨rfl,rfl,rfl,by decide +kernel,rfl,by decide +kernel,by decide +kernel⟩
def qG {f:Addr}{fd:FuncData}(F:gx K mg "every_pair" gn ["many"] f fd)(B:hX mg):bM P w K mg base ca "every_pair" ["many"] 1 (aR 1 1 (iX)):=
 ⟨⟨f,fd,F.mg,F.F.kp,F.b,aQ (N:=["many"]) (k:=0) F.F rX λcdv A outer s H G E hr=>
  (ax (iM (bF (NB:=["number","many"]) (own:=1) (ixs:=[0]) [] rfl (bK (by kernel_rfl)) (λ_ _=>rfl) (lA rfl B.range (bL l5 nh (af 0) (af 0))) (λH0 G0 par br bx C ex s3 H3 pn=>(cA (i:=0) (show (["number","many"]:List Str).Nodup by decide +kernel))) (λH0 G0 par br bx C ex s3 H3 pn hB1=>cH) (λH0 G0 par br bx C ex s3 H3 pn hB1=>(cK (ae (bL uY LL (af 0) (af 1)) (ae (bL nC ug (af 0) (af 1)) ah)))))))⟩,λds h=>aI ds h⟩
abbrev lg:Stmt:=top 16
def xN:aH ["pairs"] ["pairs"] (ar lg):=⟨rfl,rfl,rfl,by decide +kernel,rfl,by decide +kernel,by decide +kernel⟩
def uE {f:Addr}{fd:FuncData}(F:gx K mg "has_ring" lg ["pairs"] f fd)(B:hX mg):bM P w K mg base ca "has_ring" ["pairs"] 1 (aR 1 1 (qC)):=
 ⟨⟨f,fd,F.mg,F.F.kp,F.b,aQ (N:=["pairs"]) (k:=0) F.F xN λcdv A outer s H G E hr=>
  (ax (aX (a7 (wW rfl) fg rfl B.any (by decide +kernel) (bF (NB:=["a","b"]) (own:=2) (ixs:=[]) [] rfl (bK (by kernel_rfl)) (λ_ _=>rfl) (iS rfl (af 0)) (λH0 G0 par br bx C ex s3 H3 pn=>(fB (i:=0) (j:=1) (show (["a","b"]:List Str).Nodup by decide +kernel))) (λH0 G0 par br bx C ex s3 H3 pn hB1=>cH) (λH0 G0 par br bx C ex s3 H3 pn hB1=>(eG (dg hr.units) gz (af 0) (af 1) (bw _)))))))⟩,λds h=>aI ds h⟩
abbrev kT:Stmt:=top 14
def lJ:aH ["thing","many","pairs"] ["thing"] (ar kT):=⟨rfl,rfl,rfl,by decide +kernel,rfl,by decide +kernel,by decide +kernel⟩
def uQ {f:Addr}{fd:FuncData}{i5 i4 kh gQ:List D->FR}(F:gx K mg "is_order" kT ["thing"] f fd)(B:hX mg)(oW:bM P w K mg base ca "is_many" ["thing"] 2 i5)(oZ:bM P w K mg base ca "is_pair" ["thing","many"] 3 i4)(qc:bM P w K mg base ca "closed" ["many","pairs"] 3 kh)(nz:bM P w K mg base ca "has_ring" ["pairs"] 1 gQ):bM P w K mg base ca "is_order" ["thing"] 4 (aR 3 1 (jl i5 i4 kh gQ)):=
 ⟨⟨f,fd,F.mg,F.F.kp,F.b,aQ (N:=["thing","many","pairs"]) (k:=3) F.F lJ λcdv A outer s H G E hr=>
  (ak (c7 (v3.t (pe (eM (cm rfl (kW "tuple" (by decide) rfl rfl B.isinstance rfl B.tuple (by decide +kernel) (af 0)))) (ni (bQ (jS hr.units) gz (a7 cc iA rfl B.len PM (af 0)) aw (bw _))) (λ_ _=>rfl)))
  (ax (aX lP))
  cn)
  (ak (aY (i:=1) (aO aJ bu (af 0) aw (λ_ _=>rfl)) lJ.nd)
  (ak (aY (i:=2) (aO aJ bu (af 0) aw (λ_ _=>rfl)) lJ.nd)
  (ak (c7 (v3.t (pe (eM (cm rfl (az oW (hr.mono (by decide)) aS rfl rfl (ae (aj 1 rfl) ah)))) (ni (eM (cm rfl (kW "tuple" (by decide) rfl rfl B.isinstance rfl B.tuple (by decide +kernel) (af 2))))) (λ_ _=>rfl)))
  (ax (aX lP))
  cn)
  (ak (c7 (eM (cm rfl (a7 (eS rfl) fg rfl B.all (by decide +kernel) (bF (NB:=["pair","many"]) (own:=1) (ixs:=[1]) [1] rfl (bK (by kernel_rfl)) (λ_ _=>rfl) (iS rfl (af 2)) (λH0 G0 par br bx C ex s3 H3 pn=>(cA (i:=0) (show (["pair","many"]:List Str).Nodup by decide +kernel))) (λH0 G0 par br bx C ex s3 H3 pn hB1=>cH) (λH0 G0 par br bx C ex s3 H3 pn hB1=>(az oZ (hr.mono (by decide)) jo rfl rfl (ae (aj 0 (hB1 0 (by decide))) (ae (aj 1 (hB1 1 (by decide))) ah))))))))
  (ax (aX lP))
  cn)
  (ax (aX (kL (eG (dg hr.units) gz (af 2) (az qc (hr.mono (by decide)) aS rfl rfl (ae (aj 1 rfl) (ae (aj 2 rfl) ah))) (bw _)) (k8 (DQ (az nz (hr.mono (by decide)) aS rfl rfl (ae (aj 2 rfl) ah)))) (λ_ _=>rfl)))))))))⟩,λds h=>aI ds h⟩
abbrev iG:Stmt:=top 17
def rY:aH ["thing"] ["thing"] (ar iG):=⟨rfl,rfl,rfl,by decide +kernel,rfl,by decide +kernel,by decide +kernel⟩
def qd {f:Addr}{fd:FuncData}{gH:List D->FR}(F:gx K mg "need_order" iG ["thing"] f fd)(B:hX mg)(nF:bM P w K mg base ca "is_order" ["thing"] 4 gH)(kn:Exc K mg ca "NoOrder"):bM P w K mg base ca "need_order" ["thing"] 5 (aR 1 1 (iQ gH)):=
 ⟨⟨f,fd,F.mg,F.F.kp,F.b,aQ (N:=["thing"]) (k:=4) F.F rY λcdv A outer s H G E hr=>
  (ax (c7 (eM (cm rfl (az nF (hr.mono (by decide)) aS rfl rfl (ae (aj 0 rfl) ah))))
  (ax (qj kn.ex kn.ca rfl kn.mg (ae mh ah)))
  cn))⟩,λds h=>aI ds h⟩
abbrev jK:Stmt:=top 18
def uv:aH ["order","a","b"] ["order","a","b"] (ar jK):=⟨rfl,rfl,rfl,by decide +kernel,rfl,by decide +kernel,by decide +kernel⟩
def rQ {f:Addr}{fd:FuncData}(F:gx K mg "are_apart" jK ["order","a","b"] f fd)(B:hX mg):bM P w K mg base ca "are_apart" ["order","a","b"] 1 (aR 3 3 (pd)):=
 ⟨⟨f,fd,F.mg,F.F.kp,F.b,aQ (N:=["order","a","b"]) (k:=0) F.F uv λcdv A outer s H G E hr=>
  (ax (aX (kL (eG (jS hr.units) gz (af 1) (af 2) (bw _)) (kL (eG (kl hr.u1) sf (cK (ae (aj 1 rfl) (ae (aj 2 rfl) ah))) (aO aJ bu (af 0) aw (λ_ _=>rfl)) (by with_unfolding_all rfl)) (k8 (eG (kl hr.u1) sf (cK (ae (aj 2 rfl) (ae (aj 1 rfl) ah))) (aO aJ bu (af 0) aw (λ_ _=>rfl)) (by with_unfolding_all rfl))) (λ_ _=>rfl)) (λ_ _=>rfl))))⟩,λds h=>aI ds h⟩
abbrev nO:Stmt:=top 21
def oB:aH ["row","found","place","thing"] ["row"] (ar nO):=⟨rfl,rfl,rfl,by decide +kernel,rfl,by decide +kernel,by decide +kernel⟩
def yS {f:Addr}{fd:FuncData}(F:gx K mg "places" nO ["row"] f fd)(B:hX mg):bM P w K mg base ca "places" ["row"] 1 (aR 4 1 (oj)):=
 ⟨⟨f,fd,F.mg,F.F.kp,F.b,aQ (N:=["row","found","place","thing"]) (k:=0) F.F oB λcdv A outer s H G E hr=>
  (ak (dU (i:=1) (uG (bX (ae aw ah)) (a7 cc iA rfl B.len PM (af 0))) oB.nd)
  (ak (dD PassesOwn.leaving rfl (Jo rfl rfl B.enumerate (aj 0 rfl)) (fB (i:=2) (j:=3) oB.nd)
  (ax (vd 1 (λ_=>rfl) (aj 2 rfl) (af 3))))
  (ax (kJ 1))))⟩,λds h=>aI ds h⟩
abbrev g8:Stmt:=top 20
def lT:aH ["thing","order","place"] ["thing","order"] (ar g8):=⟨rfl,rfl,rfl,by decide +kernel,rfl,by decide +kernel,by decide +kernel⟩
def pB {f:Addr}{fd:FuncData}{i7 dC:List D->FR}(F:gx K mg "keeps_order" g8 ["thing","order"] f fd)(B:hX mg)(o8:bM P w K mg base ca "is_line" ["thing","many"] 3 i7)(ka:bM P w K mg base ca "places" ["row"] 1 dC):bM P w K mg base ca "keeps_order" ["thing","order"] 4 (aR 3 2 (gY i7 dC)):=
 ⟨⟨f,fd,F.mg,F.F.kp,F.b,aQ (N:=["thing","order","place"]) (k:=3) F.F lT λcdv A outer s H G E hr=>
  (ak (c7 (eM (cm rfl (az o8 (hr.mono (by decide)) aS rfl rfl (ae (aj 0 rfl) (ae (aO aJ bu (af 1) aw (λ_ _=>rfl)) ah)))))
  (ax (aX lP))
  cn)
  (ak (aY (i:=2) (az ka (hr.mono (by decide)) aS rfl rfl (ae (aj 0 rfl) ah)) lT.nd)
  (ax (aX (a7 (eS rfl) fg rfl B.all (by decide +kernel) (bF (NB:=["a","b","place"]) (own:=2) (ixs:=[2]) [] rfl (bK (by kernel_rfl)) (λ_ _=>rfl) (iS rfl (aO aJ bu (af 1) aw (λ_ _=>rfl))) (λH0 G0 par br bx C ex s3 H3 pn=>(fB (i:=0) (j:=1) (show (["a","b","place"]:List Str).Nodup by decide +kernel))) (λH0 G0 par br bx C ex s3 H3 pn hB1=>cH) (λH0 G0 par br bx C ex s3 H3 pn hB1=>(eG tX Bl (aO aJ bu (af 2) (af 0) (λ_ _=>rfl)) (aO aJ bu (af 2) (af 1) (λ_ _=>rfl)) (bw _)))))))))⟩,λds h=>aI ds h⟩
abbrev iH:Stmt:=top 25
def sF:aH ["placed","thing"] ["placed","thing"] (ar iH):=⟨rfl,rfl,rfl,by decide +kernel,rfl,by decide +kernel,by decide +kernel⟩
def rE {f:Addr}{fd:FuncData}(F:gx K mg "with_thing" iH ["placed","thing"] f fd)(B:hX mg):bM P w K mg base ca "with_thing" ["placed","thing"] 1 (aR 2 2 (iZ)):=
 ⟨⟨f,fd,F.mg,F.F.kp,F.b,aQ (N:=["placed","thing"]) (k:=0) F.F sF λcdv A outer s H G E hr=>
  (ax (aX (bL HI LV (af 0) (bL CS HR aw (af 1)))))⟩,λds h=>aI ds h⟩
abbrev g7:Stmt:=top 27
def ja:aH ["masks","placed","free","thing","mask"] ["masks","placed"] (ar g7):=⟨rfl,rfl,rfl,by decide +kernel,rfl,by decide +kernel,by decide +kernel⟩
def pE {f:Addr}{fd:FuncData}{au:List D->FR}(F:gx K mg "free_things" g7 ["masks","placed"] f fd)(B:hX mg)(aL:bM P w K mg base ca "with_thing" ["placed","thing"] 1 au):bM P w K mg base ca "free_things" ["masks","placed"] 2 (aR 5 2 (gW au)):=
 ⟨⟨f,fd,F.mg,F.F.kp,F.b,aQ (N:=["masks","placed","free","thing","mask"]) (k:=1) F.F ja λcdv A outer s H G E hr=>
  (ak (dU (i:=2) (bX ah) ja.nd)
  (ak (dD PassesOwn.leaving rfl (w9 rfl rfl B.enumerate (aj 0 rfl)) (fB (i:=3) (j:=4) ja.nd)
  (ax (c7 (v3.t (zg (bQ (jS hr.units) gz (az aL (hr.mono (by decide)) aS rfl rfl (ae (aj 1 rfl) (ae (aj 3 rfl) ah))) (af 1) (bw _)) (u3 (bQ (dg hr.units) gz (bL Ik Mh (af 1) (af 4)) (af 4) (bw _))) (λ_ _=>rfl)))
  (ax (gC 2 (λ_=>rfl) (aj 3 rfl)))
  cn)))
  (ax (kJ 2))))⟩,λds h=>aI ds h⟩
abbrev mK:Stmt:=top 29
def lq:aH ["masks","full","ways","placed"] ["masks"] (ar mK):=⟨rfl,rfl,rfl,by decide +kernel,rfl,by decide +kernel,by decide +kernel⟩
def wC {f:Addr}{fd:FuncData}{aW au:List D->FR}(F:gx K mg "ways_on" mK ["masks"] f fd)(B:hX mg)(b7:bM P w K mg base ca "free_things" ["masks","placed"] 2 aW)(aL:bM P w K mg base ca "with_thing" ["placed","thing"] 1 au):bM P w K mg base ca "ways_on" ["masks"] 3 (aR 4 1 (mB aW au)):=
 ⟨⟨f,fd,F.mg,F.F.kp,F.b,aQ (N:=["masks","full","ways","placed"]) (k:=2) F.F lq λcdv A outer s H G E hr=>
  (ak (aY (i:=1) (bL y9 CZ (bL CS HR aw (a7 cc iA rfl B.len PM (af 0))) aw) lq.nd)
  (ak (dU (i:=2) (bL mq sV (uG (bX (ae aw ah)) (af 1)) (bX (ae aw ah))) lq.nd)
  (ak (dD PassesOwn.leaving rfl (Mg rfl B.range (bL y9 CZ (af 1) aw) (wZ qi wu aw) (wZ qi wu aw)) (cA (i:=3) lq.nd)
  (ax (vd 2 (λ_=>rfl) (a7 (CT rfl) Mb rfl B.sum (by decide +kernel) (bF (NB:=["thing","ways","placed"]) (own:=1) (ixs:=[2,3]) [3] rfl (bK (by kernel_rfl)) (λ_ _=>rfl) (iS rfl (az b7 (hr.mono (by decide)) aS rfl rfl (ae (aj 0 rfl) (ae (aj 3 rfl) ah)))) (λH0 G0 par br bx C ex s3 H3 pn=>(cA (i:=0) (show (["thing","ways","placed"]:List Str).Nodup by decide +kernel))) (λH0 G0 par br bx C ex s3 H3 pn hB1=>cH) (λH0 G0 par br bx C ex s3 H3 pn hB1=>(aO aJ bu (af 1) (az aL (hr.mono (by decide)) jo rfl rfl (ae (aj 2 (hB1 2 (by decide))) (ae (aj 0 (hB1 0 (by decide))) ah))) (λ_ _=>rfl))))) (af 3))))
  (ax (kJ 2)))))⟩,λds h=>aI ds h⟩
abbrev g9:Stmt:=top 26
def jh:aH ["order","masks","a","b"] ["order"] (ar g9):=⟨rfl,rfl,rfl,by decide +kernel,rfl,by decide +kernel,by decide +kernel⟩
def pH {f:Addr}{fd:FuncData}{au:List D->FR}(F:gx K mg "masks_ahead" g9 ["order"] f fd)(B:hX mg)(aL:bM P w K mg base ca "with_thing" ["placed","thing"] 1 au):bM P w K mg base ca "masks_ahead" ["order"] 2 (aR 4 1 (hJ au)):=
 ⟨⟨f,fd,F.mg,F.F.kp,F.b,aQ (N:=["order","masks","a","b"]) (k:=1) F.F jh λcdv A outer s H G E hr=>
  (ak (dU (i:=1) (uG (bX (ae aw ah)) (aO aJ bu (af 0) aw (λ_ _=>rfl))) jh.nd)
  (ak (dD PassesOwn.leaving rfl (Bd rfl (aO aJ bu (af 0) aw (λ_ _=>rfl))) (fB (i:=2) (j:=3) jh.nd)
  (ax (vd 1 (λ_=>rfl) (az aL (hr.mono (by decide)) aS rfl rfl (ae (aO aJ bu (af 1) (af 3) (λ_ _=>rfl)) (ae (aj 2 rfl) ah))) (af 3))))
  (ax (kJ 1))))⟩,λds h=>aI ds h⟩
abbrev js:Stmt:=top 22
def vO:aH ["order"] ["order"] (ar js):=⟨rfl,rfl,rfl,by decide +kernel,rfl,by decide +kernel,by decide +kernel⟩
def sD {f:Addr}{fd:FuncData}{aB cw aV:List D->FR}(F:gx K mg "rows_many" js ["order"] f fd)(B:hX mg)(aZ:bM P w K mg base ca "need_order" ["thing"] 5 aB)(i3:bM P w K mg base ca "ways_on" ["masks"] 3 cw)(bZ:bM P w K mg base ca "masks_ahead" ["order"] 2 aV):bM P w K mg base ca "rows_many" ["order"] 6 (aR 1 1 (jB aB cw aV)):=
 ⟨⟨f,fd,F.mg,F.F.kp,F.b,aQ (N:=["order"]) (k:=5) F.F vO λcdv A outer s H G E hr=>
  (ak (kN (az aZ (hr.mono (by decide)) aS rfl rfl (ae (aj 0 rfl) ah)))
  (ax (aX (aO aJ bu (az i3 (hr.mono (by decide)) aS rfl rfl (ae (az bZ (hr.mono (by decide)) aS rfl rfl (ae (aj 0 rfl) ah)) ah)) aw (λ_ _=>rfl)))))⟩,λds h=>aI ds h⟩
abbrev n0:Stmt:=top 24
def kq:aH ["masks","ways","placed","left","free","at"] ["masks","ways","placed","left"] (ar n0):=⟨rfl,rfl,rfl,by decide +kernel,rfl,by decide +kernel,by decide +kernel⟩
def yo {f:Addr}{fd:FuncData}{aW au:List D->FR}(F:gx K mg "choose" n0 ["masks","ways","placed","left"] f fd)(B:hX mg)(b7:bM P w K mg base ca "free_things" ["masks","placed"] 2 aW)(aL:bM P w K mg base ca "with_thing" ["placed","thing"] 1 au):bM P w K mg base ca "choose" ["masks","ways","placed","left"] 3 (aR 6 4 (n9 aW au)):=
 ⟨⟨f,fd,F.mg,F.F.kp,F.b,aQ (N:=["masks","ways","placed","left","free","at"]) (k:=2) F.F kq λcdv A outer s H G E hr=>
  (ak (aY (i:=4) (az b7 (hr.mono (by decide)) aS rfl rfl (ae (aj 0 rfl) (ae (aj 2 rfl) ah))) kq.nd)
  (ak (aY (i:=5) aw kq.nd)
  (ak (lY 1000 PassesOwn.leaving (bQ KZ Nk (af 3) (aO aJ bu (af 1) (az aL (hr.mono (by decide)) aS rfl rfl (ae (aj 2 rfl) (ae (aO aJ bu (af 4) (af 5) (λ_ _=>rfl)) ah))) (λ_ _=>rfl)) (bw _))
  (ak (aY (i:=3) (bL y9 CZ (af 3) (aO aJ bu (af 1) (az aL (hr.mono (by decide)) aS rfl rfl (ae (aj 2 rfl) (ae (aO aJ bu (af 4) (af 5) (λ_ _=>rfl)) ah))) (λ_ _=>rfl))) kq.nd)
  (ax (aY (i:=5) (bL j5 jX (af 5) aw) kq.nd))))
  (ax (aX (cK (ae (aO aJ bu (af 4) (af 5) (λ_ _=>rfl)) (ae (aj 3 rfl) ah))))))))⟩,λds h=>aI ds h⟩
abbrev mz:Stmt:=top 23
def cM:aH ["order","number","masks","ways","row","placed","left","step","choice"] ["order","number"] (ar mz):=⟨rfl,rfl,rfl,by decide +kernel,rfl,by decide +kernel,by decide +kernel⟩
def wK {f:Addr}{fd:FuncData}{aB aV cw bA kj au:List D->FR}(F:gx K mg "nth_row" mz ["order","number"] f fd)(B:hX mg)(aZ:bM P w K mg base ca "need_order" ["thing"] 5 aB)(bZ:bM P w K mg base ca "masks_ahead" ["order"] 2 aV)(i3:bM P w K mg base ca "ways_on" ["masks"] 3 cw)(cN:bM P w K mg base ca "is_below" ["thing","bound"] 2 bA)(qy:bM P w K mg base ca "choose" ["masks","ways","placed","left"] 3 kj)(aL:bM P w K mg base ca "with_thing" ["placed","thing"] 1 au)(jk:Exc K mg ca "NoNumber"):bM P w K mg base ca "nth_row" ["order","number"] 6 (aR 9 2 (mw aB aV cw bA kj au)):=
 ⟨⟨f,fd,F.mg,F.F.kp,F.b,aQ (N:=["order","number","masks","ways","row","placed","left","step","choice"]) (k:=5) F.F cM λcdv A outer s H G E hr=>
  (ak (kN (az aZ (hr.mono (by decide)) aS rfl rfl (ae (aj 0 rfl) ah)))
  (ak (aY (i:=2) (az bZ (hr.mono (by decide)) aS rfl rfl (ae (aj 0 rfl) ah)) cM.nd)
  (ak (aY (i:=3) (az i3 (hr.mono (by decide)) aS rfl rfl (ae (aj 2 rfl) ah)) cM.nd)
  (ak (c7 (eM (cm rfl (az cN (hr.mono (by decide)) aS rfl rfl (ae (aj 1 rfl) (ae (aO aJ bu (af 3) aw (λ_ _=>rfl)) ah)))))
  (ax (qj jk.ex jk.ca rfl jk.mg (ae mh ah)))
  cn)
  (ak (dU (i:=4) (bX ah) cM.nd)
  (ak (aY (i:=5) aw cM.nd)
  (ak (aY (i:=6) (aj 1 rfl) cM.nd)
  (ak (dD PassesOwn.leaving rfl (lA rfl B.range (aO aJ bu (af 0) aw (λ_ _=>rfl))) (cA (i:=7) cM.nd)
  (ak (aY (i:=8) (az qy (hr.mono (by decide)) aS rfl rfl (ae (aj 2 rfl) (ae (aj 3 rfl) (ae (aj 5 rfl) (ae (aj 6 rfl) ah))))) cM.nd)
  (ak (gC 4 (λ_=>rfl) (aO aJ bu (af 8) aw (λ_ _=>rfl)))
  (ak (aY (i:=5) (az aL (hr.mono (by decide)) aS rfl rfl (ae (aj 5 rfl) (ae (aO aJ bu (af 8) aw (λ_ _=>rfl)) ah))) cM.nd)
  (ax (aY (i:=6) (aO aJ bu (af 8) aw (λ_ _=>rfl)) cM.nd))))))
  (ax (aX (jm cL mE rfl B.tuple (by decide +kernel) (af 4))))))))))))⟩,λds h=>aI ds h⟩
abbrev jI:Stmt:=top 28
def dR:aH ["masks","late","row","placed","free","early"] ["masks","late"] (ar jI):=⟨rfl,rfl,rfl,by decide +kernel,rfl,by decide +kernel,by decide +kernel⟩
def rT {f:Addr}{fd:FuncData}{aW au:List D->FR}(F:gx K mg "row_along" jI ["masks","late"] f fd)(B:hX mg)(b7:bM P w K mg base ca "free_things" ["masks","placed"] 2 aW)(aL:bM P w K mg base ca "with_thing" ["placed","thing"] 1 au):bM P w K mg base ca "row_along" ["masks","late"] 3 (aR 6 2 (ju aW au)):=
 ⟨⟨f,fd,F.mg,F.F.kp,F.b,aQ (N:=["masks","late","row","placed","free","early"]) (k:=2) F.F dR λcdv A outer s H G E hr=>
  (ak (dU (i:=2) (bX ah) dR.nd)
  (ak (aY (i:=3) aw dR.nd)
  (ak (lY 1000 PassesOwn.leaving (bQ tX Bl (a7 cc iA rfl B.len PM (af 2)) (a7 cc iA rfl B.len PM (af 0)) (bw _))
  (ak (aY (i:=4) (az b7 (hr.mono (by decide)) aS rfl rfl (ae (aj 0 rfl) (ae (aj 3 rfl) ah))) dR.nd)
  (ak (um (i:=5) (NB:=["thing","late"]) (own:=1) (ixs:=[1]) [] rfl (bK (by kernel_rfl)) (λ_ _=>rfl) (iS rfl (af 4)) (λH0 G0 par br bx C ex s3 H3 pn=>(cA (i:=0) (show (["thing","late"]:List Str).Nodup by decide +kernel))) (λH0 G0 par br bx C ex s3 H3 pn hB1=>(fj (bQ (kl hr.u1) sf (af 0) (af 1) (by with_unfolding_all rfl)))) (λH0 G0 par br bx C ex s3 H3 pn hB1=>(aj 0 (hB1 0 (by decide)))) dR.nd)
  (ak (gC 2 (λ_=>rfl) (aO aJ bu (bL mq sV (af 5) (af 4)) aw (λ_ _=>rfl)))
  (ax (aY (i:=3) (az aL (hr.mono (by decide)) aS rfl rfl (ae (aj 3 rfl) (ae (aO aJ bu (af 2) (wZ qi wu aw) (λ_ _=>rfl)) ah))) dR.nd))))))
  (ax (aX (jm cL mE rfl B.tuple (by decide +kernel) (af 2)))))))⟩,λds h=>aI ds h⟩
abbrev gp:Stmt:=top 31
def pF:aH ["tables","a","b"] ["tables","a","b"] (ar gp):=⟨rfl,rfl,rfl,by decide +kernel,rfl,by decide +kernel,by decide +kernel⟩
def oF {f:Addr}{fd:FuncData}(F:gx K mg "stands_ahead" gp ["tables","a","b"] f fd)(B:hX mg):bM P w K mg base ca "stands_ahead" ["tables","a","b"] 1 (aR 3 3 (fY)):=
 ⟨⟨f,fd,F.mg,F.F.kp,F.b,aQ (N:=["tables","a","b"]) (k:=0) F.F pF λcdv A outer s H G E hr=>
  (ax (aX (a7 (eS rfl) fg rfl B.all (by decide +kernel) (bF (NB:=["place","a","b"]) (own:=1) (ixs:=[1,2]) [] rfl (bK (by kernel_rfl)) (λ_ _=>rfl) (iS rfl (af 0)) (λH0 G0 par br bx C ex s3 H3 pn=>(cA (i:=0) (show (["place","a","b"]:List Str).Nodup by decide +kernel))) (λH0 G0 par br bx C ex s3 H3 pn hB1=>cH) (λH0 G0 par br bx C ex s3 H3 pn hB1=>(eG tX Bl (aO aJ bu (af 0) (af 1) (λ_ _=>rfl)) (aO aJ bu (af 0) (af 2) (λ_ _=>rfl)) (bw _)))))))⟩,λds h=>aI ds h⟩
abbrev gq:Stmt:=top 30
def lB:aH ["many","rows","tables"] ["many","rows"] (ar gq):=⟨rfl,rfl,rfl,by decide +kernel,rfl,by decide +kernel,by decide +kernel⟩
def oR {f:Addr}{fd:FuncData}{dC bG cT:List D->FR}(F:gx K mg "shared_pairs" gq ["many","rows"] f fd)(B:hX mg)(ka:bM P w K mg base ca "places" ["row"] 1 dC)(dX:bM P w K mg base ca "every_pair" ["many"] 1 bG)(jg:bM P w K mg base ca "stands_ahead" ["tables","a","b"] 1 cT):bM P w K mg base ca "shared_pairs" ["many","rows"] 2 (aR 3 2 (gj dC bG cT)):=
 ⟨⟨f,fd,F.mg,F.F.kp,F.b,aQ (N:=["many","rows","tables"]) (k:=1) F.F lB λcdv A outer s H G E hr=>
  (ak (aY (i:=2) (SE.wv (bF (NB:=["row"]) (own:=1) (ixs:=[]) [] rfl (bK (by kernel_rfl)) (λ_ _=>rfl) (iS rfl (af 1)) (λH0 G0 par br bx C ex s3 H3 pn=>(cA (i:=0) (show (["row"]:List Str).Nodup by decide +kernel))) (λH0 G0 par br bx C ex s3 H3 pn hB1=>cH) (λH0 G0 par br bx C ex s3 H3 pn hB1=>(az ka (hr.mono (by decide)) jo rfl rfl (ae (aj 0 (hB1 0 (by decide))) ah))))) lB.nd)
  (ax (aX (jm cL mE rfl B.tuple (by decide +kernel) (bF (NB:=["a","b","tables"]) (own:=2) (ixs:=[2]) [2] rfl (bK (by kernel_rfl)) (λ_ _=>rfl) (iS rfl (az dX (hr.mono (by decide)) aS rfl rfl (ae (aj 0 rfl) ah))) (λH0 G0 par br bx C ex s3 H3 pn=>(fB (i:=0) (j:=1) (show (["a","b","tables"]:List Str).Nodup by decide +kernel))) (λH0 G0 par br bx C ex s3 H3 pn hB2=>(fj (cm rfl (az jg (hr.mono (by decide)) jo rfl rfl (ae (aj 2 (hB2 2 (by decide))) (ae (aj 0 (hB2 0 (by decide))) (ae (aj 1 (hB2 1 (by decide))) ah))))))) (λH0 G0 par br bx C ex s3 H3 pn hB2=>(cK (ae (aj 0 (hB2 0 (by decide))) (ae (aj 1 (hB2 1 (by decide))) ah)))))))))⟩,λds h=>aI ds h⟩
abbrev kA:Stmt:=top 32
def xt:aH ["thing","order"] ["thing","order"] (ar kA):=⟨rfl,rfl,rfl,by decide +kernel,rfl,by decide +kernel,by decide +kernel⟩
def vT {f:Addr}{fd:FuncData}{cu:List D->FR}(F:gx K mg "are_rows" kA ["thing","order"] f fd)(B:hX mg)(j0:bM P w K mg base ca "keeps_order" ["thing","order"] 4 cu):bM P w K mg base ca "are_rows" ["thing","order"] 5 (aR 2 2 (kZ cu)):=
 ⟨⟨f,fd,F.mg,F.F.kp,F.b,aQ (N:=["thing","order"]) (k:=4) F.F xt λcdv A outer s H G E hr=>
  (ak (c7 (v3.t (pe (eM (cm rfl (kW "list" (by decide) rfl rfl B.isinstance rfl B.list (by decide +kernel) (af 0)))) (ni (bQ (dg hr.units) gz (a7 cc iA rfl B.len PM (af 0)) aw (bw _))) (λ_ _=>rfl)))
  (ax (aX lP))
  cn)
  (ax (aX (a7 (eS rfl) fg rfl B.all (by decide +kernel) (bF (NB:=["row","order"]) (own:=1) (ixs:=[1]) [1] rfl (bK (by kernel_rfl)) (λ_ _=>rfl) (iS rfl (af 0)) (λH0 G0 par br bx C ex s3 H3 pn=>(cA (i:=0) (show (["row","order"]:List Str).Nodup by decide +kernel))) (λH0 G0 par br bx C ex s3 H3 pn hB1=>cH) (λH0 G0 par br bx C ex s3 H3 pn hB1=>(az j0 (hr.mono (by decide)) jo rfl rfl (ae (aj 0 (hB1 0 (by decide))) (ae (aj 1 (hB1 1 (by decide))) ah)))))))))⟩,λds h=>aI ds h⟩
abbrev uN:Stmt:=top 33
def GW:aH ["thing","order"] ["thing","order"] (ar uN):=⟨rfl,rfl,rfl,by decide +kernel,rfl,by decide +kernel,by decide +kernel⟩
def D5 {f:Addr}{fd:FuncData}{aB gP cU:List D->FR}(F:gx K mg "tell" uN ["thing","order"] f fd)(B:hX mg)(aZ:bM P w K mg base ca "need_order" ["thing"] 5 aB)(nj:bM P w K mg base ca "are_rows" ["thing","order"] 5 gP)(je:bM P w K mg base ca "shared_pairs" ["many","rows"] 2 cU):bM P w K mg base ca "tell" ["thing","order"] 6 (aR 2 2 (yq aB gP cU)):=
 ⟨⟨f,fd,F.mg,F.F.kp,F.b,aQ (N:=["thing","order"]) (k:=5) F.F GW λcdv A outer s H G E hr=>
  (ak (kN (az aZ (hr.mono (by decide)) aS rfl rfl (ae (aj 1 rfl) ah)))
  (ax (aX (kL (az nj (hr.mono (by decide)) aS rfl rfl (ae (aj 0 rfl) (ae (aj 1 rfl) ah))) (k8 (eG (dg hr.units) gz (az je (hr.mono (by decide)) aS rfl rfl (ae (aO aJ bu (af 1) aw (λ_ _=>rfl)) (ae (aj 0 rfl) ah))) (aO aJ bu (af 1) aw (λ_ _=>rfl)) (bw _))) (λ_ _=>rfl)))))⟩,λds h=>aI ds h⟩
abbrev pR:Stmt:=top 35
def DL:aH ["order"] ["order"] (ar pR):=⟨rfl,rfl,rfl,by decide +kernel,rfl,by decide +kernel,by decide +kernel⟩
def AL {f:Addr}{fd:FuncData}{aB bG fM:List D->FR}(F:gx K mg "turns" pR ["order"] f fd)(B:hX mg)(aZ:bM P w K mg base ca "need_order" ["thing"] 5 aB)(dX:bM P w K mg base ca "every_pair" ["many"] 1 bG)(lL:bM P w K mg base ca "are_apart" ["order","a","b"] 1 fM):bM P w K mg base ca "turns" ["order"] 6 (aR 1 1 (pS aB bG fM)):=
 ⟨⟨f,fd,F.mg,F.F.kp,F.b,aQ (N:=["order"]) (k:=5) F.F DL λcdv A outer s H G E hr=>
  (ak (kN (az aZ (hr.mono (by decide)) aS rfl rfl (ae (aj 0 rfl) ah)))
  (ax (iM (bF (NB:=["a","b","order"]) (own:=2) (ixs:=[0]) [0] rfl (bK (by kernel_rfl)) (λ_ _=>rfl) (iS rfl (az dX (hr.mono (by decide)) aS rfl rfl (ae (aO aJ bu (af 0) aw (λ_ _=>rfl)) ah))) (λH0 G0 par br bx C ex s3 H3 pn=>(fB (i:=0) (j:=1) (show (["a","b","order"]:List Str).Nodup by decide +kernel))) (λH0 G0 par br bx C ex s3 H3 pn hB1=>(fj (cm rfl (az lL (hr.mono (by decide)) jo rfl rfl (ae (aj 2 (hB1 2 (by decide))) (ae (aj 0 (hB1 0 (by decide))) (ae (aj 1 (hB1 1 (by decide))) ah))))))) (λH0 G0 par br bx C ex s3 H3 pn hB1=>(cK (ae (aj 0 (hB1 0 (by decide))) (ae (aj 1 (hB1 1 (by decide))) ah))))))))⟩,λds h=>aI ds h⟩
abbrev la:Stmt:=top 37
def pq:aH ["order","a","b","pairs"] ["order","a","b"] (ar la):=⟨rfl,rfl,rfl,by decide +kernel,rfl,by decide +kernel,by decide +kernel⟩
def vE {f:Addr}{fd:FuncData}(F:gx K mg "is_sharp" la ["order","a","b"] f fd)(B:hX mg):bM P w K mg base ca "is_sharp" ["order","a","b"] 1 (aR 4 3 (kF)):=
 ⟨⟨f,fd,F.mg,F.F.kp,F.b,aQ (N:=["order","a","b","pairs"]) (k:=0) F.F pq λcdv A outer s H G E hr=>
  (ak (aY (i:=3) (aO aJ bu (af 0) aw (λ_ _=>rfl)) pq.nd)
  (ak (c7 (eM (cm rfl (a7 (eS rfl) fg rfl B.all (by decide +kernel) (bF (NB:=["one","other","a","b","pairs"]) (own:=2) (ixs:=[1,2,3]) [2] rfl (bK (by kernel_rfl)) (λ_ _=>rfl) (iS rfl (af 3)) (λH0 G0 par br bx C ex s3 H3 pn=>(fB (i:=0) (j:=1) (show (["one","other","a","b","pairs"]:List Str).Nodup by decide +kernel))) (λH0 G0 par br bx C ex s3 H3 pn hB1=>(fj (bQ (dg hr.units) gz (af 1) (af 2) (bw _)))) (λH0 G0 par br bx C ex s3 H3 pn hB1=>(eG (ra hr.u1) sf (cK (ae (aj 0 (hB1 0 (by decide))) (ae (aj 3 (hB1 3 (by decide))) ah))) (af 4) (by with_unfolding_all rfl)))))))
  (ax (aX lP))
  cn)
  (ax (aX (a7 (eS rfl) fg rfl B.all (by decide +kernel) (bF (NB:=["one","other","b","a","pairs"]) (own:=2) (ixs:=[2,1,3]) [1] rfl (bK (by kernel_rfl)) (λ_ _=>rfl) (iS rfl (af 3)) (λH0 G0 par br bx C ex s3 H3 pn=>(fB (i:=0) (j:=1) (show (["one","other","b","a","pairs"]:List Str).Nodup by decide +kernel))) (λH0 G0 par br bx C ex s3 H3 pn hB2=>(fj (bQ (dg hr.units) gz (af 0) (af 2) (bw _)))) (λH0 G0 par br bx C ex s3 H3 pn hB2=>(eG (ra hr.u1) sf (cK (ae (aj 3 (hB2 3 (by decide))) (ae (aj 1 (hB2 1 (by decide))) ah))) (af 4) (by with_unfolding_all rfl)))))))))⟩,λds h=>aI ds h⟩
abbrev gZ:Stmt:=top 36
def qE:aH ["order"] ["order"] (ar gZ):=⟨rfl,rfl,rfl,by decide +kernel,rfl,by decide +kernel,by decide +kernel⟩
def pI {f:Addr}{fd:FuncData}{mJ gO:List D->FR}(F:gx K mg "sharp_turns" gZ ["order"] f fd)(B:hX mg)(uy:bM P w K mg base ca "turns" ["order"] 6 mJ)(ny:bM P w K mg base ca "is_sharp" ["order","a","b"] 1 gO):bM P w K mg base ca "sharp_turns" ["order"] 7 (aR 1 1 (mV mJ gO)):=
 ⟨⟨f,fd,F.mg,F.F.kp,F.b,aQ (N:=["order"]) (k:=6) F.F qE λcdv A outer s H G E hr=>
  (ax (iM (bF (NB:=["a","b","order"]) (own:=2) (ixs:=[0]) [0] rfl (bK (by kernel_rfl)) (λ_ _=>rfl) (iS rfl (az uy (hr.mono (by decide)) aS rfl rfl (ae (aj 0 rfl) ah))) (λH0 G0 par br bx C ex s3 H3 pn=>(fB (i:=0) (j:=1) (show (["a","b","order"]:List Str).Nodup by decide +kernel))) (λH0 G0 par br bx C ex s3 H3 pn hB1=>(fj (cm rfl (az ny (hr.mono (by decide)) jo rfl rfl (ae (aj 2 (hB1 2 (by decide))) (ae (aj 0 (hB1 0 (by decide))) (ae (aj 1 (hB1 1 (by decide))) ah))))))) (λH0 G0 par br bx C ex s3 H3 pn hB1=>(cK (ae (aj 0 (hB1 0 (by decide))) (ae (aj 1 (hB1 1 (by decide))) ah)))))))⟩,λds h=>aI ds h⟩
abbrev lh:Stmt:=top 38
def xw:aH ["order","turn","other"] ["order","turn","other"] (ar lh):=⟨rfl,rfl,rfl,by decide +kernel,rfl,by decide +kernel,by decide +kernel⟩
def uD {f:Addr}{fd:FuncData}(F:gx K mg "leads_on" lh ["order","turn","other"] f fd)(B:hX mg):bM P w K mg base ca "leads_on" ["order","turn","other"] 1 (aR 3 3 (kY)):=
 ⟨⟨f,fd,F.mg,F.F.kp,F.b,aQ (N:=["order","turn","other"]) (k:=0) F.F xw λcdv A outer s H G E hr=>
  (ax (aX (LU (eG (dg hr.units) gz (aO aJ bu (af 1) aw (λ_ _=>rfl)) (aO aJ bu (af 2) aw (λ_ _=>rfl)) (bw _)) (k8 (eG (ra hr.u1) sf (cK (ae (aO aJ bu (af 1) aw (λ_ _=>rfl)) (ae (aO aJ bu (af 2) aw (λ_ _=>rfl)) ah))) (aO aJ bu (af 0) aw (λ_ _=>rfl)) (by with_unfolding_all rfl))) (λ_ _=>rfl))))⟩,λds h=>aI ds h⟩
abbrev kI:Stmt:=top 39
def wG:aH ["masks","a","b"] ["masks","a","b"] (ar kI):=⟨rfl,rfl,rfl,by decide +kernel,rfl,by decide +kernel,by decide +kernel⟩
def vX {f:Addr}{fd:FuncData}{au:List D->FR}(F:gx K mg "is_ahead" kI ["masks","a","b"] f fd)(B:hX mg)(aL:bM P w K mg base ca "with_thing" ["placed","thing"] 1 au):bM P w K mg base ca "is_ahead" ["masks","a","b"] 2 (aR 3 3 (kG au)):=
 ⟨⟨f,fd,F.mg,F.F.kp,F.b,aQ (N:=["masks","a","b"]) (k:=1) F.F wG λcdv A outer s H G E hr=>
  (ax (aX (eG (dg hr.units) gz (az aL (hr.mono (by decide)) aS rfl rfl (ae (aO aJ bu (af 0) (af 2) (λ_ _=>rfl)) (ae (aj 1 rfl) ah))) (aO aJ bu (af 0) (af 2) (λ_ _=>rfl)) (bw _))))⟩,λds h=>aI ds h⟩
abbrev jN:Stmt:=top 40
def vK:aH ["masks","turn"] ["masks","turn"] (ar jN):=⟨rfl,rfl,rfl,by decide +kernel,rfl,by decide +kernel,by decide +kernel⟩
def sO {f:Addr}{fd:FuncData}{bE:List D->FR}(F:gx K mg "is_turned" jN ["masks","turn"] f fd)(B:hX mg)(c4:bM P w K mg base ca "is_ahead" ["masks","a","b"] 2 bE):bM P w K mg base ca "is_turned" ["masks","turn"] 3 (aR 2 2 (jx bE)):=
 ⟨⟨f,fd,F.mg,F.F.kp,F.b,aQ (N:=["masks","turn"]) (k:=2) F.F vK λcdv A outer s H G E hr=>
  (ax (aX (az c4 (hr.mono (by decide)) aS rfl rfl (ae (aj 0 rfl) (ae (aO aJ bu (af 1) aw (λ_ _=>rfl)) (ae (aO aJ bu (af 1) aw (λ_ _=>rfl)) ah))))))⟩,λds h=>aI ds h⟩
abbrev jH:Stmt:=top 41
def vh:aH ["masks","turn"] ["masks","turn"] (ar jH):=⟨rfl,rfl,rfl,by decide +kernel,rfl,by decide +kernel,by decide +kernel⟩
def sM {f:Addr}{fd:FuncData}{bE:List D->FR}(F:gx K mg "is_barred" jH ["masks","turn"] f fd)(B:hX mg)(c4:bM P w K mg base ca "is_ahead" ["masks","a","b"] 2 bE):bM P w K mg base ca "is_barred" ["masks","turn"] 3 (aR 2 2 (jD bE)):=
 ⟨⟨f,fd,F.mg,F.F.kp,F.b,aQ (N:=["masks","turn"]) (k:=2) F.F vh λcdv A outer s H G E hr=>
  (ax (aX (az c4 (hr.mono (by decide)) aS rfl rfl (ae (aj 0 rfl) (ae (aO aJ bu (af 1) aw (λ_ _=>rfl)) (ae (aO aJ bu (af 1) aw (λ_ _=>rfl)) ah))))))⟩,λds h=>aI ds h⟩
abbrev k9:Stmt:=top 42
def lV:aH ["masks","turn","late","more"] ["masks","turn"] (ar k9):=⟨rfl,rfl,rfl,by decide +kernel,rfl,by decide +kernel,by decide +kernel⟩
def vH {f:Addr}{fd:FuncData}{bE au:List D->FR}(F:gx K mg "put_turn" k9 ["masks","turn"] f fd)(B:hX mg)(c4:bM P w K mg base ca "is_ahead" ["masks","a","b"] 2 bE)(aL:bM P w K mg base ca "with_thing" ["placed","thing"] 1 au):bM P w K mg base ca "put_turn" ["masks","turn"] 3 (aR 4 2 (lj bE au)):=
 ⟨⟨f,fd,F.mg,F.F.kp,F.b,aQ (N:=["masks","turn","late","more"]) (k:=2) F.F lV λcdv A outer s H G E hr=>
  (ak (aY (i:=2) (SE.wv (bF (NB:=["thing","turn","masks"]) (own:=1) (ixs:=[1,0]) [0] rfl (bK (by kernel_rfl)) (λ_ _=>rfl) (lA rfl B.range (a7 cc iA rfl B.len PM (af 0))) (λH0 G0 par br bx C ex s3 H3 pn=>(cA (i:=0) (show (["thing","turn","masks"]:List Str).Nodup by decide +kernel))) (λH0 G0 par br bx C ex s3 H3 pn hB1=>(fj (v3.t (pe (bQ (dg hr.units) gz (af 0) (aO aJ bu (af 1) aw (λ_ _=>rfl)) (bw _)) (ni (cm rfl (az c4 (hr.mono (by decide)) jo rfl rfl (ae (aj 2 (hB1 2 (by decide))) (ae (aO aJ bu (af 1) aw (λ_ _=>rfl)) (ae (aj 0 (hB1 0 (by decide))) ah)))))) (λi hi=>hB1 i (by revert i hi;decide)))))) (λH0 G0 par br bx C ex s3 H3 pn hB1=>(aj 0 (hB1 0 (by decide)))))) lV.nd)
  (ak (aY (i:=3) (az aL (hr.mono (by decide)) aS rfl rfl (ae (aO aJ bu (af 0) (aO aJ bu (af 1) aw (λ_ _=>rfl)) (λ_ _=>rfl)) (ae (aO aJ bu (af 1) aw (λ_ _=>rfl)) ah))) lV.nd)
  (ax (iM (bF (NB:=["thing","mask","late","more"]) (own:=2) (ixs:=[2,3]) [] rfl (bK (by kernel_rfl)) (λ_ _=>rfl) (SI.vb (w9 rfl rfl B.enumerate (aj 0 rfl))) (λH0 G0 par br bx C ex s3 H3 pn=>(fB (i:=0) (j:=1) (show (["thing","mask","late","more"]:List Str).Nodup by decide +kernel))) (λH0 G0 par br bx C ex s3 H3 pn hB2=>cH) (λH0 G0 par br bx C ex s3 H3 pn hB2=>(Hq (bQ (ra hr.u1) sf (af 0) (af 2) (by with_unfolding_all rfl)) (bL HI LV (af 1) (af 3)) (aj 1 (hB2 1 (by decide))) (λi hi=>hB2 i (by revert i hi;decide)))))))))⟩,λds h=>aI ds h⟩
abbrev jy:Stmt:=top 43
def cY:aH ["order","put","turn","paths","left","at","fresh"] ["order","put","turn"] (ar jy):=⟨rfl,rfl,rfl,by decide +kernel,rfl,by decide +kernel,by decide +kernel⟩
def so {f:Addr}{fd:FuncData}{fD:List D->FR}(F:gx K mg "ring_with" jy ["order","put","turn"] f fd)(B:hX mg)(kz:bM P w K mg base ca "leads_on" ["order","turn","other"] 1 fD):bM P w K mg base ca "ring_with" ["order","put","turn"] 2 (aR 7 3 (jA fD)):=
 ⟨⟨f,fd,F.mg,F.F.kp,F.b,aQ (N:=["order","put","turn","paths","left","at","fresh"]) (k:=1) F.F cY λcdv A outer s H G E hr=>
  (ak (dU (i:=3) (bX (ae (SE.wv (bX (ae (aj 2 rfl) ah))) ah)) cY.nd)
  (ak (aY (i:=4) (aj 1 rfl) cY.nd)
  (ak (aY (i:=5) aw cY.nd)
  (ak (lY 1000 PassesOwn.leaving (eM (cm rfl (az kz (hr.mono (by decide)) aS rfl rfl (ae (aj 0 rfl) (ae (aO aJ bu (aO aJ bu (af 3) (af 5) (λ_ _=>rfl)) (wZ qi wu aw) (λ_ _=>rfl)) (ae (aj 2 rfl) ah))))))
  (ak (aY (i:=6) (SE.wv (bF (NB:=["other","order","paths","at"]) (own:=1) (ixs:=[0,3,5]) [0] rfl (bK (by kernel_rfl)) (λ_ _=>rfl) (iS rfl (af 4)) (λH0 G0 par br bx C ex s3 H3 pn=>(cA (i:=0) (show (["other","order","paths","at"]:List Str).Nodup by decide +kernel))) (λH0 G0 par br bx C ex s3 H3 pn hB1=>(fj (cm rfl (az kz (hr.mono (by decide)) jo rfl rfl (ae (aj 1 (hB1 1 (by decide))) (ae (aO aJ bu (aO aJ bu (af 2) (af 3) (λ_ _=>rfl)) (wZ qi wu aw) (λ_ _=>rfl)) (ae (aj 0 (hB1 0 (by decide))) ah))))))) (λH0 G0 par br bx C ex s3 H3 pn hB1=>(aj 0 (hB1 0 (by decide)))))) cY.nd)
  (ak (um (i:=4) (NB:=["other","fresh"]) (own:=1) (ixs:=[6]) [] rfl (bK (by kernel_rfl)) (λ_ _=>rfl) (iS rfl (af 4)) (λH0 G0 par br bx C ex s3 H3 pn=>(cA (i:=0) (show (["other","fresh"]:List Str).Nodup by decide +kernel))) (λH0 G0 par br bx C ex s3 H3 pn hB2=>(fj (bQ (kl hr.u1) sf (af 0) (af 1) (by with_unfolding_all rfl)))) (λH0 G0 par br bx C ex s3 H3 pn hB2=>(aj 0 (hB2 0 (by decide)))) cY.nd)
  (ak (AG 3 (λ_=>rfl) (bF (NB:=["other","paths","at"]) (own:=1) (ixs:=[3,5]) [] rfl (bK (by kernel_rfl)) (λ_ _=>rfl) (iS rfl (af 6)) (λH0 G0 par br bx C ex s3 H3 pn=>(cA (i:=0) (show (["other","paths","at"]:List Str).Nodup by decide +kernel))) (λH0 G0 par br bx C ex s3 H3 pn hB3=>cH) (λH0 G0 par br bx C ex s3 H3 pn hB3=>(SE.wv (bL mq sV (aO aJ bu (af 1) (af 2) (λ_ _=>rfl)) (bX (ae (aj 0 (hB3 0 (by decide))) ah)))))))
  (ax (aY (i:=5) (bL j5 jX (af 5) aw) cY.nd))))))
  (ax (aX (aO aJ bu (af 3) (af 5) (λ_ _=>rfl))))))))⟩,λds h=>aI ds h⟩
abbrev mM:Stmt:=top 50
def nG:aH ["order","left","rows","number","turn","masks","put"] ["order","left","rows","number","turn"] (ar mM):=⟨rfl,rfl,rfl,by decide +kernel,rfl,by decide +kernel,by decide +kernel⟩
def xV {T:Addr}{f:Addr}{fd:FuncData}{cj b9 fO gF:List D->FR}{k:Nat}(hk:6<=k)(F:gx K mg "case_of" mM ["order","left","rows","number","turn"] f fd)(B:hX mg)(jf:iL T P w K mg base ca "cases_on" ["order","left","rows"] k cj)(fK:bM P w K mg base ca "is_barred" ["masks","turn"] 3 b9)(lZ:bM P w K mg base ca "ring_with" ["order","put","turn"] 2 fO)(nq:bM P w K mg base ca "put_turn" ["masks","turn"] 3 gF):iL T P w K mg base ca "case_of" ["order","left","rows","number","turn"] (k + 1) (aR 7 5 (i8 cj b9 fO gF)):=
 ⟨⟨f,fd,F.mg,F.F.kp,F.b,jb (N:=["order","left","rows","number","turn","masks","put"]) (k:=k) F.F nG λcdv A outer s H G E hcd hT hr=>
  (ak (aY (i:=5) (aO aJ bu (aO aJ bu (af 2) (af 3) (λ_ _=>rfl)) aw (λ_ _=>rfl)) nG.nd)
  (ak (aY (i:=6) (aO aJ bu (aO aJ bu (af 2) (af 3) (λ_ _=>rfl)) aw (λ_ _=>rfl)) nG.nd)
  (ak (c7 (cm rfl (az fK (hr.mono (by omega)) aS rfl rfl (ae (aj 5 rfl) (ae (aj 4 rfl) ah))))
  (ax (aX (cK (ae mh (ae (aj 3 rfl) (ae (az lZ (hr.mono (by omega)) aS rfl rfl (ae (aj 0 rfl) (ae (aj 6 rfl) (ae (aj 4 rfl) ah)))) ah))))))
  cn)
  (ax (aX (ij hT jf (hr.mono (by omega)) aS rfl rfl (ae (aj 0 rfl) (ae (aj 1 rfl) (ae (SE.wv (bL mq sV (bL mq sV (wc rfl (af 2) zN (Aq (af 3))) (bX (ae (cK (ae (az nq (hr.mono (by omega)) aS rfl rfl (ae (aj 5 rfl) (ae (aj 4 rfl) ah))) (ae (bL wt Ci (af 6) (cK (ae (aj 4 rfl) ah))) ah))) ah))) (wc rfl (af 2) (Aq (bL j5 jX (af 3) aw)) zN))) ah)))))))))⟩,λds h=>aI ds h⟩
abbrev jw:Stmt:=top 49
def uA:aH ["rows","turn"] ["rows","turn"] (ar jw):=⟨rfl,rfl,rfl,by decide +kernel,rfl,by decide +kernel,by decide +kernel⟩
def rV {f:Addr}{fd:FuncData}{b9:List D->FR}(F:gx K mg "free_rows" jw ["rows","turn"] f fd)(B:hX mg)(fK:bM P w K mg base ca "is_barred" ["masks","turn"] 3 b9):bM P w K mg base ca "free_rows" ["rows","turn"] 4 (aR 2 2 (jG b9)):=
 ⟨⟨f,fd,F.mg,F.F.kp,F.b,aQ (N:=["rows","turn"]) (k:=3) F.F uA λcdv A outer s H G E hr=>
  (ax (aX (a7 cc iA rfl B.len PM (bF (NB:=["masks","put","turn"]) (own:=2) (ixs:=[1]) [1] rfl (bK (by kernel_rfl)) (λ_ _=>rfl) (iS rfl (af 0)) (λH0 G0 par br bx C ex s3 H3 pn=>(fB (i:=0) (j:=1) (show (["masks","put","turn"]:List Str).Nodup by decide +kernel))) (λH0 G0 par br bx C ex s3 H3 pn hB1=>(fj (eM (cm rfl (az fK (hr.mono (by decide)) jo rfl rfl (ae (aj 0 (hB1 0 (by decide))) (ae (aj 2 (hB1 2 (by decide))) ah))))))) (λH0 G0 par br bx C ex s3 H3 pn hB1=>(aj 0 (hB1 0 (by decide))))))))⟩,λds h=>aI ds h⟩
abbrev kC:Stmt:=top 48
def fN:aH ["order","left","rows","undone","turn","papers","number","found"] ["order","left","rows"] (ar kC):=⟨rfl,rfl,rfl,by decide +kernel,rfl,by decide +kernel,by decide +kernel⟩
def vn {T:Addr}{f:Addr}{fd:FuncData}{i9 fH fT fQ:List D->FR}{k:Nat}(hk:7<=k)(F:gx K mg "cases_on" kC ["order","left","rows"] f fd)(B:hX mg){c:Addr}(hcode:fd.code=.ref c)(LT:Bm mg base c T)(Bb:iL T P w K mg base ca "case_of" ["order","left","rows","number","turn"] (k + 1) i9)(l6:bM P w K mg base ca "is_turned" ["masks","turn"] 3 fH)(lM:bM P w K mg base ca "row_along" ["masks","late"] 3 fT)(l8:bM P w K mg base ca "free_rows" ["rows","turn"] 4 fQ):iL T P w K mg base ca "cases_on" ["order","left","rows"] (k + 1 + 1) (aR 8 3 (fu i9 fH fT fQ)):=
 ⟨⟨f,fd,F.mg,F.F.kp,F.b,jb (N:=["order","left","rows","undone","turn","papers","number","found"]) (k:=(k + 1)) F.F fN λcdv A outer s H G E hcd hT hr=>
  (ak (um (i:=3) (NB:=["turn","rows"]) (own:=1) (ixs:=[2]) [] rfl (bK (by kernel_rfl)) (λ_ _=>rfl) (iS rfl (af 1)) (λH0 G0 par br bx C ex s3 H3 pn=>(cA (i:=0) (show (["turn","rows"]:List Str).Nodup by decide +kernel))) (λH0 G0 par br bx C ex s3 H3 pn hB1=>(fj (eM (cm rfl (a7 (wW rfl) fg rfl B.any (by decide +kernel) (bF (NB:=["masks","put","turn"]) (own:=2) (ixs:=[0]) [0] rfl (bK (by kernel_rfl)) (λi hi=>hB1 i (by revert i hi;decide)) (iS rfl (af 1)) (λH0 G0 par br bx C ex s3 H3 pn=>(fB (i:=0) (j:=1) (show (["masks","put","turn"]:List Str).Nodup by decide +kernel))) (λH0 G0 par br bx C ex s3 H3 pn hB2=>cH) (λH0 G0 par br bx C ex s3 H3 pn hB2=>(az l6 (hr.mono (by omega)) jo rfl rfl (ae (aj 0 (hB2 0 (by decide))) (ae (aj 2 (hB2 2 (by decide))) ah)))))))))) (λH0 G0 par br bx C ex s3 H3 pn hB1=>(aj 0 (hB1 0 (by decide)))) fN.nd)
  (ak (c7 (bQ (dg hr.units) gz (a7 cc iA rfl B.len PM (af 3)) aw (bw _))
  (ax (aX (cK (ae mh (ae (SE.wv (bF (NB:=["masks","put"]) (own:=2) (ixs:=[]) [] rfl (bK (by kernel_rfl)) (λ_ _=>rfl) (iS rfl (af 2)) (λH0 G0 par br bx C ex s3 H3 pn=>(fB (i:=0) (j:=1) (show (["masks","put"]:List Str).Nodup by decide +kernel))) (λH0 G0 par br bx C ex s3 H3 pn hB3=>cH) (λH0 G0 par br bx C ex s3 H3 pn hB3=>(az lM (hr.mono (by omega)) jo rfl rfl (ae (aj 0 (hB3 0 (by decide))) (ae (SE.wv (bX ah)) ah)))))) ah)))))
  cn)
  (ak (aY (i:=4) (AF (NB:=["one","rows"]) (ir:=2) rfl rfl rfl B.min (aj 3 rfl) (JU (NB:=["one","rows"]) (own:=1) (ixs:=[2]) (bK (by kernel_rfl)) rfl (hcd.symm.trans hcode) LT.hd LT.bt LT.ne) (λ_ _ _ _ _ _ I=>hT.mono (I.old.trans I.sub)) (bK (by kernel_rfl)) (by decide) rfl rfl hr.depth rfl rfl (λ_ _ _ _ _ _=>rfl) (λH0 G0 qn q c1 s1 H1 pn=>(az l8 ((hr.mono (by omega)).in1.deeper _) Lj rfl rfl (ae (aj 1 rfl) (ae (aj 0 rfl) ah))))) fN.nd)
  (ak (dU (i:=5) (bX ah) fN.nd)
  (ak (dD PassesOwn.leaving rfl (lA rfl B.range (a7 cc iA rfl B.len PM (af 2))) (cA (i:=6) fN.nd)
  (ak (aY (i:=7) (ij hT Bb (hr.mono (by omega)) aS rfl rfl (ae (aj 0 rfl) (ae (aj 3 rfl) (ae (aj 2 rfl) (ae (aj 6 rfl) (ae (aj 4 rfl) ah)))))) fN.nd)
  (ak (c7 (bQ (dg hr.units) gz (aO aJ bu (af 7) aw (λ_ _=>rfl)) mh (bw _))
  (ax (kJ 7))
  cn)
  (ax (gC 5 (λ_=>rfl) (aj 7 rfl))))))
  (ax (aX (cK (ae mh (ae (aj 4 rfl) (ae (jm cL mE rfl B.tuple (by decide +kernel) (af 5)) ah)))))))))))⟩,λds h=>aI ds h⟩
abbrev p7:Stmt:=top 47
def wa:aH ["order","count","bare"] ["order","count"] (ar p7):=⟨rfl,rfl,rfl,by decide +kernel,rfl,by decide +kernel,by decide +kernel⟩
def Bs {T:Addr}{f:Addr}{fd:FuncData}{aV cj de:List D->FR}(F:gx K mg "cases" p7 ["order","count"] f fd)(B:hX mg)(bZ:bM P w K mg base ca "masks_ahead" ["order"] 2 aV)(jf:iL T P w K mg base ca "cases_on" ["order","left","rows"] 87 cj)(j3:bM P w K mg base ca "sharp_turns" ["order"] 7 de):iL T P w K mg base ca "cases" ["order","count"] 88 (aR 3 2 (pP aV cj de)):=
 ⟨⟨f,fd,F.mg,F.F.kp,F.b,jb (N:=["order","count","bare"]) (k:=87) F.F wa λcdv A outer s H G E hcd hT hr=>
  (ak (aY (i:=2) (cK (ae (az bZ (hr.mono (by decide)) aS rfl rfl (ae (aj 0 rfl) ah)) (ae (cK ah) ah))) wa.nd)
  (ax (aX (ij hT jf (hr.mono (by decide)) aS rfl rfl (ae (aj 0 rfl) (ae (az j3 (hr.mono (by decide)) aS rfl rfl (ae (aj 0 rfl) ah)) (ae (SE.wv (uG (bX (ae (aj 2 rfl) ah)) (af 1))) ah)))))))⟩,λds h=>aI ds h⟩
abbrev gX:Stmt:=top 46
def dF:aH ["order","count","found"] ["order"] (ar gX):=⟨rfl,rfl,rfl,by decide +kernel,rfl,by decide +kernel,by decide +kernel⟩
def pJ {T:Addr}{f:Addr}{fd:FuncData}{aB kU:List D->FR}(F:gx K mg "fewest_rows" gX ["order"] f fd)(B:hX mg)(aZ:bM P w K mg base ca "need_order" ["thing"] 5 aB)(p0:iL T P w K mg base ca "cases" ["order","count"] 88 kU):iL T P w K mg base ca "fewest_rows" ["order"] 89 (aR 3 1 (eZ aB kU)):=
 ⟨⟨f,fd,F.mg,F.F.kp,F.b,jb (N:=["order","count","found"]) (k:=88) F.F dF λcdv A outer s H G E hcd hT hr=>
  (ak (kN (az aZ (hr.mono (by decide)) aS rfl rfl (ae (aj 0 rfl) ah)))
  (ak (aY (i:=1) aw dF.nd)
  (ak (aY (i:=2) (ij hT p0 (hr.mono (by decide)) aS rfl rfl (ae (aj 0 rfl) (ae (aj 1 rfl) ah))) dF.nd)
  (ak (lY 1000 PassesOwn.leaving (bQ (jS hr.units) gz (aO aJ bu (af 2) aw (λ_ _=>rfl)) mh (bw _))
  (ak (aY (i:=1) (bL j5 jX (af 1) aw) dF.nd)
  (ax (aY (i:=2) (ij hT p0 (hr.mono (by decide)) aS rfl rfl (ae (aj 0 rfl) (ae (aj 1 rfl) ah))) dF.nd))))
  (ax (aX (aO aJ bu (af 2) aw (λ_ _=>rfl))))))))⟩,λds h=>aI ds h⟩
abbrev nR:Stmt:=top 45
def BY:aH ["order"] ["order"] (ar nR):=⟨rfl,rfl,rfl,by decide +kernel,rfl,by decide +kernel,by decide +kernel⟩
def yL {T:Addr}{f:Addr}{fd:FuncData}{c9:List D->FR}(F:gx K mg "fewest" nR ["order"] f fd)(B:hX mg)(jZ:iL T P w K mg base ca "fewest_rows" ["order"] 89 c9):iL T P w K mg base ca "fewest" ["order"] 90 (aR 1 1 (oi c9)):=
 ⟨⟨f,fd,F.mg,F.F.kp,F.b,jb (N:=["order"]) (k:=89) F.F BY λcdv A outer s H G E hcd hT hr=>
  (ax (aX (a7 cc iA rfl B.len PM (ij hT jZ (hr.mono (by decide)) aS rfl rfl (ae (aj 0 rfl) ah)))))⟩,λds h=>aI ds h⟩
abbrev dh:Stmt:=top 53
def nu:aH ["order"] ["order"] (ar dh):=⟨rfl,rfl,rfl,by decide +kernel,rfl,by decide +kernel,by decide +kernel⟩
def mS {f:Addr}{fd:FuncData}{aB:List D->FR}(F:gx K mg "need_few_things" dh ["order"] f fd)(B:hX mg)(aZ:bM P w K mg base ca "need_order" ["thing"] 5 aB)(kb:Exc K mg ca "TooMany"){Ld:Tok}(D7:mg "FEW"=some (.int 4 Ld)):bM P w K mg base ca "need_few_things" ["order"] 6 (aR 1 1 (du aB)):=
 ⟨⟨f,fd,F.mg,F.F.kp,F.b,aQ (N:=["order"]) (k:=5) F.F nu λcdv A outer s H G E hr=>
  (ak (kN (az aZ (hr.mono (by decide)) aS rfl rfl (ae (aj 0 rfl) ah)))
  (ax (c7 (bQ LR Ng (aO aJ bu (af 0) aw (λ_ _=>rfl)) (zA (by rfl) D7) (bw _))
  (ax (qj kb.ex kb.ca rfl kb.mg (ae mh ah)))
  cn)))⟩,λds h=>aI ds h⟩
abbrev jO:Stmt:=top 54
def uL:aH ["order"] ["order"] (ar jO):=⟨rfl,rfl,rfl,by decide +kernel,rfl,by decide +kernel,by decide +kernel⟩
def r0 {f:Addr}{fd:FuncData}{fW i6:List D->FR}(F:gx K mg "every_row" jO ["order"] f fd)(B:hX mg)(lQ:bM P w K mg base ca "rows_many" ["order"] 6 fW)(o6:bM P w K mg base ca "nth_row" ["order","number"] 6 i6):bM P w K mg base ca "every_row" ["order"] 7 (aR 1 1 (jE fW i6)):=
 ⟨⟨f,fd,F.mg,F.F.kp,F.b,aQ (N:=["order"]) (k:=6) F.F uL λcdv A outer s H G E hr=>
  (ax (iM (bF (NB:=["number","order"]) (own:=1) (ixs:=[0]) [0] rfl (bK (by kernel_rfl)) (λ_ _=>rfl) (lA rfl B.range (az lQ (hr.mono (by decide)) aS rfl rfl (ae (aj 0 rfl) ah))) (λH0 G0 par br bx C ex s3 H3 pn=>(cA (i:=0) (show (["number","order"]:List Str).Nodup by decide +kernel))) (λH0 G0 par br bx C ex s3 H3 pn hB1=>cH) (λH0 G0 par br bx C ex s3 H3 pn hB1=>(az o6 (hr.mono (by decide)) jo rfl rfl (ae (aj 1 (hB1 1 (by decide))) (ae (aj 0 (hB1 0 (by decide))) ah)))))))⟩,λds h=>aI ds h⟩
abbrev iP:Stmt:=top 56
def jY:aH ["order","every","chosen","few","row","found"] ["order","every","chosen","few"] (ar iP):=⟨rfl,rfl,rfl,by decide +kernel,rfl,by decide +kernel,by decide +kernel⟩
def q8 {f:Addr}{fd:FuncData}{bH oD:List D->FR}{k:Nat}(hk:6<=k)(F:gx K mg "first_from" iP ["order","every","chosen","few"] f fd)(B:hX mg)(gr:bM P w K mg base ca "first_from" ["order","every","chosen","few"] k bH)(yD:bM P w K mg base ca "tell" ["thing","order"] 6 oD):bM P w K mg base ca "first_from" ["order","every","chosen","few"] (k + 1) (aR 6 4 (dP bH oD)):=
 ⟨⟨f,fd,F.mg,F.F.kp,F.b,aQ (N:=["order","every","chosen","few","row","found"]) (k:=k) F.F jY λcdv A outer s H G E hr=>
  (ak (c7 (bQ (dg hr.units) gz (a7 cc iA rfl B.len PM (af 2)) (af 3) (bw _))
  (ax (aX (Hq (cm rfl (az yD (hr.mono (by omega)) aS rfl rfl (ae (aj 2 rfl) (ae (aj 0 rfl) ah)))) (aj 2 rfl) yy (λ_ _=>rfl))))
  cn)
  (ak (dD PassesOwn.leaving rfl (Bd rfl (aj 1 rfl)) (cA (i:=4) jY.nd)
  (ak (aY (i:=5) (az gr (hr.mono (by omega)) aS rfl rfl (ae (aj 0 rfl) (ae (aj 1 rfl) (ae (SE.wv (bL mq sV (af 2) (bX (ae (aj 4 rfl) ah)))) (ae (aj 3 rfl) ah))))) jY.nd)
  (ax (c7 (FP (af 5))
  (ax (kJ 5))
  cn))))
  (ax (aX yy))))⟩,λds h=>aI ds h⟩
abbrev iI:Stmt:=top 55
def sC:aH ["order"] ["order"] (ar iI):=⟨rfl,rfl,rfl,by decide +kernel,rfl,by decide +kernel,by decide +kernel⟩
def qk {T:Addr}{f:Addr}{fd:FuncData}{cf bH fF kx:List D->FR}(F:gx K mg "first_list" iI ["order"] f fd)(B:hX mg)(gf:bM P w K mg base ca "need_few_things" ["order"] 6 cf)(gr:bM P w K mg base ca "first_from" ["order","every","chosen","few"] 46 bH)(l7:bM P w K mg base ca "every_row" ["order"] 7 fF)(qg:iL T P w K mg base ca "fewest" ["order"] 90 kx):iL T P w K mg base ca "first_list" ["order"] 91 (aR 1 1 (iY cf bH fF kx)):=
 ⟨⟨f,fd,F.mg,F.F.kp,F.b,jb (N:=["order"]) (k:=90) F.F sC λcdv A outer s H G E hcd hT hr=>
  (ak (kN (az gf (hr.mono (by decide)) aS rfl rfl (ae (aj 0 rfl) ah)))
  (ax (aX (az gr (hr.mono (by decide)) aS rfl rfl (ae (aj 0 rfl) (ae (az l7 (hr.mono (by decide)) aS rfl rfl (ae (aj 0 rfl) ah)) (ae (SE.wv (bX ah)) (ae (ij hT qg (hr.mono (by decide)) aS rfl rfl (ae (aj 0 rfl) ah)) ah))))))))⟩,λds h=>aI ds h⟩
abbrev k6:Stmt:=top 58
def cX:aH ["script","k","here","number","j","part"] ["script","k"] (ar k6):=⟨rfl,rfl,rfl,by decide +kernel,rfl,by decide +kernel,by decide +kernel⟩
def vB {f:Addr}{fd:FuncData}(F:gx K mg "_law_box" k6 ["script","k"] f fd)(B:hX mg):bM P w K mg base ca "_law_box" ["script","k"] 1 (aR 6 2 (iN)):=
 ⟨⟨f,fd,F.mg,F.F.kp,F.b,aQ (N:=["script","k","here","number","j","part"]) (k:=0) F.F cX λcdv A outer s H G E hr=>
  (ak (aY (i:=2) (bL j5 jX (bL l5 nh aw (af 1)) aw) cX.nd)
  (ak (c7 (bQ tX Bl (af 1) (a7 cc iA rfl B.len PM (af 0)) (bw _))
  (ax (aY (i:=2) (aO aJ bu (af 0) (af 1) (λ_ _=>rfl)) cX.nd))
  cn)
  (ak (c7 (bQ (dg hr.units) gz (bL nC ug (af 2) aw) aw (bw _))
  (ax (iM (bX (ae (bL uY LL (af 2) aw) ah))))
  cn)
  (ak (aY (i:=3) aw cX.nd)
  (ak (dD PassesOwn.leaving rfl (lA rfl B.range aw) (cA (i:=4) cX.nd)
  (ak (aY (i:=5) (bL nC ug (bL j5 jX (bL j5 jX (bL l5 nh (bL nC ug (af 2) aw) aw) (bL l5 nh aw (af 4))) aw) aw) cX.nd)
  (ak (aY (i:=5) (bL nC ug (bL l5 nh (af 5) (af 5)) aw) cX.nd)
  (ax (aY (i:=3) (bL j5 jX (bL l5 nh (af 3) aw) (bL nC ug (bL l5 nh (af 5) (bL j5 jX (af 5) aw)) aw)) cX.nd)))))
  (ax (iM (bX (ae (aj 3 rfl) ah)))))))))⟩,λds h=>aI ds h⟩
abbrev jv:Stmt:=top 59
def oh:aH ["box","many","left","digit"] ["box","many"] (ar jv):=⟨rfl,rfl,rfl,by decide +kernel,rfl,by decide +kernel,by decide +kernel⟩
def r6 {f:Addr}{fd:FuncData}(F:gx K mg "_law_take" jv ["box","many"] f fd)(B:hX mg):vZ P w K mg base "_law_take" ["box","many"] 1 ku:=by
 refine⟨⟨f,fd,F.mg,F.F.kp,F.b,?_⟩,λds β h=>?_⟩
 ·refine F.F.zC oh (λvs H Q E h=>?_) (λcdv A outer s H vs Q E hr h=>?_)
  ·obtain⟨b,rest,G,ds,β,rfl,hb,gb,sG,hl,r,_⟩:=h
   rw[Pf,r.len,hl];rfl
  ·obtain⟨b,rest,G,ds,β,rfl,hb,gb,sG,hl,r,h⟩:=h
   obtain⟨m,rfl,h0,h1⟩:=zK (λz=>by rw[z] at h;exact h)
   rw[uR h0 h1] at h
   have kk:∀v G' H',iJ (some b) H H'->H' b=some (.lst [.int (β / m)])->av G G'->av G' H'->(∀c,Mx H c->G c=none->G' c=none)->FV K H G' H' false (.int (β % m)) v->Q v H':=h
   cases r with
   |cons r1 r2=>
    cases r1
    cases r2
    refine⟨_,jd (rg (lK xO rfl B.divmod (by decide +kernel) (a8 (m6 iW (pv 0) yB (λ_ _=>rfl)) (a8 (pv 1) bV))) (GY (i:=2) (j:=3) oh.nd rfl rfl rfl rfl rfl))
     (jd (rg (pv 2) (uM (pv 0) yB set_list)) (jt (oP (pv 3)))),?_⟩
    refine⟨_,rfl,b,_,0,.int β,rfl,rfl,.inl (.inl hb),rfl,_,rfl,β,m,rfl,⟨h0,h1⟩,λp hp=>⟨p,_,rfl,.inl (.inl aE),rfl,_,_,rfl,_,_,rfl,rfl,?_⟩⟩
    have hbp:b≠p:=aM hb hp
    exact⟨_,rfl,_,rfl,b,[.int β],0,0,rfl,rfl,by rw[aA hbp];exact hb,rfl,_,rfl,Cr hb sG hp kk gb⟩
 ·obtain⟨m,rfl,_⟩:=zK h
  rfl
abbrev e8:Stmt:=top 60
def gM:aH ["box","some","left","found"] ["box","some"] (ar e8):=⟨rfl,rfl,rfl,by decide +kernel,rfl,by decide +kernel,by decide +kernel⟩
def n6 {f:Addr}{fd:FuncData}{b8:List D->Int->FB}(F:gx K mg "_law_shuffled" e8 ["box","some"] f fd)(B:hX mg)(fR:vZ P w K mg base "_law_take" ["box","many"] 1 b8):vZ P w K mg base "_law_shuffled" ["box","some"] 2 (BX 4 1 (fq b8)):=
 ⟨⟨f,fd,F.mg,F.F.kp,F.b,DJ (ca:=λ_=>0) (N:=["box","some","left","found"]) (k:=1) F.F gM (by decide) λcdv A outer s H G b E hr=>
  (ak (dU (i:=2) (jm vW Ic rfl B.list (by decide +kernel) (af 1)) gM.nd)
  (ak (dU (i:=3) (bX ah) gM.nd)
  (ak (lY 1000 PassesOwn.leaving (bQ (jS hr.units) gz (af 2) (bX ah) (bw _))
  (ax (AR 3 2 (λ_=>rfl) (Co 0 fR (hr.mono (by decide)) aS rfl rfl (ae (a7 cc iA rfl B.len PM (af 2)) ah)))))
  (ax (aX (jm cL mE rfl B.tuple (by decide +kernel) (af 3)))))))⟩,λds β h=>Cc ds β h⟩
abbrev jP:Stmt:=top 61
def iU:aH ["many","rows","found","a","b"] ["many","rows"] (ar jP):=⟨rfl,rfl,rfl,by decide +kernel,rfl,by decide +kernel,by decide +kernel⟩
def sJ {f:Addr}{fd:FuncData}(F:gx K mg "_law_told" jP ["many","rows"] f fd)(B:hX mg):bM P w K mg base ca "_law_told" ["many","rows"] 1 (aR 5 2 (jJ)):=
 ⟨⟨f,fd,F.mg,F.F.kp,F.b,aQ (N:=["many","rows","found","a","b"]) (k:=0) F.F iU λcdv A outer s H G E hr=>
  (ak (dU (i:=2) (bX ah) iU.nd)
  (ak (dD PassesOwn.leaving rfl (lA rfl B.range (af 0)) (cA (i:=3) iU.nd)
  (ax (dD PassesOwn.leaving rfl (lA rfl B.range (af 0)) (cA (i:=4) iU.nd)
  (ax (c7 (v3.t (zg (bQ (jS hr.units) gz (af 3) (af 4) (bw _)) (u3 (cm rfl (a7 (eS rfl) fg rfl B.all (by decide +kernel) (bF (NB:=["row","a","b"]) (own:=1) (ixs:=[3,4]) [] rfl (bK (by kernel_rfl)) (λ_ _=>rfl) (iS rfl (af 1)) (λH0 G0 par br bx C ex s3 H3 pn=>(cA (i:=0) (show (["row","a","b"]:List Str).Nodup by decide +kernel))) (λH0 G0 par br bx C ex s3 H3 pn hB1=>cH) (λH0 G0 par br bx C ex s3 H3 pn hB1=>(eG tX Bl (wq rfl (af 0) (af 1)) (wq rfl (af 0) (af 2)) (bw _))))))) (λ_ _=>rfl)))
  (ax (gC 2 (λ_=>rfl) (cK (ae (aj 3 rfl) (ae (aj 4 rfl) ah)))))
  cn)))))
  (ax (aX (jm cL mE rfl B.tuple (by decide +kernel) (af 2))))))⟩,λds h=>aI ds h⟩
abbrev fm:Stmt:=top 62
def bW:aH ["order","found","turn","more","row","thing"] ["order"] (ar fm):=⟨rfl,rfl,rfl,by decide +kernel,rfl,by decide +kernel,by decide +kernel⟩
def ou {f:Addr}{fd:FuncData}(F:gx K mg "_law_rows_all" fm ["order"] f fd)(B:hX mg):bM P w K mg base ca "_law_rows_all" ["order"] 1 (aR 6 1 (c8)):=
 ⟨⟨f,fd,F.mg,F.F.kp,F.b,aQ (N:=["order","found","turn","more","row","thing"]) (k:=0) F.F bW λcdv A outer s H G E hr=>
  (ak (aY (i:=1) (SE.wv (bX (ae (cK ah) ah))) bW.nd)
  (ak (dD PassesOwn.leaving rfl (lA rfl B.range (aO aJ bu (af 0) aw (λ_ _=>rfl))) (cA (i:=2) bW.nd)
  (ak (dU (i:=3) (bX ah) bW.nd)
  (ak (dD PassesOwn.leaving rfl (Bd rfl (aj 1 rfl)) (cA (i:=4) bW.nd)
  (ax (dD PassesOwn.leaving rfl (lA rfl B.range (aO aJ bu (af 0) aw (λ_ _=>rfl))) (cA (i:=5) bW.nd)
  (ax (c7 (v3.t (zg (bQ (kl hr.u1) sf (af 5) (af 4) (by with_unfolding_all rfl)) (u3 (cm rfl (a7 (eS rfl) fg rfl B.all (by decide +kernel) (bF (NB:=["a","b","thing","row"]) (own:=2) (ixs:=[5,4]) [] rfl (bK (by kernel_rfl)) (λ_ _=>rfl) (iS rfl (aO aJ bu (af 0) aw (λ_ _=>rfl))) (λH0 G0 par br bx C ex s3 H3 pn=>(fB (i:=0) (j:=1) (show (["a","b","thing","row"]:List Str).Nodup by decide +kernel))) (λH0 G0 par br bx C ex s3 H3 pn hB1=>(fj (bQ (dg hr.units) gz (af 1) (af 2) (bw _)))) (λH0 G0 par br bx C ex s3 H3 pn hB1=>(eG (ra hr.u1) sf (af 0) (af 3) (by with_unfolding_all rfl))))))) (λ_ _=>rfl)))
  (ax (gC 3 (λ_=>rfl) (bL wt Ci (af 4) (cK (ae (aj 5 rfl) ah)))))
  cn)))))
  (ax (aY (i:=1) (aj 3 rfl) bW.nd)))))
  (ax (kJ 1))))⟩,λds h=>aI ds h⟩
abbrev iR:Stmt:=top 63
def eR:aH ["order","rows","row","one","other"] ["order"] (ar iR):=⟨rfl,rfl,rfl,by decide +kernel,rfl,by decide +kernel,by decide +kernel⟩
def rl {f:Addr}{fd:FuncData}{cF bR:List D->FR}(F:gx K mg "_law_first" iR ["order"] f fd)(B:hX mg)(iC:bM P w K mg base ca "_law_rows_all" ["order"] 1 cF)(dG:bM P w K mg base ca "_law_told" ["many","rows"] 1 bR):bM P w K mg base ca "_law_first" ["order"] 2 (aR 5 1 (iV cF bR)):=
 ⟨⟨f,fd,F.mg,F.F.kp,F.b,aQ (N:=["order","rows","row","one","other"]) (k:=1) F.F eR λcdv A outer s H G E hr=>
  (ak (aY (i:=1) (az iC (hr.mono (by decide)) aS rfl rfl (ae (aj 0 rfl) ah)) eR.nd)
  (ak (dD PassesOwn.leaving rfl (Bd rfl (aj 1 rfl)) (cA (i:=2) eR.nd)
  (ax (c7 (bQ (dg hr.units) gz (az dG (hr.mono (by decide)) aS rfl rfl (ae (aO aJ bu (af 0) aw (λ_ _=>rfl)) (ae (SE.wv (bX (ae (aj 2 rfl) ah))) ah))) (aO aJ bu (af 0) aw (λ_ _=>rfl)) (bw _))
  (ax (iM (bX (ae (aj 2 rfl) ah))))
  cn)))
  (ak (dD PassesOwn.leaving rfl (Bd rfl (aj 1 rfl)) (cA (i:=3) eR.nd)
  (ax (dD PassesOwn.leaving rfl (Bd rfl (aj 1 rfl)) (cA (i:=4) eR.nd)
  (ax (c7 (bQ (dg hr.units) gz (az dG (hr.mono (by decide)) aS rfl rfl (ae (aO aJ bu (af 0) aw (λ_ _=>rfl)) (ae (SE.wv (bX (ae (aj 3 rfl) (ae (aj 4 rfl) ah)))) ah))) (aO aJ bu (af 0) aw (λ_ _=>rfl)) (bw _))
  (ax (iM (bX (ae (aj 3 rfl) (ae (aj 4 rfl) ah)))))
  cn)))))
  (ax (aX yy)))))⟩,λds h=>aI ds h⟩
abbrev mX:Stmt:=top 64
def nv:aH ["script","k","box","many","order","due","found"] ["script"] (ar mX):=⟨rfl,rfl,rfl,by decide +kernel,rfl,by decide +kernel,by decide +kernel⟩
def Fl {T:Addr}{f:Addr}{fd:FuncData}{gB bR dQ c5:List D->FR}{b8 cG:List D->Int->FB}(F:gx K mg "law" mX ["script"] f fd)(B:hX mg)(nt:bM P w K mg base ca "_law_box" ["script","k"] 1 gB)(dG:bM P w K mg base ca "_law_told" ["many","rows"] 1 bR)(ky:bM P w K mg base ca "_law_first" ["order"] 2 dQ)(iK:iL T P w K mg base ca "first_list" ["order"] 91 c5)(fR:vZ P w K mg base "_law_take" ["box","many"] 1 b8)(iD:vZ P w K mg base "_law_shuffled" ["box","some"] 2 cG):fA P w K mg base (l4 P w) 92 f fd ["script"] (spT T K ca 1 (aR 7 1 (zE gB bR dQ c5 b8 cG))):=
 jb (N:=["script","k","box","many","order","due","found"]) (k:=91) F.F nv λcdv A outer s H G E hcd hT hr=>
  (ak (dD PassesOwn.leaving rfl (lA rfl B.range (xx (AU rfl) Il rfl B.max (by decide +kernel) aw (xx (BE rfl) J5 rfl B.min (by decide +kernel) (a7 cc iA rfl B.len PM (af 0)) aw))) (cA (i:=1) nv.nd)
  (ak (FU (i:=2) rfl (DB nt (hr.mono (by decide)) aS rfl rfl (ae (aj 0 rfl) (ae (aj 1 rfl) ah))) nv.nd)
  (ak (aY (i:=3) (bL j5 jX aw (Co 2 fR (hr.mono (by decide)) aS rfl rfl (ae aw ah))) nv.nd)
  (ak (aY (i:=4) (cK (ae (aj 3 rfl) (ae (az dG (hr.mono (by decide)) aS rfl rfl (ae (aj 3 rfl) (ae (SE.wv (bF (NB:=["turn","box","many"]) (own:=1) (ixs:=[2,3]) [] rfl (bK (by kernel_rfl)) (λ_ _=>rfl) (lA rfl B.range aw) (λH0 G0 par br bx C ex s3 H3 pn=>(cA (i:=0) (show (["turn","box","many"]:List Str).Nodup by decide +kernel))) (λH0 G0 par br bx C ex s3 H3 pn hB1=>cH) (λH0 G0 par br bx C ex s3 H3 pn hB1=>(Co 1 iD (hr.mono (by decide)) jo rfl rfl (ae (SE.wv (yU rfl rfl B.list rfl B.range (af 2))) ah))))) ah))) ah))) nv.nd)
  (ak (aY (i:=5) (az ky (hr.mono (by decide)) aS rfl rfl (ae (aj 4 rfl) ah)) nv.nd)
  (ak (dU (i:=6) (Be hT iK (hr.mono (by decide)) aS rfl rfl (ae (aj 4 rfl) ah)) nv.nd)
  (ak (c7 (v3.t (pe (eM (cm rfl (kW "list" (by decide) rfl rfl B.isinstance rfl B.list (by decide +kernel) (af 6)))) (pe (bQ (jS hr.units) gz (af 6) (af 5) (bw _)) (ni (eM (cm rfl (a7 (eS rfl) fg rfl B.all (by decide +kernel) (bF (NB:=["row"]) (own:=1) (ixs:=[]) [] rfl (bK (by kernel_rfl)) (λ_ _=>rfl) (iS rfl (af 6)) (λH0 G0 par br bx C ex s3 H3 pn=>(cA (i:=0) (show (["row"]:List Str).Nodup by decide +kernel))) (λH0 G0 par br bx C ex s3 H3 pn hB2=>cH) (λH0 G0 par br bx C ex s3 H3 pn hB2=>(kW "tuple" (by decide) rfl rfl B.isinstance rfl B.tuple (by decide +kernel) (af 0)))))))) (λ_ _=>rfl)) (λ_ _=>rfl)))
  (ax (aX lP))
  cn)
  (ak (gC 6 (λ_=>rfl) aw)
  (ax (c7 (bQ (jS hr.units) gz (ij hT iK (hr.mono (by decide)) aS rfl rfl (ae (aj 4 rfl) ah)) (af 5) (bw _))
  (ax (aX lP))
  cn))))))))))
  (ax (aX lP)))
end
end RQ
namespace RM
open PySem L2
theorem ya {t u:VF Bool}{vs:List Nv}{β:Int}{a b:Bool}(h:t vs β=.ok a β)(h':u vs β=.ok b β):BU t u vs β=.ok (a && b) β:=by
 rw[Jg,h];dsimp only[R.bnd]
 cases a with
 |true=>rw[OO rfl,h'];rfl
 |false=>rfl
theorem GH {t u:VF Bool}{vs:List Nv}{β:Int}{a b:Bool}(h:t vs β=.ok a β)(h':u vs β=.ok b β):nH t u vs β=.ok (a || b) β:=by
 rw[pQ,h];dsimp only[R.bnd]
 cases a with
 |true=>rfl
 |false=>rw[OV O8,h'];rfl
def eB {t:VF Bool}{vs:List Nv}{β:Int}{a:Bool}(h:t vs β=.ok a β):oz t vs β=.ok (!a) β:=by rw[uo,h];rfl
def y7 {fa:VF D}{vs:List Nv}{β:Int}{l:List Pr}{f:Pr->Bool}(h:fa vs β=.ok (.list (l.map λq=>PyData.bool (f q))) β):f1 fa (bo λbs=>bs.all id) vs β=.ok (.bool (l.all f)) β:=by
 refine dZ h ?_
 simp only[bo]
 rw[fJ]
 simp[QZ]
def upTo (n:Nat)(f:Pr->Bool)(i k:Nat):List Pr:=(OM.bN n).filter λp=>(decide (p.1 < i) || (decide (p.1=i) && decide (p.2 < k))) && f p
def Ce {n:Nat}(f:Pr->Bool)(i k:Nat)(h8:n<=8):(upTo n f i k).length<=64:=by
 have h1:(upTo n f i k).length<=(OM.bN n).length:=PF _ _
 rw[eV] at h1
 have:n * n<=64:=Qf h8 h8
 omega
def AE (n:Nat)(f:Pr->Bool):upTo n f 0 0= []:=by
 unfold upTo
 rw[List.filter_eq_nil_iff]
 intro p hp
 have:=OM.bD.mp hp
 rw[OY (by omega),OY (p:=p.2 < ((0:Nat):Int)) (by omega)];simp
def DS (n:Nat)(f:Pr->Bool):upTo n f n 0=(OM.bN n).filter f:=by
 unfold upTo
 refine Qz λp hp=>?_
 have:=(OM.bD.mp hp).1.2
 rw[OP this];simp
def Dg (n:Nat)(f:Pr->Bool)(i:Nat):upTo n f i n=upTo n f (i + 1) 0:=by
 unfold upTo
 refine Qz λp hp=>?_
 have h:=OM.bD.mp hp
 congr 1
 rw[Px]
 simp only[Qd,O2,O5]
 omega
def tv {n i k:Nat}(f:Pr->Bool)(hi:i < n)(hk:k < n):upTo n f i (k + 1)=upTo n f i k ++ if f ((i:Int),(k:Int))=true then [((i:Int),(k:Int))] else []:=by
 refine OM.ml (OM.gR _ (OM.jc n)) ?_ λx=>?_
 ·show List.Pairwise OM.GK _
  rw[List.pairwise_append]
  refine⟨OM.gR _ (OM.jc n),?_,λp hp q hq=>?_⟩
  ·split <;> simp
  ·unfold upTo at hp
   have h1:=(OI.mp hp).2
   simp only[Qd,O2,O5] at h1
   split at hq
   ·have:q=((i:Int),(k:Int)):=by simpa using hq
    subst this
    show p.1 < (i:Int)\/(p.1=(i:Int)/\p.2 < (k:Int))
    exact h1.1
   ·cases hq
 ·rw[O4]
  unfold upTo
  rw[OI,OI,OM.bD]
  simp only[Qd,O2,O5]
  constructor
  ·rintro⟨h1,h2,h3⟩
   by_cases z:x.1=i/\x.2=k
   ·obtain⟨xa,xb⟩:=x
    simp only at z h3
    obtain⟨rfl,rfl⟩:=z
    rw[OO h3]
    exact .inr (O3.mpr rfl)
   ·exact .inl ⟨h1,by omega,h3⟩
  ·rintro (⟨h1,h2,h3⟩ |h)
   ·exact⟨h1,by omega,h3⟩
   ·split at h
    ·rename_i hf
     have:x=((i:Int),(k:Int)):=by simpa using h
     subst this
     exact⟨⟨⟨by show (0:Int)<=(i:Int);omega,by show (i:Int) < n;omega⟩,by show (0:Int)<=(k:Int);omega,by show (k:Int) < n;omega⟩,.inr ⟨rfl,by show (k:Int) < ((k + 1:Nat):Int);omega⟩,hf⟩
    ·cases h
def tupI (r:List Int):D:=.tuple (r.map int)
def Ac {fa fb:VF D}{vs:List Nv}{β:Int}{r:List Int}{k:Int}(h:fa vs β=.ok (tupI r) β)(h':fb vs β=.ok (.int k) β)(hk:k∈r):oX fa fb vs β=.ok (.int (r.idxOf k:Nat)) β:=by
 unfold oX
 rw[h]
 dsimp only[R.bnd]
 rw[OO (by rfl),h']
 dsimp only[R.bnd,FZ,tupI]
 rw[gN]
 dsimp only
 rw[OO hk];rfl
def EU {r:List Int}{a b:Int}(ha:a∈r)(hb:b∈r)(h:r.idxOf a=r.idxOf b):a=b:=by
 have h1:=Rl (Qc.mpr ha)
 have h2:=Rl (Qc.mpr hb)
 rw[<-h1,<-h2]
 congr 1
noncomputable def DX:List D->FR:=aR 6 2 iN
def JX (ns:List Int)(k:Nat):∃z,DX [c6 ns,.int k]=.ok (.list [.int z]) true:=by
 show ∃z,fin (iN [.fz (c6 ns),.fz (.int k),.no,.no,.no,.no] 0)=.ok (.list [.int z]) true
 unfold iN
 have e0:f2 (f2 (cst (.int 7919)) (gv 1) dA) (cst (.int 13)) cJ [Nv.da (c6 ns),.da (.int k),.no,.no,.no,.no] 0=.ok (.int (7919 * k + 13)) 0:=aF (aF (x:=.int 7919) (y:=.int k) rfl rfl (p9 ⟨by omega,by omega⟩)) rfl rfl
 rw[ay (env':=[.fz (c6 ns),.fz (.int k),.fz (.int (7919 * k + 13)),.no,.no,.no]) (β':=0) ?h0]
 case h0=>
  show toS (f2 (f2 (cst (.int 7919)) (gv 1) dA) (cst (.int 13)) cJ [Nv.da (c6 ns),.da (.int k),.no,.no,.no,.no] 0) _=_
  rw[e0];rfl
 obtain⟨c,hc⟩:∃c:Int,j4 ([] ++ []) (dv (f2 (gv 1) (f1 (gv 0) cP) pY)) (bg 2 ([] ++ []) (f2 (gv 0) (gv 1) bh)) lC [.fz (c6 ns),.fz (.int k),.fz (.int (7919 * k + 13)),.no,.no,.no] 0=.nx [.fz (c6 ns),.fz (.int k),.fz (.int c),.no,.no,.no] 0:=by
  have e:dv (f2 (gv 1) (f1 (gv 0) cP) pY) (vl [.fz (c6 ns),.fz (.int k),.fz (.int (7919 * k + 13)),.no,.no,.no]) 0=.ok (decide ((k:Int) < (ns.map int).length)) 0:=Ju rfl rfl
  by_cases h:k < ns.length
  ·rw[OP (by simp;exact h)] at e
   refine⟨ns[k],?_⟩
   rw[ly e]
   show toS (f2 (gv 0) (gv 1) bh [Nv.da (c6 ns),.da (.int k),.da (.int (7919 * k + 13)),.no,.no,.no] 0) _=_
   rw[aF (x:=c6 ns) (y:=.int k) (d:=.int ns[k]) (β1:=0) (β2:=0) rfl rfl]
   ·rfl
   ·show ki (ns.map int) (k:Int)=_
    rw[iO,nr h];rfl
  ·rw[OY (by simp;omega)] at e
   exact⟨_,by rw[ji e];rfl⟩
 rw[ay hc]
 have e1:dv (f2 (f2 (gv 2) (cst (.int 2)) lE) (cst (.int 0)) (eh false)) (vl [.fz (c6 ns),.fz (.int k),.fz (.int c),.no,.no,.no]) 0=.ok (decide (c % 2=0)) 0:=gk (neg:=false) (aF rfl rfl (oV (by omega))) rfl
 by_cases h:c % 2=0
 ·rw[OP h] at e1
  refine⟨c / 2,?_⟩
  rw[hW (d:=.list [.int (c / 2)]) (b:=true) (β':=0)]
  ·rfl
  ·rw[ly e1]
   show toS (cy (aa (f2 (gv 2) (cst (.int 2)) JH) ag) [Nv.da (c6 ns),.da (.int k),.da (.int c),.no,.no,.no] 0) _=_
   rw[my (ds:=[.int (c / 2)]) (β1:=0)]
   ·rfl
   ·have e2:f2 (gv 2) (cst (.int 2)) JH [Nv.da (c6 ns),.da (.int k),.da (.int c),.no,.no,.no] 0=.ok (.int (c / 2)) 0:=aF (x:=.int c) rfl rfl (Hu (by omega) (by omega))
    rw[ie,e2];rfl
   ·simp
 ·rw[OY h] at e1
  rw[ay (env':=[.fz (c6 ns),.fz (.int k),.fz (.int c),.no,.no,.no]) (β':=0) (by rw[ji e1];rfl)]
  rw[ay (env':=[.fz (c6 ns),.fz (.int k),.fz (.int c),.fz (.int 0),.no,.no]) (β':=0) (by rfl)]
  obtain⟨env',β',el,z,x,y,rfl,rfl⟩:=gc (t:=.nm 4) (m:=aG (bg 5 ((((([] ++ []) ++ []) ++ ([] ++ [])) ++ []) ++ []) (f2 (f2 (f2 (f2 (f2 (gv 2) (cst (.int 2147483647)) lE) (cst (.int 48271)) dA) (f2 (cst (.int 7919)) (gv 4) dA) cJ) (cst (.int 1)) cJ) (cst (.int 2147483647)) lE))
    (aG (bg 5 (([] ++ []) ++ []) (f2 (f2 (gv 5) (gv 5) dA) (cst (.int 2147483629)) lE))
    (bg 3 (([] ++ []) ++ (([] ++ ([] ++ [])) ++ [])) (f2 (f2 (gv 3) (cst (.int 2147483647)) dA) (f2 (f2 (gv 5) (f2 (gv 5) (cst (.int 13)) cJ) dA) (cst (.int 2147483647)) lE) cJ)))) (ds:=fX 0 16) (k:=0)
   (λ_ env β=>∃(z:Int) (x y:Sl),env= [.fz (c6 ns),.fz (.int k),.fz (.int c),.fz (.int z),x,y]/\β=0) (env:=[.fz (c6 ns),.fz (.int k),.fz (.int c),.fz (.int 0),.no,.no]) (β:=0) ⟨0,.no,.no,rfl,rfl⟩ (by
    rintro i d env β hi ⟨z,x,y,rfl,rfl⟩
    obtain⟨_,rfl⟩:=ip hi
    generalize (0 + (i:Int))=j
    refine⟨[.fz (c6 ns),.fz (.int k),.fz (.int c),.fz (.int z),.fz (.int j),y],rfl,?_⟩
    have b1:0<=c % 2147483647/\c % 2147483647 < 2147483647:=⟨QS _ (by omega),QT _ (by omega)⟩
    have a1:f2 (f2 (f2 (f2 (f2 (gv 2) (cst (.int 2147483647)) lE) (cst (.int 48271)) dA) (f2 (cst (.int 7919)) (gv 4) dA) cJ) (cst (.int 1)) cJ) (cst (.int 2147483647)) lE (vl [.fz (c6 ns),.fz (.int k),.fz (.int c),.fz (.int z),.fz (.int j),y]) 0=.ok (.int ((c % 2147483647 * 48271 + 7919 * j + 1) % 2147483647)) 0:=
     aF (aF (aF (aF (aF (x:=.int c) rfl rfl (oV (by omega))) rfl (CD ⟨by omega,by omega⟩)) (aF (x:=.int 7919) (y:=.int j) rfl rfl (p9 ⟨by omega,by omega⟩)) rfl) rfl rfl) rfl (oV (by omega))
    generalize hp:(c % 2147483647 * 48271 + 7919 * j + 1) % 2147483647=p at a1
    have bp:0<=p/\p < 2147483647:=by rw[<-hp];exact⟨QS _ (by omega),QT _ (by omega)⟩
    rw[ay (env':=[.fz (c6 ns),.fz (.int k),.fz (.int c),.fz (.int z),.fz (.int j),.fz (.int p)]) (β':=0) ?k1]
    case k1=>rw[bB,a1];rfl
    have a2:f2 (f2 (gv 5) (gv 5) dA) (cst (.int 2147483629)) lE (vl [.fz (c6 ns),.fz (.int k),.fz (.int c),.fz (.int z),.fz (.int j),.fz (.int p)]) 0=.ok (.int (p * p % 2147483629)) 0:=
     aF (aF (x:=.int p) (y:=.int p) rfl rfl (p9 ⟨by omega,by omega⟩)) rfl (oV (by omega))
    generalize hq:p * p % 2147483629=q at a2
    have bq:0<=q/\q < 2147483629:=by rw[<-hq];exact⟨QS _ (by omega),QT _ (by omega)⟩
    rw[ay (env':=[.fz (c6 ns),.fz (.int k),.fz (.int c),.fz (.int z),.fz (.int j),.fz (.int q)]) (β':=0) ?k2]
    case k2=>rw[bB,a2];rfl
    have a3:f2 (f2 (gv 3) (cst (.int 2147483647)) dA) (f2 (f2 (gv 5) (f2 (gv 5) (cst (.int 13)) cJ) dA) (cst (.int 2147483647)) lE) cJ (vl [.fz (c6 ns),.fz (.int k),.fz (.int c),.fz (.int z),.fz (.int j),.fz (.int q)]) 0=.ok (.int (z * 2147483647 + q * (q + 13) % 2147483647)) 0:=
     aF (aF (x:=.int z) rfl rfl (CD ⟨by omega,by omega⟩)) (aF (aF (x:=.int q) (y:=.int (q + 13)) rfl rfl (p9 ⟨by omega,by omega⟩)) rfl (oV (by omega))) rfl
    refine⟨[.fz (c6 ns),.fz (.int k),.fz (.int c),.fz (.int (z * 2147483647 + q * (q + 13) % 2147483647)),.fz (.int j),.fz (.int q)],0,?_,_,_,_,rfl,rfl⟩
    rw[bB,a3];rfl)
  refine⟨z,?_⟩
  rw[ay (env':=[.fz (c6 ns),.fz (.int k),.fz (.int c),.fz (.int z),x,y]) (β':=0) ?h2]
  case h2=>exact el
  show fin (toS (cy (aa (gv 3) ag) [.da (c6 ns),.da (.int k),.da (.int c),.da (.int z),x.val,y.val] 0) _)=_
  rw[my (ds:=[.int z]) (β1:=0) rfl (by simp)]
  rfl
noncomputable def uk:List D->Int->FB:=BX 4 1 (fq ku)
def JT (ns:List Int)(hz:ns.length<=100)(β:Int):∃(ms:List Int) (β':Int),uk [.list (ns.map int)] β=.ok (tupI ms) false β'/\ms.Perm ns:=by
 show ∃(ms:List Int) (β':Int),Lf (fq ku [.bx,.fz (.list (ns.map int)),.no,.no] β)=.ok (tupI ms) false β'/\ms.Perm ns
 unfold fq
 rw[ay (env':=[.bx,.fz (.list (ns.map int)),.ow (.list (ns.map int)),.no]) (β':=β) (by rfl)]
 have ez:cy ag [Nv.bx,.da (.list (ns.map int)),.da (.list (ns.map int)),.no] β=.ok (.list []) β:=my rfl (by simp)
 rw[ay (env':=[.bx,.fz (.list (ns.map int)),.ow (.list (ns.map int)),.ow (.list [])]) (β':=β) ?h]
 case h=>
  show toS (cy ag [Nv.bx,.da (.list (ns.map int)),.da (.list (ns.map int)),.no] β) _=_
  rw[ez];rfl
 obtain⟨env',β',ew,ms,rfl,hp⟩:=gG (L:=[] ++ []) (t:=dv (f2 (gv 2) (cy ag) (eh true))) (m:=k7 3 2 ([] ++ []) (xY 0 ku (aa (f1 (gv 2) cP) ag)))
  (λk env β=>∃ls ms:List Int,env= [.bx,.fz (.list (ns.map int)),.ow (.list (ls.map int)),.ow (.list (ms.map int))]/\(ms ++ ls).Perm ns/\k=ls.length)
  (λenv β=>∃ms:List Int,env= [.bx,.fz (.list (ns.map int)),.ow (.list []),.ow (.list (ms.map int))]/\ms.Perm ns) (n:=1000) (k:=ns.length) (env:=[.bx,.fz (.list (ns.map int)),.ow (.list (ns.map int)),.ow (.list [])]) (β:=β) (by omega) ⟨ns,[],rfl,by simp,rfl⟩ (by
   rintro k env β ⟨ls,ms,rfl,hp,rfl⟩
   have e1:cy ag [Nv.bx,.da (.list (ns.map int)),.da (.list (ls.map int)),.da (.list (ms.map int))] β=.ok (.list (([]:List Int).map int)) β:=my rfl (by simp)
   have et:dv (f2 (gv 2) (cy ag) (eh true)) [Nv.bx,.da (.list (ns.map int)),.da (.list (ls.map int)),.da (.list (ms.map int))] β=.ok (!decide (ls= [])) β:=
    dJ _ _ _ _ (aF (x:=.list (ls.map int)) rfl e1 (by rw[DD];rfl))
   refine⟨_,_,et,?_⟩
   have hlen:=hp.length_eq
   rw[OX] at hlen
   cases ls with
   |nil=>exact .inl ⟨rfl,ms,rfl,by simpa using hp⟩
   |cons y ys=>
    refine .inr ⟨rfl,?_⟩
    have hm:(0:Int) < ((y :: ys).length:Nat)/\(((y :: ys).length:Nat):Int) < 1073741824:=by
     have:(y :: ys).length<=100:=by omega
     constructor
     ·simp
     ·omega
    obtain⟨j,hj⟩:∃j:Nat,β % (((y :: ys).length:Nat):Int)=j:=⟨(β % (((y :: ys).length:Nat):Int)).toNat,by have:=QS β (b:=(((y :: ys).length:Nat):Int)) (by omega);omega⟩
    have hj2:j < (y :: ys).length:=by have:=QT β hm.1;omega
    have ef:xY 0 ku (aa (f1 (gv 2) cP) ag) [Nv.bx,.da (.list (ns.map int)),.da (.list ((y :: ys).map int)),.da (.list (ms.map int))] β=.ok (.int (j:Int)) (β / (((y :: ys).length:Nat):Int)):=by
     refine zl (ds:=[.int (((y :: ys).length:Nat):Int)]) (b:=false) (by rfl) ?_ (by rw[uR hm.1 hm.2,hj])
     show R.ok [int ((((y :: ys).map int).length:Nat):Int)] β=_
     rw[OK]
    have hpop:AM ((y :: ys).map int) (.int (j:Int))=some (.int (y :: ys)[j],((y :: ys).eraseIdx j).map int):=by
     unfold AM
     dsimp only
     rw[OO ⟨by omega,by omega⟩]
     have es:seqIndex? (j:Int) ((y :: ys).map int).length=some j:=by
      rw[OK]
      exact PySem.StrLaws.seqIndex_nonneg (by omega) (by omega)
     rw[es]
     dsimp only
     rw[OW,OJ hj2,t8];rfl
    refine⟨[.bx,.fz (.list (ns.map int)),.ow (.list (((y :: ys).eraseIdx j).map int)),.ow (.list ((ms ++ [(y :: ys)[j]]).map int))],β / (((y :: ys).length:Nat):Int),((y :: ys).eraseIdx j).length,?_,?_,(y :: ys).eraseIdx j,ms ++ [(y :: ys)[j]],rfl,?_,rfl⟩
    ·show k7 3 2 ([] ++ []) (xY 0 ku (aa (f1 (gv 2) cP) ag)) [.bx,.fz (.list (ns.map int)),.ow (.list ((y :: ys).map int)),.ow (.list (ms.map int))] β=_
     rw[ze (ds:=ms.map int) (es:=(y :: ys).map int) (by rfl) (by rfl) (by decide) ef (by rfl) hpop (by rw[OK];omega),Pq]
     rfl
    ·rw[List.length_eraseIdx]
     rw[OO hj2]
     show (y :: ys).length - 1 < (y :: ys).length
     simp
    ·rw[PD]
     exact (List.Perm.append_left ms (qb (OJ hj2))).trans hp)
 refine⟨ms,β',?_,hp⟩
 rw[ay ew]
 rfl
def oA (rows:List (List Int))(p:Pr):Bool:= !decide (p.1=p.2) && rows.all λr=>decide (r.idxOf p.1 < r.idxOf p.2)
def GX {α:Type}{fa:VF D}{vs:List Nv}{β:Int}{l:List α}{f:α->Bool}(h:fa vs β=.ok (.list (l.map λq=>PyData.bool (f q))) β):f1 fa (bo λbs=>bs.all id) vs β=.ok (.bool (l.all f)) β:=by
 refine dZ h ?_
 simp only[bo]
 rw[fJ]
 simp[QZ]
def lN:List D->FR:=aR 5 2 jJ
def zy {n:Nat}{rows:List (List Int)}(h8:n<=8)(hr:rows.length<=100)(hp:∀r,r∈rows->r.Perm (dN n)):lN [.int n,.list (rows.map tupI)]=.ok (.tuple (((OM.bN n).filter (oA rows)).map aC)) false:=by
 show fin (jJ [.fz (.int n),.fz (.list (rows.map tupI)),.no,.no,.no] 0)=_
 unfold jJ
 rw[ay (env':=[.fz (.int n),.fz (.list (rows.map tupI)),.ow (.list []),.no,.no]) (β':=0) ?g1]
 case g1=>rw[ia,my (ds:=[]) rfl (by simp)];rfl
 obtain⟨env',β',ef,s,t,rfl,rfl⟩:=gc (t:=.nm 3) (m:=cW (.nm 4) [] (dM (gv 0))
   (j4 (([] ++ []) ++ ([] ++ [])) (BU (dv (f2 (gv 3) (gv 4) (eh true))) (gu (f1 (aK 1 [3,4] (.nm 0) (ba (gv 1)) iB (f2 (oX (gv 0) (gv 1)) (oX (gv 0) (gv 2)) pY)) (bo λbs=>bs.all id))))
   (lF 2 ([3] ++ ([4] ++ [])) (cC (aa (gv 3) (aa (gv 4) ag))))
   lC)) (ds:=fX 0 n) (k:=0)
  (λi env β=>∃s t:Sl,env= [.fz (.int n),.fz (.list (rows.map tupI)),.ow (.list ((upTo n (oA rows) i 0).map aC)),s,t]/\β=0)
  (env:=[.fz (.int n),.fz (.list (rows.map tupI)),.ow (.list []),.no,.no]) (β:=0) ⟨.no,.no,by rw[AE];rfl,rfl⟩ (by
   rintro i d env β hi ⟨s,t,rfl,rfl⟩
   obtain⟨hin,rfl⟩:=ip hi
   refine⟨[.fz (.int n),.fz (.list (rows.map tupI)),.ow (.list ((upTo n (oA rows) (0 + i) 0).map aC)),.fz (.int (0 + (i:Int))),t],rfl,?_⟩
   rw[P0,Qe]
   obtain⟨env',β',ef,t2,rfl,rfl⟩:=gc (t:=.nm 4) (m:=j4 (([] ++ []) ++ ([] ++ [])) (BU (dv (f2 (gv 3) (gv 4) (eh true))) (gu (f1 (aK 1 [3,4] (.nm 0) (ba (gv 1)) iB (f2 (oX (gv 0) (gv 1)) (oX (gv 0) (gv 2)) pY)) (bo λbs=>bs.all id))))
     (lF 2 ([3] ++ ([4] ++ [])) (cC (aa (gv 3) (aa (gv 4) ag))))
     lC) (ds:=fX 0 n) (k:=0)
    (λk env β=>∃t:Sl,env= [.fz (.int n),.fz (.list (rows.map tupI)),.ow (.list ((upTo n (oA rows) i k).map aC)),.fz (.int i),t]/\β=0)
    (env:=[.fz (.int n),.fz (.list (rows.map tupI)),.ow (.list ((upTo n (oA rows) i 0).map aC)),.fz (.int i),t]) (β:=0) ⟨t,rfl,rfl⟩ (by
     rintro k d env β hk ⟨t,rfl,rfl⟩
     obtain⟨hkn,rfl⟩:=ip hk
     refine⟨[.fz (.int n),.fz (.list (rows.map tupI)),.ow (.list ((upTo n (oA rows) i (0 + k)).map aC)),.fz (.int i),.fz (.int (0 + (k:Int)))],rfl,?_⟩
     rw[P0,Qe]
     have ec:aK 1 [3,4] (.nm 0) (ba (gv 1)) iB (f2 (oX (gv 0) (gv 1)) (oX (gv 0) (gv 2)) pY) (vl [.fz (.int n),.fz (.list (rows.map tupI)),.ow (.list ((upTo n (oA rows) i k).map aC)),.fz (.int i),.fz (.int k)]) 0=.ok (.list (rows.map λr=>PyData.bool (decide (r.idxOf (i:Int) < r.idxOf (k:Int))))) 0:=by
      refine bI (l:=rows) (e:=tupI) (λr=>PyData.bool (decide (r.idxOf (i:Int) < r.idxOf (k:Int)))) rfl (by omega) λr hr=>⟨_,rfl,?_⟩
      have hp:=hp r hr
      refine aF (Ac (r:=r) (k:=i) rfl rfl (hp.mem_iff.mpr (aU.mpr ⟨by omega,by omega⟩))) (Ac (r:=r) (k:=k) rfl rfl (hp.mem_iff.mpr (aU.mpr ⟨by omega,by omega⟩))) ?_
      show some (PyData.bool (decide (((r.idxOf (i:Int):Nat):Int) < ((r.idxOf (k:Int):Nat):Int))))=_
      congr 2
      rw[Px,O5,O5]
      omega
     have et:BU (dv (f2 (gv 3) (gv 4) (eh true))) (gu (f1 (aK 1 [3,4] (.nm 0) (ba (gv 1)) iB (f2 (oX (gv 0) (gv 1)) (oX (gv 0) (gv 2)) pY)) (bo λbs=>bs.all id))) (vl [.fz (.int n),.fz (.list (rows.map tupI)),.ow (.list ((upTo n (oA rows) i k).map aC)),.fz (.int i),.fz (.int k)]) 0=.ok (oA rows ((i:Int),(k:Int))) 0:=
      ya (gk (neg:=true) (i:=i) (j:=k) rfl rfl) (dI (GX ec))
     have hl:=Ce (oA rows) i k h8
     by_cases c:oA rows ((i:Int),(k:Int))=true
     ·rw[c] at et
      refine⟨[.fz (.int n),.fz (.list (rows.map tupI)),.ow (.list ((upTo n (oA rows) i (k + 1)).map aC)),.fz (.int i),.fz (.int k)],0,?_,_,rfl,rfl⟩
      rw[ly et,tv (oA rows) hin hkn,OO c,Pq]
      exact nZ (i:=2) (L:=[3] ++ ([4] ++ [])) (env:=[.fz (.int n),.fz (.list (rows.map tupI)),.ow (.list ((upTo n (oA rows) i k).map aC)),.fz (.int i),.fz (.int k)]) (ds:=(upTo n (oA rows) i k).map aC) (by rfl) (eQ rfl rfl) (by rfl) (by rw[OK];omega)
     ·rw[Bool.not_eq_true] at c
      rw[c] at et
      refine⟨[.fz (.int n),.fz (.list (rows.map tupI)),.ow (.list ((upTo n (oA rows) i (k + 1)).map aC)),.fz (.int i),.fz (.int k)],0,?_,_,rfl,rfl⟩
      rw[ji et,tv (oA rows) hin hkn,c]
      simp)
   rw[dO,P0,Dg] at ef
   refine⟨[.fz (.int n),.fz (.list (rows.map tupI)),.ow (.list ((upTo n (oA rows) (i + 1) 0).map aC)),.fz (.int i),t2],0,?_,_,_,rfl,rfl⟩
   rw[cB (env:=[.fz (.int n),.fz (.list (rows.map tupI)),.ow (.list ((upTo n (oA rows) i 0).map aC)),.fz (.int i),t]) (dE (n:=n) (β1:=0) rfl (by omega))]
   exact ef)
 rw[dO,P0,DS] at ef
 rw[ay (env':=[.fz (.int n),.fz (.list (rows.map tupI)),.ow (.list (((OM.bN n).filter (oA rows)).map aC)),s,t]) (β':=0) ?g2]
 case g2=>
  rw[cB (env:=[.fz (.int n),.fz (.list (rows.map tupI)),.ow (.list []),.no,.no]) (dE (n:=n) (β1:=0) rfl (by omega))]
  exact ef
 rfl
def ot {rows:List (List Int)}{p:Pr}:oA rows p=true↔p.1≠p.2/\∀r,r∈rows->r.idxOf p.1 < r.idxOf p.2:=by
 unfold oA
 rw[O2,Qi,P7,O9]
 simp only[O5]
def AH {n:Nat}{rows:List (List Int)}(h1:1<=n)(h8:n<=8)(hne:rows≠ []):OM.Ord n ((OM.bN n).filter (oA rows)):=by
 refine⟨h1,h8,λp hm=>OM.bD.mp (OI.mp hm).1,OM.gR _ (OM.jc n),λa h=>?_,λa b c hab hbc=>?_⟩
 ·exact (ot.mp (OI.mp h).2).1 rfl
 ·obtain⟨g1,t1⟩:=OI.mp hab
  obtain⟨g2,t2⟩:=OI.mp hbc
  have g1:=OM.bD.mp g1
  have g2:=OM.bD.mp g2
  obtain⟨n1,q1⟩:=ot.mp t1
  obtain⟨n2,q2⟩:=ot.mp t2
  refine OI.mpr ⟨OM.bD.mpr ⟨g1.1,g2.2⟩,ot.mpr ⟨λe=>?_,λr hr=>Rj (q1 r hr) (q2 r hr)⟩⟩
  simp only at e q1 q2
  subst e
  cases rows with
  |nil=>exact hne rfl
  |cons r rest=>
   have hr:r∈r :: rest:=OU ..
   exact absurd (Rj (q1 r hr) (q2 r hr)) (Pw _)
theorem qD {α:Type}{t:Tg}{fe:VF D}{vs:List Nv}(e:α->D)(P:α->Prop):∀{ds:List D} {β:Int},(∀d,d∈ds->∃vs1,nY t d vs=some vs1/\∀β,∃a β',fe vs1 β=.ok (e a) β'/\P a)->
  ∃(as:List α) (β':Int),iz t iB fe vs ds β=.ok (as.map e) β'/\as.length=ds.length/\∀a,a∈as->P a
 | [],β,_=>⟨[],β,rfl,rfl,λa h=>(by cases h)⟩
 |d :: ds,β,h=>by
  obtain⟨vs1,hb,hf⟩:=h d (OU ..)
  obtain⟨a,β1,ef,pa⟩:=hf β
  obtain⟨as,β2,ec,hl,hP⟩:=qD e P (ds:=ds) (β:=β1) λd' hd=>h d' (OS _ hd)
  refine⟨a :: as,β2,?_,by rw[Pf,Pf,hl],λx hx=>?_⟩
  ·unfold iz
   rw[hb]
   dsimp only[iB,R.okb]
   rw[OO rfl,ef]
   dsimp only
   rw[ec];rfl
  ·rcases OR.mp hx with z |z
   ·rw[z];exact pa
   ·exact hP x z
def Gy:D->Bool
 | .tuple _=>true
 |_=>false
theorem Fm {d:D}(h:Gy d=true):∃ds,d=.tuple ds:=by
 cases d with
 |tuple ds=>exact⟨ds,rfl⟩
 |_=>cases h
def DF {d:D}(h:dY d=false):ib "tuple" d=some (.bool (Gy d)):=by
 unfold ib;rw[h];cases d <;> rfl
section
variable {fa fb:VF D}{vs:List Nv}{β:Int}
def LN {d:D}(ha:fa vs β=.ok d β)(h:dY d=false):gu (f1 fa (ib "tuple")) vs β=.ok (Gy d) β:=dI (dZ ha (DF h))
def zG {l:List D}{f:D->Bool}(h:fa vs β=.ok (.list (l.map λq=>PyData.bool (f q))) β):f1 fa (bo λbs=>bs.all id) vs β=.ok (.bool (l.all f)) β:=by
 refine dZ h ?_
 simp only[bo]
 rw[fJ]
 simp[QZ]
def LJ {ds:List D}(ha:fa vs β=.ok (.tuple ds) β):f1 fa cP vs β=.ok (.int ds.length) β:=dZ ha rfl
def HN {t u:VF Bool}(h:t vs β=.ok true β):nH t u vs β=.ok true β:=by rw[pQ,h];rfl
def tY {t u:VF Bool}{c:Bool}(h:t vs β=.ok false β)(h':u vs β=.ok c β):nH t u vs β=.ok c β:=by rw[pQ,h];exact h'
def HE (h:fa vs β=.ok (.bool false) β):gy fa fb vs β=.ok (.bool false) β:=by unfold gy;rw[h];rfl
def HV {d:D}(h:fa vs β=.ok (.bool true) β)(h':fb vs β=.ok d β):gy fa fb vs β=.ok d β:=by unfold gy;rw[h];exact h'
def MO (h:fa vs β=.ok (.bool true) β):Kh fa fb vs β=.ok (.bool true) β:=by unfold Kh;rw[h];rfl
def MK {d:D}(h:fa vs β=.ok (.bool false) β)(h':fb vs β=.ok d β):Kh fa fb vs β=.ok d β:=by unfold Kh;rw[h];exact h'
end
def Sq (c k:Nat)(d:D):Prop:=d.showable=true/\d.depth<=k/\d.shown.length<=c
def Sq.mono {c k c' k':Nat}{d:D}(h:Sq c k d)(h1:c<=c')(h2:k<=k'):Sq c' k' d:=⟨h.1,Pz h.2.1 h2,Pz h.2.2 h1⟩
theorem CW {c k:Nat}:∀{ds:List D},(∀d,d∈ds->Sq c k d)->PyData.showableAll ds=true/\PyData.depthAll ds<=k/\(∀t,t∈PyData.shownAll ds->t.length<=c)/\(PyData.shownAll ds).length=ds.length
 | [],_=>⟨by simp[PyData.showableAll],by simp[PyData.depthAll],λt h=>by simp[PyData.shownAll] at h,by simp[PyData.shownAll]⟩
 |d :: ds,h=>by
  obtain⟨h1,h2,h3,h4⟩:=CW λx hx=>h x (OS _ hx)
  obtain⟨q1,q2,q3⟩:=h d (OU ..)
  refine⟨?_,?_,λt ht=>?_,?_⟩
  ·rw[PyData.showableAll,q1,h1];rfl
  ·rw[PyData.depthAll];omega
  ·rw[PyData.shownAll] at ht
   rcases OR.mp ht with rfl |ht
   ·exact q3
   ·exact h3 t ht
  ·rw[PyData.shownAll,Pf,Pf,h4]
theorem v9 {c:Nat}:∀{ts:List Str},(∀t,t∈ts->t.length<=c)->(Str.join ", " ts).length<=(c + 2) * ts.length
 | [],_=>by show (Str.join ", " []).length<=_;exact PX _
 | [x],h=>by
  have:=h x (OU ..)
  show x.length<=(c + 2) * 1
  omega
 |x :: y :: r,h=>by
  have ih:=v9 (ts:=y :: r) λt ht=>h t (OS _ ht)
  have:=h x (OU ..)
  show (x ++ ", " ++ Str.join ", " (y :: r)).length<=_
  rw[strLen_append,strLen_append]
  have e2:((", ":String):Str).length=2:=rfl
  rw[e2]
  have e:(c + 2) * (x :: y :: r).length=(c + 2) * (y :: r).length + (c + 2):=by rw[Pf,Nat.mul_succ]
  omega
def Eo {c k:Nat}{ds:List D}(h:∀d,d∈ds->Sq c k d):Sq (3 + (c + 2) * ds.length) (k + 1) (.tuple ds):=by
 obtain⟨h1,h2,h3,h4⟩:=CW h
 refine⟨by rw[PyData.showable];exact h1,by rw[PyData.depth];omega,?_⟩
 rw[PyData.shown]
 unfold tupleText
 rw[strLen_append,strLen_append]
 have j:=v9 h3
 rw[h4] at j
 have e1:((("(":String):Str)).length=1:=rfl
 have e3:((if (PyData.shownAll ds).length == 1 then ",)" else ")":String):Str).length<=2:=by split <;> exact by decide
 rw[e1]
 omega
def Bf (d:D):Prop:=Ki d=true
theorem D1:∀{ds:List D},(∀d,d∈ds->Bf d)->C8 ds=true
 | [],_=>rfl
 |d :: ds,h=>by
  have h1:=D1 λx hx=>h x (OS _ hx)
  have q1:Ki d=true:=h d (OU ..)
  rw[C8,q1,h1];rfl
def Cm {ds:List D}(h:∀d,d∈ds->Bf d):Bf (.tuple ds):=by show Ki (.tuple ds)=true;rw[Ki];exact D1 h
def N0:List Int:=[-1,0,1,2,3,4,5,6,7,8,9]
def B8:∀i∈N0,(int i).showable=true/\(int i).shown.length<=20:=by decide +kernel
def Ag {i:Int}(h: -1<=i/\i<=9):i∈N0:=by
 simp only[N0,OR,PB,Qv]
 omega
def EC (d:D):Prop:=d=.none\/(∃b,d=.bool b)\/∃i:Int,d=.int i/\ -1<=i/\i<=9
def EC.sq {d:D}(h:EC d):Sq 20 0 d:=by
 rcases h with rfl | ⟨b,rfl⟩ | ⟨i,rfl,h⟩
 ·exact⟨by simp[PyData.showable],by simp[PyData.depth],by rw[PyData.shown];decide⟩
 ·exact⟨by simp[PyData.showable],by simp[PyData.depth],by rw[PyData.shown];cases b <;> decide⟩
 ·exact⟨(B8 i (Ag h)).1,by simp[PyData.depth],(B8 i (Ag h)).2⟩
def EC.bf {d:D}(h:EC d):Bf d:=by
 rcases h with rfl | ⟨b,rfl⟩ | ⟨i,rfl,h⟩ <;> exact by simp[Bf,Ki]
def EC.scr {d:D}(h:EC d):dY d=false:=by
 rcases h with rfl | ⟨b,rfl⟩ | ⟨i,rfl,h⟩ <;> rfl
section
variable {vs:List Nv}{β β1 β2:Int}{fa:VF D}{fr:VF (List D)}{d:D}{ds:List D}
def ac {fa:VF D}{fr:VF (List D)}(h:fa vs β=.ok d β)(h':fr vs β=.ok ds β):aa fa fr vs β=.ok (d :: ds) β:=by rw[ie,h];dsimp only[R.bnd];rw[h']
def an:ag vs β=.ok [] β:=rfl
def tp (h:fr vs β=.ok ds β)(hz:ds.length<=1000:=by simp):cC fr vs β=.ok (.tuple ds) β:=jF h hz
def lp (h:fr vs β=.ok ds β)(hz:ds.length<=1000:=by simp):cy fr vs β=.ok (.list ds) β:=my h hz
def ck (d:D):cst d vs β=.ok d β:=rfl
end
def zZ {i:Int}(h: -1<=i/\i<=9):EC (.int i):=.inr (.inr ⟨i,rfl,h⟩)
def D3 {d:D}(h:dY d=false):ib "list" d=some (.bool (match d with | .list _=>true |_=>false)):=by
 unfold ib;rw[h];cases d <;> rfl
def Iv:D->Bool
 | .list _=>true
 |_=>false
theorem FI {d:D}(h:Iv d=true):∃ds,d=.list ds:=by
 cases d with
 |list ds=>exact⟨ds,rfl⟩
 |_=>cases h
def HL {fa:VF D}{vs:List Nv}{β:Int}{d:D}(ha:fa vs β=.ok d β)(h:dY d=false):f1 fa (ib "list") vs β=.ok (.bool (Iv d)) β:=dZ ha (by rw[D3 h];cases d <;> rfl)
def jV {fa:VF D}{vs:List Nv}{β:Int}{ds:List D}(ha:fa vs β=.ok (.list ds) β):f1 fa cP vs β=.ok (.int ds.length) β:=dZ ha rfl
def Ge (e:D):Prop:=dY e=false/\∀es,e=.tuple es->es.length<=100/\∀x,x∈es->dY x=false
def Sp (p:Pr):Prop:=(0<=p.1/\p.1<=8)/\(0<=p.2/\p.2<=8)
def C3 {es:List D}(hl:es.length<=100)(h:∀x,x∈es->dY x=false):Ge (.tuple es):=⟨rfl,λes' e=>by cases e;exact⟨hl,h⟩⟩
def Fc {fa fb:VF D}{vs:List Nv}{β:Int}{ds:List D}{i:Nat}(ha:fa vs β=.ok (.list ds) β)(hb:fb vs β=.ok (.int ((i:Nat):Int)) β):ES fa (E2 fb) (λ_ β=>.ok none β) vs β=.ok (.list (ds.drop i)) β:=by
 unfold ES E2
 rw[ha];dsimp only[R.bnd]
 rw[hb];dsimp only[R.bnd]
 congr 2
 unfold cutD
 rw[HT.wF,HT.zF]
 by_cases h:i<=ds.length
 ·rw[Nat.min_eq_left h];exact QU (by rw[length_drop];omega)
 ·rw[Nat.min_eq_right (by omega),drop_length,List.drop_of_length_le (by omega)];simp
def CJ {fa fb:VF D}{vs:List Nv}{β:Int}{ds:List D}{i:Nat}(ha:fa vs β=.ok (.list ds) β)(hb:fb vs β=.ok (.int ((i:Nat):Int)) β):ES fa (λ_ β=>.ok none β) (E2 fb) vs β=.ok (.list (ds.take i)) β:=by
 unfold ES E2
 rw[ha];dsimp only[R.bnd]
 rw[hb];dsimp only[R.bnd]
 congr 2
 unfold cutD
 rw[HT.wF,HT.zF]
 by_cases h:i<=ds.length
 ·rw[Nat.min_eq_left h];rfl
 ·rw[Nat.min_eq_right (by omega),QU (show ds.length<=i by omega)];simp
end RM
namespace RM
open PySem PySem.Spec L2 PyProof.Rows
theorem qu:∀(ns acc:List Int),acc.Nodup->(ns.foldl step_dedup acc).length<=acc.length + ns.length/\((ns.foldl step_dedup acc).length=acc.length + ns.length↔(ns.Nodup/\∀x,x∈ns->x∉acc))
 | [],acc,_=>by simp
 |n :: ns,acc,hn=>by
  rw[foldl_cons]
  by_cases h:n∈acc
  ·have e:step_dedup acc n=acc:=by unfold step_dedup;rw[OO (by simpa using h)]
   rw[e]
   obtain⟨h1,h2⟩:=qu ns acc hn
   refine⟨by rw[Pf];omega,⟨λz=>?_,λz=>absurd h (z.2 n (OU ..))⟩⟩
   rw[Pf] at z;omega
  ·have e:step_dedup acc n=acc ++ [n]:=by unfold step_dedup;rw[OV (by simpa using h)]
   have hn':(acc ++ [n]).Nodup:=by
    rw[QX]
    refine⟨hn,PR.mpr ⟨by simp,Q3⟩,λa ha b hb=>?_⟩
    rw[O3] at hb
    subst hb
    exact λq=>h (q▸ha)
   rw[e]
   obtain⟨h1,h2⟩:=qu ns (acc ++ [n]) hn'
   rw[OX,Pe] at h1 h2
   refine⟨by rw[Pf];omega,?_⟩
   rw[Pf,show acc.length + (ns.length + 1)=acc.length + 1 + ns.length by omega,h2,PR]
   constructor
   ·rintro⟨z1,z2⟩
    refine⟨⟨λq=>z2 n q (by simp),z1⟩,λx hx=>?_⟩
    rcases OR.mp hx with rfl |hx
    ·exact h
    ·exact λq=>z2 x hx (Qn _ q)
   ·rintro⟨⟨z1,z2⟩,z3⟩
    refine⟨z2,λx hx q=>?_⟩
    rcases O4.mp q with q |q
    ·exact z3 x (OS _ hx) q
    ·rw[O3] at q;subst q;exact z1 hx
def wA (ns:List Int):rW ns=ns.length↔ns.Nodup:=by
 have e:firstMet (λi=>ns.getD i 0) ns.length=ns.foldl step_dedup []:=by
  unfold firstMet
  congr 1
  refine QD (by simp) λi h1 h2=>?_
  simp[Pa,h2]
 unfold rW
 rw[e]
 have:=(qu ns [] Q3).2
 simpa using this
theorem pz:∀{l m:List Int},l.Nodup->(∀x,x∈l->x∈m)->m.length<=l.length->l.Perm m
 | [],m,_,_,h=>by
  have:m= []:=QO.mp (by simpa using h)
  rw[this]
 |x :: l,m,nd,hs,h=>by
  obtain⟨h1,h2⟩:=PR.mp nd
  have hx:x∈m:=hs x (OU ..)
  have pm:m.Perm (x :: m.erase x):=List.perm_cons_erase hx
  refine (List.Perm.cons x (pz (m:=m.erase x) h2 (λy hy=>?_) ?_)).trans pm.symm
  ·have hy':=pm.mem_iff.mp (hs y (OS _ hy))
   rcases OR.mp hy' with rfl |q
   ·exact absurd hy h1
   ·exact q
  ·have:=pm.length_eq
   rw[Pf] at this h
   omega
def qm {n:Nat}{r:List Int}(hl:r.length=n)(hb:∀x,x∈r->0<=x/\x < n)(nd:r.Nodup):r.Perm (dN n):=pz nd (λx hx=>aU.mpr (hb x hx)) (by rw[cp];omega)
noncomputable def p8 (n:Nat)(d:D):Bool:=@decide (∃r:List Int,d=tupI r/\r.Perm (dN n)) (Classical.propDecidable _)
def Jz {n:Nat}{d:D}(h:p8 n d=true):∃r:List Int,d=tupI r/\r.Perm (dN n):=@Po _ (Classical.propDecidable _) h
def xC {n:Nat}{r:List Int}(h:r.Perm (dN n)):p8 n (tupI r)=true:=@OP _ (Classical.propDecidable _) ⟨r,rfl,h⟩
def vR {n:Nat}{d:D}(h:∀r:List Int,d=tupI r->¬r.Perm (dN n)):p8 n d=false:=@OY _ (Classical.propDecidable _) λ⟨r,e,p⟩=>h r e p
def oy {r q:List Int}(h:tupI r=tupI q):r=q:=by
 unfold tupI at h
 have h:=PyData.tuple.inj h
 exact List.map_inj_right (λa b e=>int.inj e) |>.mp h
theorem BB {d:D}{n:Int}(h:jW d n=true):∃i:Int,d=.int i/\0<=i/\i < n:=by
 cases d with
 |int i=>exact⟨i,rfl,Po h⟩
 |_=>cases h
theorem tP {n:Int}:∀{ds:List D},(ds.all λe=>jW e n)=true->∃r:List Int,ds=r.map int/\∀x,x∈r->0<=x/\x < n
 | [],_=>⟨[],rfl,λx hx=>by cases hx⟩
 |d :: ds,h=>by
  rw[all_cons,O2] at h
  obtain⟨i,rfl,hi⟩:=BB h.1
  obtain⟨r,rfl,hr⟩:=tP h.2
  refine⟨i :: r,rfl,λx hx=>?_⟩
  rcases OR.mp hx with rfl |hx
  ·exact hi
  ·exact hr x hx
def BQ {n:Nat}{r:List Int}(h:∀x,x∈r->0<=x/\x < (n:Int)):((r.map int).all λe=>jW e n)=true:=by
 rw[QZ,O9]
 intro x hx
 exact OP (h x hx)
theorem gN:∀r:List Int,jj (r.map int)=some r
 | []=>rfl
 |x :: r=>by
  have:=gN r
  simp only[PH,jj,this]
  try rfl
def zH:List D->FR:=aR 2 2 (mF fC)
theorem J1 {n:Nat}{d:D}(h8:n<=100)(h:Ge d):zH [d,.int n]=.ok (.bool (p8 n d)) false:=by
 show fin (mF fC [.fz d,.fz (.int n)] 0)=_
 unfold mF
 have g0:gv 0 (vl [.fz d,.fz (.int n)]) 0=.ok d 0:=rfl
 have t1:=LN g0 h.1
 cases hy:Gy d with
 |false=>
  rw[hy] at t1
  rw[hW (d:=.bool false) (b:=false) (β':=0) (by rw[ly (HN (eB t1))];rfl),vR]
  ·rfl
  ·intro r e;subst e;cases hy
 |true=>
  obtain⟨es,rfl⟩:=Fm hy
  rw[hy] at t1
  have t2:dv (f2 (f1 (gv 0) cP) (gv 1) (eh true)) (vl [.fz (.tuple es),.fz (.int n)]) 0=.ok (!decide ((es.length:Int)=n)) 0:=gk (neg:=true) (LJ g0) rfl
  by_cases hl:es.length=n
  ·rw[OP (show (es.length:Int)=n by omega)] at t2
   rw[ay (env':=[.fz (.tuple es),.fz (.int n)]) (β':=0) (by rw[ji (tY (eB t1) t2)];rfl)]
   have hs:=(h.2 _ rfl).2
   have ec:aK 1 [1] (.nm 0) (ba (gv 0)) iB (ai fC (aa (gv 0) (aa (gv 1) ag))) (vl [.fz (.tuple es),.fz (.int n)]) 0=.ok (.list (es.map λe=>PyData.bool (jW e n))) 0:=
    tW (λe=>PyData.bool (jW e n)) rfl (by omega) λe he=>⟨_,rfl,aq (ds:=[e,.int n]) rfl (vQ (hs e he))⟩
   have ea:=zG ec
   rw[dw]
   cases hb:(es.all λe=>jW e n) with
   |false=>
    rw[hb] at ea
    rw[HE ea,vR]
    ·rfl
    ·intro r e pm
     have e:=PyData.tuple.inj e
     subst e
     rw[BQ λx hx=>aU.mp (pm.mem_iff.mp hx)] at hb
     cases hb
   |true=>
    rw[hb] at ea
    obtain⟨r,rfl,hr⟩:=tP hb
    have hrl:r.length=n:=by rw[OK] at hl;exact hl
    have es:f1 (gv 0) p5 (vl [.fz (.tuple (r.map int)),.fz (.int n)]) 0=.ok (.int (rW r)) 0:=by
     refine dZ g0 ?_
     show (match jj (r.map int) with |some ns=>if ns.length<=1000 then some (int (rW ns)) else none |none=>none)=_
     rw[gN]
     exact OO (by omega)
    rw[HV ea (aF es rfl (mC false (rW r) n))]
    show FR.ok (.bool (decide ((rW r:Int)=(n:Int)))) false=_
    by_cases nd:r.Nodup
    ·have:=(wA r).mpr nd
     rw[OP (by omega),show p8 n (.tuple (r.map int))=true from xC (qm hrl hr nd)]
    ·have:rW r≠r.length:=λq=>nd ((wA r).mp q)
     rw[OY (by omega),vR]
     intro q e pm
     have e:=oy (r:=r) e
     subst e
     exact nd (pm.nodup_iff.mpr (fE n))
  ·rw[OY (show ¬(es.length:Int)=n by omega)] at t2
   rw[hW (d:=.bool false) (b:=false) (β':=0) (by rw[ly (tY (eB t1) t2)];rfl),vR]
   ·rfl
   ·intro r e pm
    have e:=PyData.tuple.inj e
    subst e
    have:=pm.length_eq
    rw[cp] at this
    rw[OK] at hl
    exact hl this
end RM
namespace RM
open PySem L2
def rK (r:List Int):List Int:=(List.range r.length).map λ(a:Nat)=>((r.idxOf (a:Int):Nat):Int)
def h9 (r:List Int)(k:Nat):List Int:=(List.range r.length).map λ(a:Nat)=>if r.idxOf (a:Int) < k then ((r.idxOf (a:Int):Nat):Int) else 0
def BP {n:Nat}{r:List Int}(h:r.Perm (dN n)):h9 r r.length=rK r:=by
 unfold h9 rK
 refine P5 λa ha=>?_
 have hl:=h.length_eq
 rw[cp] at hl
 have:=PL.mp ha
 rw[OO (Qc.mpr (h.mem_iff.mpr (aU.mpr ⟨by omega,by omega⟩)))]
def yv (r:List Int):h9 r 0=List.replicate r.length 0:=by
 unfold h9
 refine QD (by simp) λi h1 h2=>by simp
def yh {n:Nat}{r:List Int}(h:r.Perm (dN n)){k:Nat}{x:Int}(hk:r[k]? =some x):(h9 r k).set x.toNat (k:Int)=h9 r (k + 1):=by
 have hl:=h.length_eq
 rw[cp] at hl
 have hx:=aU.mp (h.mem_iff.mp (Pb hk))
 have nd:r.Nodup:=h.nodup_iff.mpr (fE n)
 obtain⟨hkl,hke⟩:=OQ.mp hk
 have hix:r.idxOf x=k:=by rw[<-hke];exact nd.idxOf_getElem k hkl
 unfold h9
 refine QD (by simp) λi h1 h2=>?_
 have hi:i < r.length:=by simpa using h2
 rw[List.getElem_set]
 simp only[List.getElem_map,List.getElem_range]
 by_cases e:x.toNat=i
 ·rw[OO e]
  have ex:(i:Int)=x:=by omega
  rw[ex,hix,OO (by omega)]
 ·rw[OV e]
  have:r.idxOf (i:Int)≠k:=λq=>by
   have hm:(i:Int)∈r:=h.mem_iff.mpr (aU.mpr ⟨by omega,by omega⟩)
   have h3:=Rl (Qc.mpr hm)
   simp only[q] at h3
   rw[hke] at h3
   omega
  by_cases z:r.idxOf (i:Int) < k
  ·rw[OO z,OO (by omega)]
  ·rw[OV z,OV (by omega)]
def C6 {n:Nat}{r:List Int}(h:r.Perm (dN n)){a:Int}(ha:0<=a/\a < n):ki (rK r) a=some ((r.idxOf a:Nat):Int):=by
 have hl:=h.length_eq
 rw[cp] at hl
 have e:(a.toNat:Int)=a:=by omega
 have:=jz (xs:=rK r) (j:=a.toNat) (v:=((r.idxOf a:Nat):Int)) (by
  unfold rK
  rw[OW,Qj (by omega)]
  simp only[Option.map_some,e])
 rw[e] at this
 exact this
def IZ:List D->FR:=aR 4 1 oj
def Lo {n:Nat}{r:List Int}{d:D}(h1:cP d=some (.int ((r.map int).length:Nat)))(h2:lH d=some (r.map int))(h100:n<=100)(h:r.Perm (dN n)):IZ [d]=.ok (.list ((rK r).map int)) true:=by
 have hl:=h.length_eq
 rw[cp] at hl
 show fin (oj [.fz (d),.no,.no,.no] 0)=_
 unfold oj
 rw[ay (env':=[.fz (d),.ow (.list ((h9 r 0).map int)),.no,.no]) (β':=0) ?a]
 case a=>
  have e:f2 (cy (aa (cst (.int 0)) ag)) (f1 (gv 0) cP) mU (vl [.fz (d),.no,.no,.no]) 0=.ok (.list ((h9 r 0).map int)) 0:=by
   refine aF (lp (ac (ck _) an)) (dZ (x:=d) rfl h1) ?_
   rw[OK,yv,List.map_replicate]
   simp only[mU]
   rw[OO ?q]
   ·congr 2
    rw[Pu]
    induction r.length with
    |zero=>rfl
    |succ m ih=>first |rw[Py,Py,Qh,ih];rfl | (simp[Py] at ih ⊢;try exact ih)
   case q=>first | (constructor <;> first |omega | (show _<=_;simp;try omega)) | (rw[PJ];simp;omega)
  rw[ia,e];rfl
 have ee:JK (gv 0) (vl [.fz (d),.ow (.list ((h9 r 0).map int)),.no,.no]) 0=.ok (dz (r.map int)) 0:=by
  show (match lH d with |some ds=>R.ok (dz ds) 0 |none=>.bad)=_
  rw[h2]
 obtain⟨env',β',ef,s,t,rfl,rfl⟩:=gc (t:=.two 2 3) (m:=n5 1 [2] [] (gv 2) (gv 3)) (ds:=dz (r.map int)) (k:=0)
  (λk env β=>∃s t:Sl,env= [.fz (d),.ow (.list ((h9 r k).map int)),s,t]/\β=0)
  (env:=[.fz (d),.ow (.list ((h9 r 0).map int)),.no,.no]) (β:=0) ⟨.no,.no,rfl,rfl⟩ (by
   rintro k d env β hk ⟨s,t,rfl,rfl⟩
   unfold dz at hk
   rw[Q6,OW] at hk
   cases hx:r[k]? with
   |none=>rw[hx] at hk;cases hk
   |some x=>
    rw[hx] at hk
    cases hk
    have hxm:=aU.mp (h.mem_iff.mp (Pb hx))
    refine⟨[.fz (d),.ow (.list ((h9 r (0 + k)).map int)),.fz (.int k),.fz (.int x)],rfl,?_⟩
    rw[P0]
    refine⟨[.fz (d),.ow (.list ((h9 r (k + 1)).map int)),.fz (.int k),.fz (.int x)],0,?_,_,_,rfl,rfl⟩
    rw[qI (ds:=(h9 r k).map int) (d:=.int k) (k:=x) (n:=x.toNat) (β1:=0) (β2:=0) rfl (by rfl) rfl (by rfl) ?b]
    ·rw[<-yh h hx,List.map_set];rfl
    case b=>
     unfold tD
     rw[OO hxm.1,OO (by rw[OK];unfold h9;simp;omega)])
 have hle:(dz (r.map int)).length=r.length:=by unfold dz;simp
 rw[P0,hle,BP h] at ef
 rw[ay (env':=[.fz (d),.ow (.list ((rK r).map int)),s,t]) (β':=0) (by
  rw[cB (env:=[.fz (d),.ow (.list ((h9 r 0).map int)),.no,.no]) ee]
  exact ef)]
 rfl
def Lm {n:Nat}{r:List Int}(h100:n<=100)(h:r.Perm (dN n)):IZ [tupI r]=.ok (.list ((rK r).map int)) true:=Lo rfl rfl h100 h
def sx (l:List Pr)(r:List Int):Bool:=l.all λp=>decide (r.idxOf p.1 < r.idxOf p.2)
def Row (n:Nat)(l:List Pr)(r:List Int):Prop:=r.Perm (dN n)/\sx l r=true
noncomputable def se (n:Nat)(l:List Pr)(d:D):Bool:=@decide (∃r:List Int,d=tupI r/\Row n l r) (Classical.propDecidable _)
def LX {n:Nat}{l:List Pr}{d:D}(h:se n l d=true):∃r:List Int,d=tupI r/\Row n l r:=@Po _ (Classical.propDecidable _) h
def vD {n:Nat}{l:List Pr}{r:List Int}(h:Row n l r):se n l (tupI r)=true:=@OP _ (Classical.propDecidable _) ⟨r,rfl,h⟩
def Hk {n:Nat}{l:List Pr}{d:D}(h:∀r:List Int,d=tupI r->¬Row n l r):se n l d=false:=@OY _ (Classical.propDecidable _) λ⟨r,e,p⟩=>h r e p
noncomputable def Jb:List D->FR:=aR 3 2 (gY zH IZ)
def Cb {n:Nat}{r:List Int}(h:r.Perm (dN n)){a b:Int}(ha:0<=a/\a < n)(hb:0<=b/\b < n){fp fa fb:VF D}{vs:List Nv}{β:Int}(hp:fp vs β=.ok (.list ((rK r).map int)) β)(h1:fa vs β=.ok (.int a) β)(h2:fb vs β=.ok (.int b) β) :
  f2 (f2 fp fa bh) (f2 fp fb bh) pY vs β=.ok (.bool (decide (r.idxOf a < r.idxOf b))) β:=by
 refine aF (aF hp h1 (show ki ((rK r).map int) a=_ by rw[iO,C6 h ha];rfl)) (aF hp h2 (show ki ((rK r).map int) b=_ by rw[iO,C6 h hb];rfl)) ?_
 show some (PyData.bool (decide (((r.idxOf a:Nat):Int) < ((r.idxOf b:Nat):Int))))=_
 congr 2
 rw[Px,O5,O5]
 omega
theorem Km {n:Nat}{l:List Pr}{d:D}(O:OM.Ord n l)(h:Ge d):Jb [d,ao n l]=.ok (.bool (se n l d)) false:=by
 have h8:=O.hi
 show fin (gY zH IZ [.fz d,.fz (ao n l),.no] 0)=_
 unfold gY
 have t:gu (ai zH (aa (gv 0) (aa (f2 (gv 1) (cst (.int 0)) bh) ag))) (vl [.fz d,.fz (ao n l),.no]) 0=.ok (p8 n d) 0:=dI (aq (ds:=[d,.int n]) (ac rfl (ac (Ha (n:=n) (l:=l) rfl) an)) (J1 (by omega) h))
 cases q:p8 n d with
 |false=>
  rw[q] at t
  rw[hW (d:=.bool false) (b:=false) (β':=0) (by rw[ly (eB t)];rfl),Hk]
  ·rfl
  ·rintro r rfl hr
   rw[xC hr.1] at q;cases q
 |true=>
  rw[q] at t
  obtain⟨r,rfl,pm⟩:=Jz q
  rw[ay (env':=[.fz (tupI r),.fz (ao n l),.no]) (β':=0) (by rw[ji (eB t)];rfl)]
  rw[ay (env':=[.fz (tupI r),.fz (ao n l),.fz (.list ((rK r).map int))]) (β':=0) (by rw[bB,aq (ds:=[tupI r]) (β1:=0) rfl (Lm (by omega) pm)];rfl)]
  have ec:aK 2 [2] (.two 0 1) (ba (f2 (gv 1) (cst (.int 1)) bh)) iB (f2 (f2 (gv 2) (gv 0) bh) (f2 (gv 2) (gv 1) bh) pY) (vl [.fz (tupI r),.fz (ao n l),.fz (.list ((rK r).map int))]) 0=.ok (.list (l.map λp=>PyData.bool (decide (r.idxOf p.1 < r.idxOf p.2)))) 0:=by
   refine bI (l:=l) (e:=aC) (λp=>PyData.bool (decide (r.idxOf p.1 < r.idxOf p.2))) rfl (by have:=n8 O;omega) λp hp=>⟨_,rfl,?_⟩
   have hw:=O.wn p hp
   exact Cb pm hw.1 hw.2 rfl rfl rfl
  rw[dw,y7 (f:=λp=>decide (r.idxOf p.1 < r.idxOf p.2)) ec]
  show FR.ok (.bool (sx l r)) false=_
  cases qf:sx l r with
  |true=>rw[vD ⟨pm,qf⟩]
  |false=>
   rw[Hk]
   rintro r' e hr
   have e:=oy e
   subst e
   rw[hr.2] at qf;cases qf
def Gt (d:D):Prop:=dY d=false/\∀ds,d=.list ds->ds.length<=100/\∀e,e∈ds->Ge e
noncomputable def xr (n:Nat)(l:List Pr)(d:D):Bool:=@decide (∃rs:List (List Int),d=.list (rs.map tupI)/\rs≠ []/\∀r,r∈rs->Row n l r) (Classical.propDecidable _)
def Ip {n:Nat}{l:List Pr}{d:D}(h:xr n l d=true):∃rs:List (List Int),d=.list (rs.map tupI)/\rs≠ []/\∀r,r∈rs->Row n l r:=@Po _ (Classical.propDecidable _) h
def sY {n:Nat}{l:List Pr}{rs:List (List Int)}(h1:rs≠ [])(h:∀r,r∈rs->Row n l r):xr n l (.list (rs.map tupI))=true:=@OP _ (Classical.propDecidable _) ⟨rs,rfl,h1,h⟩
def yM {n:Nat}{l:List Pr}{d:D}(h:∀rs:List (List Int),d=.list (rs.map tupI)->rs≠ []->∃r,r∈rs/\¬Row n l r):xr n l d=false:=@OY _ (Classical.propDecidable _) λ⟨r,e,h1,h2⟩=>by
 obtain⟨x,hx,hn⟩:=h r e h1
 exact hn (h2 x hx)
theorem all_rows {n:Nat}{l:List Pr}:∀{ds:List D},ds.all (se n l)=true->∃rs:List (List Int),ds=rs.map tupI/\∀r,r∈rs->Row n l r
 | [],_=>⟨[],rfl,λr hr=>by cases hr⟩
 |d :: ds,h=>by
  rw[all_cons,O2] at h
  obtain⟨r,rfl,hr⟩:=LX h.1
  obtain⟨rs,rfl,hrs⟩:=all_rows h.2
  refine⟨r :: rs,rfl,λx hx=>?_⟩
  rcases OR.mp hx with rfl |hx
  ·exact hr
  ·exact hrs x hx
noncomputable def MS:List D->FR:=aR 2 2 (kZ Jb)
theorem NS {n:Nat}{l:List Pr}{d:D}(O:OM.Ord n l)(h:Gt d):MS [d,ao n l]=.ok (.bool (xr n l d)) false:=by
 show fin (kZ Jb [.fz d,.fz (ao n l)] 0)=_
 unfold kZ
 have e1:=HL (fa:=gv 0) (vs:=vl [.fz d,.fz (ao n l)]) (β:=0) rfl h.1
 cases q:Iv d with
 |false=>
  rw[q] at e1
  rw[hW (d:=.bool false) (b:=false) (β':=0) (by rw[ly (HN (eB (dI e1)))];rfl),yM]
  ·rfl
  ·rintro rs rfl;cases q
 |true=>
  rw[q] at e1
  obtain⟨ds,rfl⟩:=FI q
  have hd:=h.2 ds rfl
  have t2:dv (f2 (f1 (gv 0) cP) (cst (.int 0)) (eh false)) (vl [.fz (.list ds),.fz (ao n l)]) 0=.ok (decide ((ds.length:Int)=0)) 0:=gk (neg:=false) (jV rfl) rfl
  cases ds with
  |nil=>
   rw[hW (d:=.bool false) (b:=false) (β':=0) (by rw[ly (tY (eB (dI e1)) t2)];rfl),yM]
   ·rfl
   ·intro rs e hne
    have e:=PyData.list.inj e
    cases rs with
    |nil=>exact absurd rfl hne
    |cons=>cases e
  |cons x ds=>
   rw[OY (by simp;omega)] at t2
   rw[ay (env':=[.fz (.list (x :: ds)),.fz (ao n l)]) (β':=0) (by rw[ji (tY (eB (dI e1)) t2)];rfl)]
   have ec:aK 1 [1] (.nm 0) (ba (gv 0)) iB (ai Jb (aa (gv 0) (aa (gv 1) ag))) (vl [.fz (.list (x :: ds)),.fz (ao n l)]) 0=.ok (.list ((x :: ds).map λe=>PyData.bool (se n l e))) 0:=
    tW (λe=>PyData.bool (se n l e)) rfl (by omega) λe he=>⟨_,rfl,aq (ds:=[e,ao n l]) rfl (Km O (hd.2 e he))⟩
   rw[dw,zG (f:=se n l) ec]
   cases qa:(x :: ds).all (se n l) with
   |true=>
    obtain⟨rs,e,hrs⟩:=all_rows qa
    rw[e,sY (by rintro rfl;cases e) hrs];rfl
   |false=>
    rw[yM]
    ·rfl
    ·intro rs e hne
     have e:=PyData.list.inj e
     rw[e,QZ,List.all_eq_false] at qa
     obtain⟨r,hr,hx⟩:=qa
     exact⟨r,hr,λz=>hx (vD z)⟩
def pL (rs:List (List Int))(p:Pr):Bool:=rs.all λr=>decide (r.idxOf p.1 < r.idxOf p.2)
def MF:List D->FR:=aR 3 3 fY
def vF {α:Type}{fa:VF D}{vs:List Nv}{β:Int}{l:List α}{f:α->Bool}(h:fa vs β=.ok (.list (l.map λq=>PyData.bool (f q))) β):f1 fa (bo λbs=>bs.all id) vs β=.ok (.bool (l.all f)) β:=by
 refine dZ h ?_
 simp only[bo]
 rw[fJ]
 simp[QZ,Function.comp_def]
def NY {n:Nat}{rs:List (List Int)}(hz:rs.length<=1000)(hp:∀r,r∈rs->r.Perm (dN n)){a b:Int}(ha:0<=a/\a < n)(hb:0<=b/\b < n):MF [.list (rs.map λr=>.list ((rK r).map int)),.int a,.int b]=.ok (.bool (pL rs (a,b))) false:=by
 show fin (fY [.fz (.list (rs.map λr=>.list ((rK r).map int))),.fz (.int a),.fz (.int b)] 0)=_
 unfold fY
 have ec:aK 1 [1,2] (.nm 0) (ba (gv 0)) iB (f2 (f2 (gv 0) (gv 1) bh) (f2 (gv 0) (gv 2) bh) pY) (vl [.fz (.list (rs.map λr=>.list ((rK r).map int))),.fz (.int a),.fz (.int b)]) 0=.ok (.list (rs.map λr=>PyData.bool (decide (r.idxOf a < r.idxOf b)))) 0:=
  bI (l:=rs) (e:=λr=>.list ((rK r).map int)) (λr=>PyData.bool (decide (r.idxOf a < r.idxOf b))) rfl (by omega) λr hr=>⟨_,rfl,Cb (hp r hr) ha hb rfl rfl rfl⟩
 rw[dw,vF ec];rfl
noncomputable def MG:List D->FR:=aR 3 2 (gj IZ kK MF)
def Jm {n:Nat}{rs:List (List Int)}(h1:1<=n)(h8:n<=8)(hz:rs.length<=1000)(hp:∀r,r∈rs->r.Perm (dN n)):MG [.int n,.list (rs.map tupI)]=.ok (.tuple (((OM.bN n).filter (pL rs)).map aC)) false:=by
 show fin (gj IZ kK MF [.fz (.int n),.fz (.list (rs.map tupI)),.no] 0)=_
 unfold gj
 have e1:aK 1 [] (.nm 0) (ba (gv 1)) iB (ai IZ (aa (gv 0) ag)) (vl [.fz (.int n),.fz (.list (rs.map tupI)),.no]) 0=.ok (.list (rs.map λr=>.list ((rK r).map int))) 0:=
  bI (l:=rs) (e:=tupI) (λr=>.list ((rK r).map int)) rfl (by omega) λr hr=>⟨_,rfl,aq (ds:=[tupI r]) rfl (Lm (by omega) (hp r hr))⟩
 rw[ay (env':=[.fz (.int n),.fz (.list (rs.map tupI)),.fz (.list (rs.map λr=>.list ((rK r).map int)))]) (β':=0) (by rw[bB,e1];rfl)]
 have hg:(OM.bN n).length<=64:=by rw[eV];exact Qf h8 h8
 have e2:aK 2 [2] (.two 0 1) (ba (ai kK (aa (gv 0) ag))) (gu (ai MF (aa (gv 2) (aa (gv 0) (aa (gv 1) ag))))) (cC (aa (gv 0) (aa (gv 1) ag))) (vl [.fz (.int n),.fz (.list (rs.map tupI)),.fz (.list (rs.map λr=>.list ((rK r).map int)))]) 0=.ok (.list (((OM.bN n).filter (pL rs)).map aC)) 0:=by
  refine bY (l:=OM.bN n) (e:=aC) (pL rs) aC ?_ (by omega) λp hp'=>⟨_,rfl,?_,λ_=>eQ rfl rfl⟩
  ·unfold ba
   rw[aq (ds:=[.int n]) (β1:=0) rfl (zU h1 h8)];rfl
  ·have:=OM.bD.mp hp'
   exact dI (aq (ds:=[.list (rs.map λr=>.list ((rK r).map int)),.int p.1,.int p.2]) rfl (NY hz hp this.1 this.2))
 rw[dw,dZ (g:=lS) e2 rfl];rfl
def KI {n:Nat}{rs:List (List Int)}(h1:1<=n)(h8:n<=8)(hz:rs.length<=100)(hp:∀r,r∈rs->r.Perm (dN n)):MG [.int n,.list (rs.map tupI)]=.ok (.tuple (((OM.bN n).filter (pL rs)).map aC)) false:=Jm h1 h8 (by omega) hp
theorem any_ints (a:Int):∀s:List Int,((s.map int).any λe=>PyData.eqv e (.int a))=decide (a∈s)
 | []=>rfl
 |b :: s=>by
  rw[PH,Qu,any_ints a s]
  show ((b == a) || _)=_
  rw[Px]
  simp only[Qd,beq_iff_eq,O5,OR]
  exact⟨λh=>h.imp Eq.symm id,λh=>h.imp Eq.symm id⟩
def tQ (s:List Int):(s.map int).all SeqAt.shaped=true:=by
 rw[O9]
 intro d hd
 obtain⟨p,_,rfl⟩:=Pp.mp hd
 rfl
def Am (neg:Bool)(a:Int)(s:List Int):lW neg (.int a) (tupI s)=some (.bool (if neg then !decide (a∈s) else decide (a∈s))):=by
 unfold lW tupI
 simp only[lH,tQ,any_ints]
 rfl
def xy {a b:List D}(h:a.length + b.length<=1000):oa (.tuple a) (.tuple b)=some (.tuple (a ++ b)):=OO (by rw[PJ];omega)
def Nx {fa fb:VF D}{vs:List Nv}{β β1 β2:Int}{r q:List Int}(h1:fa vs β=.ok (tupI r) β1)(h2:fb vs β1=.ok (tupI q) β2)(hz:r.length + q.length<=1000):f2 fa fb oa vs β=.ok (tupI (r ++ q)) β2:=
 aF h1 h2 (by unfold tupI;rw[xy (by simpa using hz),<-Pq])
def z7 (l:List Pr)(r:List Int)(x:Int):List Int:=(l.filter λp=>decide (p.2=x) && !decide (p.1∈r)).map (·.1)
def jM {l:List Pr}{r:List Int}{x a:Int}:a∈z7 l r x↔(a,x)∈l/\a∉r:=by
 unfold z7
 rw[Pp]
 constructor
 ·rintro⟨p,hp,rfl⟩
  have:=OI.mp hp
  simp only[O2,O5,Qi,P7] at this
  obtain⟨pa,pb⟩:=p
  obtain⟨h1,h2,h3⟩:=this
  simp only at h2 h3
  subst h2
  exact⟨h1,h3⟩
 ·rintro⟨h1,h2⟩
  exact⟨(a,x),OI.mpr ⟨h1,by simp[h2]⟩,rfl⟩
def BD {n:Nat}{l:List Pr}(O:OM.Ord n l)(r:List Int)(x:Int):(z7 l r x).Nodup:=by
 unfold z7
 rw[QI,List.pairwise_map]
 refine List.Pairwise.imp_of_mem (λ{a b} ha hb h e=>h ?_) (QI.mp ((OM.td O.ris).filter _))
 have h1:=(OI.mp ha).2
 have h2:=(OI.mp hb).2
 simp only[O2,O5] at h1 h2
 exact Prod.ext e (h1.1.trans h2.1.symm)
theorem least {n:Nat}{l:List Pr}(O:OM.Ord n l)(r:List Int):∀(k:Nat) (x:Int),(0<=x/\x < n)->x∉r->(z7 l r x).length<=k->∃y:Int,(0<=y/\y < n)/\y∉r/\z7 l r y= []
 | 0,x,hx,hr,hk=>⟨x,hx,hr,QO.mp (by omega)⟩
 |k + 1,x,hx,hr,hk=>by
  by_cases he:z7 l r x= []
  ·exact⟨x,hx,hr,he⟩
  ·obtain⟨a,ha⟩:=List.exists_mem_of_ne_nil _ he
   obtain⟨h1,h2⟩:=jM.mp ha
   refine least O r k a (O.wn _ h1).1 h2 ?_
   have nd:(a :: z7 l r a).Nodup:=PR.mpr ⟨λq=>O.irr a (jM.mp q).1,BD O r a⟩
   have:=L2.ST.fV nd (m:=z7 l r x) λy hy=>by
    rcases OR.mp hy with rfl |hy
    ·exact ha
    ·obtain⟨q1,q2⟩:=jM.mp hy
     exact jM.mpr ⟨O.tr _ _ _ q1 h1,q2⟩
   rw[Pf] at this
   omega
structure rL (n:Nat)(l:List Pr)(r:List Int):Prop where
 nd:r.Nodup
 inn:∀x,x∈r->0<=x/\x < (n:Int)
 fit:∀p,p∈l->p.2∈r->p.1∈r/\r.idxOf p.1 < r.idxOf p.2
def rL.len {n:Nat}{l:List Pr}{r:List Int}(B:rL n l r):r.length<=n:=by
 have:=L2.ST.fV B.nd (m:=dN n) λx hx=>aU.mpr (B.inn x hx)
 rwa [cp] at this
def rL.row {n:Nat}{l:List Pr}{r:List Int}(O:OM.Ord n l)(B:rL n l r)(h:n<=r.length):Row n l r:=by
 have pm:=qm (Nat.le_antisymm B.len h) B.inn B.nd
 refine⟨pm,O9.mpr λp hp=>OP ?_⟩
 exact (B.fit p hp (pm.mem_iff.mpr (aU.mpr (O.wn p hp).2))).2
def cV (l:List Pr)(r:List Int)(x:Int):Bool:= !decide (x∈r) && decide (z7 l r x= [])
def rL.more {n:Nat}{l:List Pr}{r:List Int}{x:Int}(B:rL n l r)(hx:0<=x/\x < (n:Int))(hf:cV l r x=true):rL n l (r ++ [x]):=by
 unfold cV at hf
 rw[O2,Qi,P7,O5] at hf
 obtain⟨h1,h2⟩:=hf
 refine⟨?_,λy hy=>?_,λp hp hm=>?_⟩
 ·rw[QX]
  refine⟨B.nd,PR.mpr ⟨by simp,Q3⟩,λa ha b hb=>?_⟩
  rw[O3] at hb
  subst hb
  exact λq=>h1 (q▸ha)
 ·rcases O4.mp hy with hy |hy
  ·exact B.inn y hy
  ·rw[O3] at hy;subst hy;exact hx
 ·rcases O4.mp hm with hm |hm
  ·obtain⟨q1,q2⟩:=B.fit p hp hm
   refine⟨Qn _ q1,?_⟩
   rw[Qq,Qq,OO q1,OO hm]
   exact q2
  ·rw[O3] at hm
   have hp1:p.1∈r:=by
    by_cases z:p.1∈r
    ·exact z
    ·have:p.1∈z7 l r x:=jM.mpr ⟨by rw[<-hm];exact hp,z⟩
     rw[h2] at this;cases this
   refine⟨Qn _ hp1,?_⟩
   rw[Qq,Qq,OO hp1,OV (by rw[hm];exact h1)]
   have:=Qc.mpr hp1
   omega
def rL.free {n:Nat}{l:List Pr}{r:List Int}(O:OM.Ord n l)(B:rL n l r)(h:r.length < n):(dN n).filter (cV l r)≠ []:=by
 have:∃x,x∈dN n/\x∉r:=by
  apply Classical.byContradiction
  intro z
  have:=L2.ST.fV (fE n) (m:=r) λx hx=>Classical.byContradiction λq=>z ⟨x,hx,q⟩
  rw[cp] at this
  omega
 obtain⟨x,hx,hr⟩:=this
 obtain⟨y,hy,hyr,hp⟩:=least O r _ x (aU.mp hx) hr (ON _)
 intro q
 have:y∈(dN n).filter (cV l r):=OI.mpr ⟨aU.mpr hy,by unfold cV;simp[hyr,hp]⟩
 rw[q] at this
 cases this
def aN (l:List Pr)(r:List Int)(i:Nat):List Int:=(dN i).filter (cV l r)
def Em (i:Nat):dN (i + 1)=dN i ++ [(i:Int)]:=by unfold dN;rw[List.range_succ,Pq];rfl
def o1 (l:List Pr)(r:List Int)(i:Nat):aN l r (i + 1)=aN l r i ++ if cV l r (i:Int)=true then [(i:Int)] else []:=by
 unfold aN
 rw[Em,List.filter_append]
 congr 1
 by_cases h:cV l r (i:Int)=true
 ·rw[OO h];simp[h]
 ·rw[OV h];simp[h]
def iw (l:List Pr)(r:List Int)(i:Nat):(aN l r i).length<=i:=by
 have:(aN l r i).length<=(dN i).length:=PF _ _
 rwa [cp] at this
end RM
namespace RM
open PySem L2 PyProof.Rows
def mk (f:Nat->Bool):Nat->Nat
 | 0=>0
 |n + 1=>mk f n ||| if f n=true then 2 ^ n else 0
theorem c3 (f:Nat->Bool):∀(n i:Nat),(mk f n).testBit i=(decide (i < n) && f i)
 | 0,i=>by simp[mk]
 |n + 1,i=>by
  unfold mk
  rw[Nat.testBit_or,c3 f n i]
  by_cases h:f n=true
  ·rw[OO h,Nat.testBit_two_pow]
   by_cases e:n=i
   ·subst e;simp[h]
   ·have e2:decide (i < n)=decide (i < n + 1):=by
     rw[P4];omega
    simp[e,e2]
  ·rw[OV h]
   by_cases e:i=n
   ·subst e;simp[h]
   ·have e2:decide (i < n)=decide (i < n + 1):=by
     rw[P4];omega
    simp[e2]
def mk_eq {f g:Nat->Bool}{n:Nat}:mk f n=mk g n↔∀i,i < n->f i=g i:=by
 constructor
 ·intro h i hi
  have:=congrArg (λx=>x.testBit i) h
  simp only[c3,OP hi,Bool.true_and] at this
  exact this
 ·intro h
  apply Qp
  intro i
  rw[c3,c3]
  by_cases hi:i < n
  ·rw[h i hi]
  ·rw[OY hi];simp
def fy (f:Nat->Bool)(t:Nat):Nat->Bool:=λi=>f i || decide (i=t)
def HB {f:Nat->Bool}{n t:Nat}(h:t < n):mk f n ||| 2 ^ t=mk (fy f t) n:=by
 apply Qp
 intro i
 rw[Nat.testBit_or,c3,c3,Nat.testBit_two_pow]
 unfold fy
 by_cases e:t=i
 ·subst e;simp[h]
 ·have e':¬i=t:=λq=>e q.symm
  simp[e,e']
def Im {f g:Nat->Bool}{n:Nat}:(mk f n &&& mk g n=mk g n)↔∀i,i < n->g i=true->f i=true:=by
 have e:mk f n &&& mk g n=mk (λi=>f i && g i) n:=by
  apply Qp
  intro i
  rw[Nat.testBit_and,c3,c3,c3]
  by_cases h:i < n
  ·simp[h]
  ·simp[h]
 rw[e,mk_eq]
 constructor
 ·intro h i hi hg
  have:=h i hi
  rw[hg,Bool.and_true] at this
  exact this
 ·intro h i hi
  cases hg:g i with
  |false=>simp
  |true=>rw[h i hi hg];rfl
def uj (a b:Nat):Builtin.bitOr (a:Int) (b:Int)=((a ||| b:Nat):Int):=by
 have h1:¬(0<=Builtin.bitNot (a:Int)):=by show ¬(0<= -(a:Int) - 1);omega
 have h2:¬(0<=Builtin.bitNot (b:Int)):=by show ¬(0<= -(b:Int) - 1);omega
 show Builtin.bitNot (Builtin.bitAnd (Builtin.bitNot a) (Builtin.bitNot b))=_
 rw[bitAnd_nn h1 h2]
 have e1:Builtin.bitNot (Builtin.bitNot (a:Int))=a:=by show -(-(a:Int) - 1) - 1=a;omega
 have e2:Builtin.bitNot (Builtin.bitNot (b:Int))=b:=by show -(-(b:Int) - 1) - 1=b;omega
 rw[e1,e2]
 show -(-((((a:Int).toNat ||| (b:Int).toNat:Nat):Int)) - 1) - 1=_
 rw[Pu,Pu];omega
def yp (a b:Nat):Builtin.bitAnd (a:Int) (b:Int)=((a &&& b:Nat):Int):=by
 rw[bitAnd_pp (by omega) (by omega),Pu,Pu]
def mI (f:Nat->Bool)(n:Nat):D:=.int ((mk f n:Nat):Int)
def Ed:∀t:Nat,t < 8->yT (.int 1) (.int (t:Int))=some (.int ((2 ^ t:Nat):Int)):=by
 intro t ht
 have:t=0\/t=1\/t=2\/t=3\/t=4\/t=5\/t=6\/t=7:=by omega
 rcases this with rfl |rfl |rfl |rfl |rfl |rfl |rfl |rfl <;> rfl
def kX:List D->FR:=aR 2 2 iZ
def uC {f:Nat->Bool}{n t:Nat}(h8:n<=8)(h:t < n):kX [mI f n,.int (t:Int)]=.ok (mI (fy f t) n) false:=by
 show fin (iZ [.fz (mI f n),.fz (.int t)] 0)=_
 unfold iZ
 rw[dw,aF (x:=mI f n) (y:=.int ((2 ^ t:Nat):Int)) (d:=mI (fy f t) n) (β1:=0) (β2:=0) rfl (aF (x:=.int 1) (y:=.int t) rfl rfl (Ed t (by omega))) ?a]
 ·rfl
 case a=>
  show some (int (Builtin.bitOr _ _))=_
  rw[uj,HB h];rfl
def bC (n:Nat)(M:Nat->Nat->Bool):D:=.list ((List.range n).map λb=>mI (M b) n)
def bc (l:List Pr)(b a:Nat):Bool:=decide ((((a:Nat):Int),((b:Nat):Int))∈l)
def Ef {n b:Nat}{M:Nat->Nat->Bool}(h:b < n):ki ((List.range n).map λb=>mI (M b) n) (b:Int)=some (mI (M b) n):=jz (by rw[OW,Qj h];rfl)
def EG:List D->FR:=aR 4 1 (hJ kX)
def orM (M:Nat->Nat->Bool)(p:Pr)(b a:Nat):Bool:=M b a || (decide ((b:Int)=p.2) && decide ((a:Int)=p.1))
def II {n:Nat}{M:Nat->Nat->Bool}{p:Pr}(h1:0<=p.1/\p.1 < n)(h2:0<=p.2/\p.2 < n):((List.range n).map λb=>mI (M b) n).set p.2.toNat (mI (fy (M p.2.toNat) p.1.toNat) n)=(List.range n).map λb=>mI (orM M p b) n:=by
 refine QD (by simp) λi h3 h4=>?_
 rw[List.getElem_set]
 simp only[List.getElem_map,List.getElem_range]
 unfold mI
 by_cases e:p.2.toNat=i
 ·rw[OO e]
  congr 2
  rw[mk_eq]
  intro j hj
  unfold fy orM
  rw[e]
  have e1:((i:Nat):Int)=p.2:=by omega
  rw[OP e1,Bool.true_and]
  congr 1
  rw[P4];omega
 ·rw[OV e]
  congr 2
  rw[mk_eq]
  intro j hj
  unfold orM
  rw[OY (by omega:¬((i:Nat):Int)=p.2)];simp
theorem Ax {n:Nat}{l:List Pr}(h8:n<=8):∀(ps:List Pr) (M:Nat->Nat->Bool) (s2 s3:Sl),OM.Wn n ps->∃M' s2' s3',eY (.two 2 3) (n5 1 (([] ++ []) ++ ([2] ++ [])) [] (ai kX (aa (f2 (gv 1) (gv 3) bh) (aa (gv 2) ag))) (gv 3)) (ps.map aC) [.fz (ao n l),.ow (bC n M),s2,s3] 0=.nx [.fz (ao n l),.ow (bC n M'),s2',s3'] 0/\∀b a,b < n->a < n->M' b a=(M b a || bc ps b a)
 | [],M,s2,s3,_=>⟨M,s2,s3,rfl,λb a _ _=>by unfold bc;simp⟩
 |p :: ps,M,s2,s3,wn=>by
  have hp:=wn p (OU ..)
  obtain⟨M',s2',s3',e,hM⟩:=Ax (l:=l) h8 ps (orM M p) (.fz (.int p.1)) (.fz (.int p.2)) λq hq=>wn q (OS _ hq)
  refine⟨M',s2',s3',?_,λb a hb ha=>?_⟩
  ·rw[PH]
   unfold eY
   rw[show fL (.two 2 3) (aC p) [.fz (ao n l),.ow (bC n M),s2,s3]=some [.fz (ao n l),.ow (bC n M),.fz (.int p.1),.fz (.int p.2)] from rfl]
   dsimp only
   have e1:(p.2.toNat:Int)=p.2:=by omega
   have e2:(p.1.toNat:Int)=p.1:=by omega
   have ew:ai kX (aa (f2 (gv 1) (gv 3) bh) (aa (gv 2) ag)) (vl [.fz (ao n l),.ow (bC n M),.fz (.int p.1),.fz (.int p.2)]) 0=.ok (mI (fy (M p.2.toNat) p.1.toNat) n) 0:=by
    refine aq (b:=false) (ds:=[mI (M p.2.toNat) n,.int (p.1.toNat:Int)]) (ac (aF (x:=bC n M) (y:=.int p.2) rfl rfl ?_) (ac ?_ an)) (uC h8 (by omega))
    ·have:=Ef (n:=n) (M:=M) (b:=p.2.toNat) (by omega)
     rw[e1] at this
     exact this
    ·show R.ok (int p.1) 0=_
     rw[e2]
   rw[qI (ds:=(List.range n).map λb=>mI (M b) n) (d:=mI (fy (M p.2.toNat) p.1.toNat) n) (k:=p.2) (n:=p.2.toNat) (β1:=0) (β2:=0) ew (by rfl) rfl (by rfl) (by
    unfold tD
    rw[OO hp.2.1,OO (by simp;omega)]),II hp.1 hp.2]
   dsimp only
   exact e
  ·rw[hM b a hb ha]
   unfold orM bc
   obtain⟨p1,p2⟩:=p
   rw[Bool.or_assoc]
   congr 1
   rw[Px]
   simp only[Qd,O2,O5,OR,Prod.mk.injEq]
   constructor
   ·rintro (⟨h1,h2⟩ |h)
    ·exact .inl ⟨h2,h1⟩
    ·exact .inr h
   ·rintro (⟨h1,h2⟩ |h)
    ·exact .inl ⟨h2,h1⟩
    ·exact .inr h
def AK {n:Nat}{M N:Nat->Nat->Bool}(h:∀b a,b < n->a < n->M b a=N b a):bC n M=bC n N:=by
 unfold bC
 congr 1
 refine P5 λb hb=>?_
 unfold mI
 congr 2
 rw[mk_eq]
 exact λa ha=>h b a (PL.mp hb) ha
def EV {n:Nat}{l:List Pr}(O:OM.Ord n l):EG [ao n l]=.ok (bC n (bc l)) true:=by
 have h8:=O.hi
 show fin (hJ kX [.fz (ao n l),.no,.no,.no] 0)=_
 unfold hJ
 rw[ay (env':=[.fz (ao n l),.ow (bC n λ_ _=>false),.no,.no]) (β':=0) ?a]
 case a=>
  have e:f2 (cy (aa (cst (.int 0)) ag)) (f2 (gv 0) (cst (.int 0)) bh) mU (vl [.fz (ao n l),.no,.no,.no]) 0=.ok (bC n λ_ _=>false) 0:=by
   refine aF (lp (ac (ck _) an)) (Ha (n:=n) (l:=l) rfl) ?_
   simp only[mU]
   rw[OO ⟨by omega,by omega,by rw[PJ];simp;omega⟩]
   unfold bC
   congr 2
   rw[Pu]
   have hz:∀m,mk (λ_=>false) m=0:=λm=>by
    induction m with
    |zero=>rfl
    |succ m ih=>unfold mk;rw[ih];simp
   unfold mI
   simp only[hz]
   have:∀m:Nat,(List.replicate m [int 0]).flatten=List.replicate m (int 0):=λm=>by
    induction m with
    |zero=>rfl
    |succ m ih=>rw[Py,Py,Qh,ih];rfl
   rw[this]
   refine QD (by simp) λi h1 h2=>by simp
  rw[ia,e];rfl
 obtain⟨M',s2,s3,e,hM⟩:=Ax (l:=l) h8 l (λ_ _=>false) .no .no O.wn
 have hm:bC n M'=bC n (bc l):=AK λb a hb ha=>by rw[hM b a hb ha];rfl
 rw[hm] at e
 rw[ay (env':=[.fz (ao n l),.ow (bC n (bc l)),s2,s3]) (β':=0) (by
  rw[cB (env:=[.fz (ao n l),.ow (bC n λ_ _=>false),.no,.no]) (ds:=l.map aC) (β1:=0) (by unfold ba;rw[Hx (n:=n) (l:=l) rfl];rfl)]
  exact e)]
 rfl
end RM
namespace RM
open PySem L2
def bO (r:List Int)(i:Nat):Bool:=decide ((i:Int)∈r)
def wJ:List D->FR:=aR 5 2 (gW kX)
def Ds {n:Nat}{l:List Pr}(O:OM.Ord n l){r:List Int}{t:Nat}(ht:t < n):(!decide (mk (fy (bO r) t) n=mk (bO r) n) && decide (mk (bO r) n &&& mk (bc l t) n=mk (bc l t) n))=cV l r t:=by
 unfold cV
 congr 1
 ·congr 1
  rw[P4,mk_eq]
  constructor
  ·intro h
   have:=h t ht
   unfold fy bO at this
   simp at this
   exact this
  ·intro h i hi
   unfold fy bO
   by_cases e:i=t
   ·subst e;simp[h]
   ·simp[e]
 ·rw[P4,Im]
  constructor
  ·intro h
   rw[List.eq_nil_iff_forall_not_mem]
   intro a ha
   obtain⟨h1,h2⟩:=jM.mp ha
   have hw:=(O.wn _ h1).1
   simp only at hw
   have e:((a.toNat:Nat):Int)=a:=by omega
   have:=h a.toNat (by omega) (by unfold bc;rw[e];exact OP h1)
   unfold bO at this
   rw[e] at this
   exact h2 (Po this)
  ·intro h i hi hg
   unfold bO
   refine OP (Classical.byContradiction λq=>?_)
   have:(i:Int)∈z7 l r t:=jM.mpr ⟨Po hg,q⟩
   rw[h] at this;cases this
def FJ {n:Nat}{l:List Pr}(O:OM.Ord n l)(r:List Int):∃s3 s4,eY (.two 3 4) (j4 ((([1] ++ ([3] ++ [])) ++ []) ++ (([] ++ []) ++ [])) (BU (dv (f2 (ai kX (aa (gv 1) (aa (gv 3) ag))) (gv 1) (eh true))) (dv (f2 (f2 (gv 1) (gv 4) Eb) (gv 4) (eh false))))
  (lF 2 [3] (gv 3)) lC) (dz ((List.range n).map λb=>mI (bc l b) n)) [.fz (bC n (bc l)),.fz (mI (bO r) n),.ow (.list []),.no,.no] 0=.nx [.fz (bC n (bc l)),.fz (mI (bO r) n),.ow (.list ((aN l r n).map int)),s3,s4] 0:=by
 have h8:=O.hi
 obtain⟨env',β',ef,s3,s4,rfl,rfl⟩:=gc (t:=.two 3 4) (m:=j4 ((([1] ++ ([3] ++ [])) ++ []) ++ (([] ++ []) ++ [])) (BU (dv (f2 (ai kX (aa (gv 1) (aa (gv 3) ag))) (gv 1) (eh true))) (dv (f2 (f2 (gv 1) (gv 4) Eb) (gv 4) (eh false))))
  (lF 2 [3] (gv 3)) lC) (ds:=dz ((List.range n).map λb=>mI (bc l b) n)) (k:=0)
  (λk env b=>∃s3 s4,env= [.fz (bC n (bc l)),.fz (mI (bO r) n),.ow (.list ((aN l r k).map int)),s3,s4]/\b=0)
  (env:=[.fz (bC n (bc l)),.fz (mI (bO r) n),.ow (.list []),.no,.no]) (β:=0) ⟨.no,.no,rfl,rfl⟩ (by
   rintro k d env b hk ⟨s3,s4,rfl,rfl⟩
   unfold dz at hk
   rw[Q6,OW] at hk
   have hkn:k < n:=by
    by_cases h:k < n
    ·exact h
    ·rw[Ql (by simp;omega)] at hk;cases hk
   rw[Qj hkn] at hk
   cases hk
   refine⟨[.fz (bC n (bc l)),.fz (mI (bO r) n),.ow (.list ((aN l r (0 + k)).map int)),.fz (.int k),.fz (mI (bc l k) n)],rfl,?_⟩
   rw[P0]
   have et:BU (dv (f2 (ai kX (aa (gv 1) (aa (gv 3) ag))) (gv 1) (eh true))) (dv (f2 (f2 (gv 1) (gv 4) Eb) (gv 4) (eh false))) (vl [.fz (bC n (bc l)),.fz (mI (bO r) n),.ow (.list ((aN l r k).map int)),.fz (.int k),.fz (mI (bc l k) n)]) 0=.ok (cV l r k) 0:=by
    rw[<-Ds O hkn]
    refine ya (dJ _ _ _ _ (aF (x:=mI (fy (bO r) k) n) (y:=mI (bO r) n) (aq (ds:=[mI (bO r) n,.int k]) rfl (uC h8 hkn)) rfl ?_)) (dJ _ _ _ _ (aF (x:=.int ((mk (bO r) n &&& mk (bc l k) n:Nat):Int)) (y:=mI (bc l k) n) (aF (x:=mI (bO r) n) (y:=mI (bc l k) n) rfl rfl ?_) rfl ?_))
    ·unfold mI;rw[mC,OO rfl];congr 3;rw[P4];omega
    ·show some (int (Builtin.bitAnd _ _))=_
     rw[yp]
    ·unfold mI;rw[mC,OV O8];congr 2;rw[P4];omega
   cases c:cV l r (k:Int) with
   |true=>
    rw[c] at et
    refine⟨[.fz (bC n (bc l)),.fz (mI (bO r) n),.ow (.list ((aN l r (k + 1)).map int)),.fz (.int k),.fz (mI (bc l k) n)],0,?_,_,_,rfl,rfl⟩
    rw[ly et]
    have hz:=iw l r k
    rw[show a9 ((([1] ++ ([3] ++ [])) ++ []) ++ (([] ++ []) ++ [])) [.fz (bC n (bc l)),.fz (mI (bO r) n),.ow (.list ((aN l r k).map int)),.fz (.int k),.fz (mI (bc l k) n)]= [.fz (bC n (bc l)),.fz (mI (bO r) n),.ow (.list ((aN l r k).map int)),.fz (.int k),.fz (mI (bc l k) n)] from rfl]
    rw[nZ (i:=2) (ds:=(aN l r k).map int) (d:=.int k) (β':=0) (by rfl) rfl (by rfl) (by rw[OK];omega),o1,OO c,Pq]
    rfl
   |false=>
    rw[c] at et
    refine⟨[.fz (bC n (bc l)),.fz (mI (bO r) n),.ow (.list ((aN l r (k + 1)).map int)),.fz (.int k),.fz (mI (bc l k) n)],0,?_,_,_,rfl,rfl⟩
    rw[ji et,o1,c,show aN l r k ++ (if false=true then [(k:Int)] else [])=aN l r k by simp]
    rfl)
 have hle:(dz ((List.range n).map λb=>mI (bc l b) n)).length=n:=by unfold dz;simp
 rw[P0,hle] at ef
 exact⟨s3,s4,ef⟩
def G7 {n:Nat}{l:List Pr}(O:OM.Ord n l)(r:List Int):wJ [bC n (bc l),mI (bO r) n]=.ok (.list ((aN l r n).map int)) true:=by
 show fin (gW kX [.fz (bC n (bc l)),.fz (mI (bO r) n),.no,.no,.no] 0)=_
 unfold gW
 rw[ay (env':=[.fz (bC n (bc l)),.fz (mI (bO r) n),.ow (.list []),.no,.no]) (β':=0) (by rw[ia,lp (ds:=[]) an];rfl)]
 obtain⟨s3,s4,e⟩:=FJ O r
 rw[ay (env':=[.fz (bC n (bc l)),.fz (mI (bO r) n),.ow (.list ((aN l r n).map int)),s3,s4]) (β':=0) (by
  rw[cB (env:=[.fz (bC n (bc l)),.fz (mI (bO r) n),.ow (.list []),.no,.no]) (ds:=dz ((List.range n).map λb=>mI (bc l b) n)) (β1:=0) rfl]
  exact e)]
 rfl
noncomputable def Kj:List D->FR:=aR 6 2 (ju wJ kX)
structure JE (n:Nat)(l:List Pr)(late r:List Int):Prop where
 beg:rL n l r
 late:∀q x,(q ++ [x]) <+:r->x∈late->∀y:Int,(0<=y/\y < n)->cV l q y=true->y∈late
def v7 (neg:Bool)(a:Int)(s:List Int):lW neg (.int a) (.list (s.map int))=some (.bool (if neg then !decide (a∈s) else decide (a∈s))):=by
 unfold lW
 simp only[lH,tQ,any_ints]
 rfl
def JE.more {n:Nat}{l:List Pr}{late r:List Int}{x:Int}(R:JE n l late r)(hx:0<=x/\x < (n:Int))(hf:cV l r x=true)(hl:x∈late->∀y:Int,(0<=y/\y < n)->cV l r y=true->y∈late):JE n l late (r ++ [x]):=by
 refine⟨R.beg.more hx hf,λq z hp hz y hy hfy=>?_⟩
 rcases List.prefix_concat_iff.mp hp with e |hp
 ·have:=List.append_inj' e rfl
  obtain⟨rfl,e2⟩:=this
  cases e2
  exact hl hz y hy hfy
 ·exact R.late q z hp hz y hy hfy
def zb (n:Nat):mI (bO []) n=.int 0:=by
 unfold mI
 congr 1
 have:mk (bO []) n=0:=by
  induction n with
  |zero=>rfl
  |succ m ih=>unfold mk;rw[ih];simp[bO]
 rw[this];rfl
def vU {n:Nat}{r:List Int}{x:Int}(h:0<=x/\x < n):mI (fy (bO r) x.toNat) n=mI (bO (r ++ [x])) n:=by
 unfold mI
 congr 2
 rw[mk_eq]
 intro i hi
 unfold fy bO
 rw[Px]
 simp only[Qd,O5,O4,O3]
 constructor
 ·rintro (h |h)
  ·exact .inl h
  ·exact .inr (by omega)
 ·rintro (h |h)
  ·exact .inl h
  ·exact .inr (by omega)
def KJ {n:Nat}{l:List Pr}{late:List Int}(O:OM.Ord n l)(hz:late.length<=100):∃r,Kj [bC n (bc l),.list (late.map int)]=.ok (tupI r) false/\Row n l r/\JE n l late r:=by
 have h8:=O.hi
 show ∃r,fin (ju wJ kX [.fz (bC n (bc l)),.fz (.list (late.map int)),.no,.no,.no,.no] 0)=.ok (tupI r) false/\Row n l r/\JE n l late r
 unfold ju
 rw[ay (env':=[.fz (bC n (bc l)),.fz (.list (late.map int)),.ow (.list (([]:List Int).map int)),.no,.no,.no]) (β':=0) (by rw[ia,lp (ds:=[]) an];rfl)]
 rw[ay (env':=[.fz (bC n (bc l)),.fz (.list (late.map int)),.ow (.list (([]:List Int).map int)),.fz (mI (bO []) n),.no,.no]) (β':=0) (by rw[bB,zb];rfl)]
 obtain⟨env',β',ew,r,s4,s5,rfl,rfl,hr,R⟩:=gG (L:=[] ++ []) (t:=dv (f2 (f1 (gv 2) cP) (f1 (gv 0) cP) pY))
  (m:=aG (bg 4 ([0] ++ ([3] ++ [])) (ai wJ (aa (gv 0) (aa (gv 3) ag))))
   (aG (bg 5 ([] ++ []) (aK 1 [1] (.nm 0) (ba (gv 4)) (dv (f2 (gv 0) (gv 1) (lW true))) (gv 0)))
   (aG (lF 2 (([] ++ []) ++ []) (f2 (f2 (gv 5) (gv 4) l0) (cst (.int 0)) bh))
   (bg 3 ([3] ++ (([] ++ []) ++ [])) (ai kX (aa (gv 3) (aa (f2 (gv 2) (f1 (cst (.int 1)) nQ) bh) ag)))))))
  (λk env b=>∃r s4 s5,env= [.fz (bC n (bc l)),.fz (.list (late.map int)),.ow (.list (r.map int)),.fz (mI (bO r) n),s4,s5]/\b=0/\JE n l late r/\k=n - r.length)
  (λenv b=>∃r s4 s5,env= [.fz (bC n (bc l)),.fz (.list (late.map int)),.ow (.list (r.map int)),.fz (mI (bO r) n),s4,s5]/\b=0/\Row n l r/\JE n l late r)
  (n:=1000) (k:=n) (env:=[.fz (bC n (bc l)),.fz (.list (late.map int)),.ow (.list (([]:List Int).map int)),.fz (mI (bO []) n),.no,.no]) (β:=0) (by omega)
  ⟨[],.no,.no,rfl,rfl,⟨⟨Q3,(λx hx=>by cases hx),(λp _ h=>by cases h)⟩,λq x hp=>by simp at hp⟩,by simp⟩ (by
   rintro k env b ⟨r,s4,s5,rfl,rfl,R,rfl⟩
   have hrl:=R.beg.len
   have et:dv (f2 (f1 (gv 2) cP) (f1 (gv 0) cP) pY) (vl [.fz (bC n (bc l)),.fz (.list (late.map int)),.ow (.list (r.map int)),.fz (mI (bO r) n),s4,s5]) 0=.ok (decide ((r.length:Int) < n)) 0:=by
    refine dJ _ _ _ _ (aF (x:=.int r.length) (y:=.int n) (β1:=0) ?_ ?_ rfl)
    ·rw[jV (ds:=r.map int) rfl,OK]
    ·rw[jV (ds:=(List.range n).map λb=>mI (bc l b) n) rfl,OK,Qb]
   refine⟨_,_,et,?_⟩
   by_cases hlt:r.length < n
   ·refine .inr ⟨OP (by omega),?_⟩
    show ∃env2 β2 k',aG _ _ [.fz (bC n (bc l)),.fz (.list (late.map int)),.ow (.list (r.map int)),.fz (mI (bO r) n),s4,s5] 0=.nx env2 β2/\k' < n - r.length/\_
    rw[ay (env':=[.fz (bC n (bc l)),.fz (.list (late.map int)),.ow (.list (r.map int)),.fz (mI (bO r) n),.fz (.list ((aN l r n).map int)),s5]) (β':=0) (by rw[bB,aq (ds:=[bC n (bc l),mI (bO r) n]) (β1:=0) rfl (G7 O r)];rfl)]
    have ec:aK 1 [1] (.nm 0) (ba (gv 4)) (dv (f2 (gv 0) (gv 1) (lW true))) (gv 0) (vl [.fz (bC n (bc l)),.fz (.list (late.map int)),.ow (.list (r.map int)),.fz (mI (bO r) n),.fz (.list ((aN l r n).map int)),s5]) 0=.ok (.list (((aN l r n).filter λx=> !decide (x∈late)).map int)) 0:=by
     refine bY (l:=aN l r n) (e:=int) (λx=> !decide (x∈late)) int rfl (by have:=iw l r n;omega) λx hx=>⟨_,rfl,?_,λ_=>rfl⟩
     exact dJ _ _ _ _ (aF (x:=.int x) (y:=.list (late.map int)) rfl rfl (v7 true x late))
    generalize hEE:((aN l r n).filter λx=> !decide (x∈late))=EE at ec
    rw[ay (env':=[.fz (bC n (bc l)),.fz (.list (late.map int)),.ow (.list (r.map int)),.fz (mI (bO r) n),.fz (.list ((aN l r n).map int)),.fz (.list (EE.map int))]) (β':=0) (by rw[bB,ec];rfl)]
    have hne:aN l r n≠ []:=R.beg.free O hlt
    have hEl:EE.length<=n:=by rw[<-hEE];exact Pz (PF _ _) (iw l r n)
    have hfl:=iw l r n
    obtain⟨x,L,hx⟩:∃x L,EE ++ aN l r n=x :: L:=List.exists_cons_of_ne_nil (by simp[hne])
    have hxm:x∈aN l r n:=by
     have:x∈EE ++ aN l r n:=by rw[hx];exact OU ..
     rcases O4.mp this with h |h
     ·rw[<-hEE] at h;exact (OI.mp h).1
     ·exact h
    obtain⟨hm1,hm2⟩:=OI.mp hxm
    have hxr:=aU.mp hm1
    have hlate:x∈late->∀y:Int,(0<=y/\y < n)->cV l r y=true->y∈late:=λhxl y hy hfy=>by
     apply Classical.byContradiction
     intro hn
     have hyE:y∈EE:=by rw[<-hEE];exact OI.mpr ⟨OI.mpr ⟨aU.mpr hy,hfy⟩,by simp[hn]⟩
     cases hE:EE with
     |nil=>rw[hE] at hyE;cases hyE
     |cons z Z=>
      rw[hE,List.cons_append] at hx
      have e1:=(List.cons.inj hx).1
      have:z∈EE:=by rw[hE];exact OU ..
      rw[<-hEE] at this
      have:=(OI.mp this).2
      rw[e1] at this
      simp[hxl] at this
    have R':=R.more hxr hm2 hlate
    rw[ay (env':=[.fz (bC n (bc l)),.fz (.list (late.map int)),.ow (.list ((r ++ [x]).map int)),.fz (mI (bO r) n),.fz (.list ((aN l r n).map int)),.fz (.list (EE.map int))]) (β':=0) ?bb]
    case bb=>
     have ei:f2 (f2 (gv 5) (gv 4) l0) (cst (.int 0)) bh (vl [.fz (bC n (bc l)),.fz (.list (late.map int)),.ow (.list (r.map int)),.fz (mI (bO r) n),.fz (.list ((aN l r n).map int)),.fz (.list (EE.map int))]) 0=.ok (.int x) 0:=by
      refine aF (x:=.list ((EE ++ aN l r n).map int)) (y:=.int 0) (aF (x:=.list (EE.map int)) (y:=.list ((aN l r n).map int)) rfl rfl ?_) rfl ?_
      ·rw[pV (by rw[OK,OK];omega),Pq]
      ·rw[hx];exact jz (xs:=.int x :: L.map int) (j:=0) rfl
     rw[nZ (i:=2) (ds:=r.map int) (d:=.int x) (β':=0) (by rfl) ei (by rfl) (by rw[OK];omega),Pq]
     rfl
    have e1:(x.toNat:Int)=x:=by omega
    have el:f2 (gv 2) (f1 (cst (.int 1)) nQ) bh (vl [.fz (bC n (bc l)),.fz (.list (late.map int)),.ow (.list ((r ++ [x]).map int)),.fz (mI (bO r) n),.fz (.list ((aN l r n).map int)),.fz (.list (EE.map int))]) 0=.ok (.int (x.toNat:Int)) 0:=by
     refine aF (x:=.list ((r ++ [x]).map int)) (y:=.int (-1)) rfl rfl ?_
     show ki ((r ++ [x]).map int) (-1)=_
     rw[e1]
     unfold ki tD
     rw[OV (by omega),OO (by simp;omega)]
     show ((r ++ [x]).map int)[((-1:Int) + ((((r ++ [x]).map int).length:Nat):Int)).toNat]? =_
     rw[show ((-1:Int) + ((((r ++ [x]).map int).length:Nat):Int)).toNat=r.length by simp;omega,Pq,Pj (by simp)]
     simp
    refine⟨[.fz (bC n (bc l)),.fz (.list (late.map int)),.ow (.list ((r ++ [x]).map int)),.fz (mI (bO (r ++ [x])) n),.fz (.list ((aN l r n).map int)),.fz (.list (EE.map int))],0,n - (r ++ [x]).length,?_,by rw[OX,Pe];omega,_,_,_,rfl,rfl,R',rfl⟩
    rw[bB,aq (ds:=[mI (bO r) n,.int (x.toNat:Int)]) (β1:=0) (ac rfl (ac el an)) (uC h8 (by omega)),vU hxr];rfl
   ·refine .inl ⟨OY (by omega),r,s4,s5,rfl,rfl,R.beg.row O (by omega),R⟩)
 rw[ay (env':=[.fz (bC n (bc l)),.fz (.list (late.map int)),.ow (.list (r.map int)),.fz (mI (bO r) n),s4,s5]) (β':=0) ew]
 exact⟨r,rfl,hr,R⟩
theorem xU:∀rs:List (List Int),PyData.canLayAll0 (rs.map tupI)=true
 | []=>rfl
 |r :: rs=>by
  show ((tupI r).canLay0 && PyData.canLayAll0 (rs.map tupI))=true
  rw[xU rs,show (tupI r).canLay0=true by unfold tupI;simp only[PyData.canLay0];exact lay_ints r];rfl
def Gv (r:List Int):(tupI r).depth=1:=by unfold tupI;simp only[PyData.depth];rw[qB]
theorem xT:∀rs:List (List Int),PyData.depthAll (rs.map tupI)<=1
 | []=>by show (0:Nat)<=1;omega
 |r :: rs=>by
  show max (tupI r).depth (PyData.depthAll (rs.map tupI))<=1
  have h1:=Gv r
  have h2:=xT rs
  omega
def pw (rs:List (List Int)):SeqAt.shaped (.list (rs.map tupI))=true:=by
 unfold SeqAt.shaped
 have h1:(PyData.list (rs.map tupI)).canLay0=true:=by simp only[PyData.canLay0];exact xU rs
 have h2:(PyData.list (rs.map tupI)).depth<=64:=by simp only[PyData.depth];have:=xT rs;omega
 rw[h1,OP h2];rfl
def Fv (r q:List Int):PyData.eqv (tupI r) (tupI q)=decide (r=q):=by
 unfold tupI
 simp only[PyData.eqv,qZ]
theorem xp:∀l m:List (List Int),PyData.eqvAll (l.map tupI) (m.map tupI)=decide (l=m)
 | [],[]=>rfl
 | [],_ :: _=>rfl
 |_ :: _,[]=>rfl
 |p :: l,q :: m=>by
  show (PyData.eqv (tupI p) (tupI q) && PyData.eqvAll (l.map tupI) (m.map tupI))=_
  rw[Fv,xp l m,Px]
  simp
def xW (neg:Bool)(l m:List (List Int)):eh neg (.list (l.map tupI)) (.list (m.map tupI))=some (.bool (if neg then !decide (l=m) else decide (l=m))):=by
 unfold eh
 rw[pw,pw]
 simp only[QQ,Qs,PyData.eqv,xp]
def lG (l:List Pr)(x y:Int):Bool:=decide (x=y) || decide ((x,y)∈l)
def fk {l:List Pr}{x y:Int}:lG l x y=true↔x=y\/(x,y)∈l:=by unfold lG;simp
def vG {n:Nat}{l:List Pr}(O:OM.Ord n l){x y z:Int}(h:lG l x y=true)(k:lG l y z=true):lG l x z=true:=by
 rw[fk] at *
 rcases h with rfl |h
 ·exact k
 ·rcases k with rfl |k
  ·exact .inr h
  ·exact .inr (O.tr _ _ _ h k)
def putL (n:Nat)(l:List Pr)(t:Pr):List Pr:=(OM.bN n).filter λp=>decide (p∈l) || (lG l p.1 t.2 && lG l t.1 p.2)
def lO {n:Nat}{l:List Pr}{t p:Pr}(h:(0<=p.1/\p.1 < n)/\(0<=p.2/\p.2 < n)):p∈putL n l t↔p∈l\/(lG l p.1 t.2=true/\lG l t.1 p.2=true):=by
 unfold putL
 rw[OI,OM.bD,Qd,O2,O5]
 exact⟨λh=>h.2,λk=>⟨h,k⟩⟩
def m9 {n:Nat}{l:List Pr}{t p:Pr}(h:p∈putL n l t):p∈l\/(lG l p.1 t.2=true/\lG l t.1 p.2=true):=by
 unfold putL at h
 have:=(OI.mp h).2
 rw[Qd,O2,O5] at this
 exact this
def FY {n:Nat}{l:List Pr}{t:Pr}(O:OM.Ord n l)(h:lG l t.1 t.2=false):OM.Ord n (putL n l t):=by
 have hn:¬lG l t.1 t.2=true:=by rw[h];exact O8
 refine⟨O.lo,O.hi,λp hp=>OM.bD.mp (OI.mp hp).1,OM.gR _ (OM.jc n),λa ha=>?_,λa b c hab hbc=>?_⟩
 ·rcases m9 ha with q | ⟨q1,q2⟩
  ·exact O.irr a q
  ·exact hn (vG O q2 q1)
 ·have g1:=OM.bD.mp (OI.mp hab).1
  have g2:=OM.bD.mp (OI.mp hbc).1
  refine (lO (p:=(a,c)) ⟨g1.1,g2.2⟩).mpr ?_
  rcases m9 hab with q | ⟨q1,q2⟩
  ·rcases m9 hbc with r | ⟨r1,r2⟩
   ·exact .inl (O.tr _ _ _ q r)
   ·exact .inr ⟨vG O (fk.mpr (.inr q)) r1,r2⟩
  ·rcases m9 hbc with r | ⟨r1,r2⟩
   ·exact .inr ⟨q1,vG O q2 (fk.mpr (.inr r))⟩
   ·exact .inr ⟨q1,r2⟩
def z8 {n:Nat}{l:List Pr}{t p:Pr}(O:OM.Ord n l)(h:p∈l):p∈putL n l t:=(lO (O.wn p h)).mpr (.inl h)
def qQ {n:Nat}{l:List Pr}{t:Pr}(h:(0<=t.1/\t.1 < n)/\(0<=t.2/\t.2 < n)):(t.2,t.1)∈putL n l t:=(lO ⟨h.2,h.1⟩).mpr (.inr ⟨fk.mpr (.inl rfl),fk.mpr (.inl rfl)⟩)
def Gf:List D->FR:=aR 3 3 (kG kX)
def IK {n:Nat}{l:List Pr}{a b:Int}(h8:n<=8)(ha:0<=a/\a < n)(hb:0<=b/\b < n):Gf [bC n (bc l),.int a,.int b]=.ok (.bool (decide ((a,b)∈l))) false:=by
 have ea:((a.toNat:Nat):Int)=a:=by omega
 have eb:((b.toNat:Nat):Int)=b:=by omega
 show fin (kG kX [.fz (bC n (bc l)),.fz (.int a),.fz (.int b)] 0)=_
 unfold kG
 have em:f2 (gv 0) (gv 2) bh (vl [.fz (bC n (bc l)),.fz (.int a),.fz (.int b)]) 0=.ok (mI (bc l b.toNat) n) 0:=by
  refine aF (x:=bC n (bc l)) (y:=.int b) rfl rfl ?_
  have:=Ef (n:=n) (M:=bc l) (b:=b.toNat) (by omega)
  rw[eb] at this
  exact this
 rw[dw,aF (x:=mI (fy (bc l b.toNat) a.toNat) n) (y:=mI (bc l b.toNat) n) (d:=.bool (decide ((a,b)∈l))) (β1:=0) (β2:=0) (aq (b:=false) (ds:=[mI (bc l b.toNat) n,.int (a.toNat:Int)]) (ac em (ac (by rw[ea];rfl) an)) (uC h8 (by omega))) em ?z]
 ·rfl
 case z=>
  unfold mI
  rw[mC,OV O8]
  congr 2
  rw[P4]
  constructor
  ·intro h
   have h:mk (fy (bc l b.toNat) a.toNat) n=mk (bc l b.toNat) n:=by omega
   have:=mk_eq.mp h a.toNat (by omega)
   unfold fy bc at this
   rw[ea,eb] at this
   simpa using this
  ·intro h
   have:mk (fy (bc l b.toNat) a.toNat) n=mk (bc l b.toNat) n:=mk_eq.mpr λi hi=>by
    unfold fy bc
    by_cases e:i=a.toNat
    ·rw[e,ea,eb];simp[h]
    ·simp[e]
   rw[this]
def DT:List D->FR:=aR 2 2 (jD Gf)
def JS {n:Nat}{l:List Pr}{t:Pr}(h8:n<=8)(h:(0<=t.1/\t.1 < n)/\(0<=t.2/\t.2 < n)):DT [bC n (bc l),aC t]=.ok (.bool (decide (t∈l))) false:=by
 show fin (jD Gf [.fz (bC n (bc l)),.fz (aC t)] 0)=_
 unfold jD
 rw[dw,aq (ds:=[bC n (bc l),.int t.1,.int t.2]) (β1:=0) rfl (IK h8 h.1 h.2)];rfl
def JL {f g:Nat->Bool}{n:Nat}:mk f n ||| mk g n=mk (λi=>f i || g i) n:=by
 apply Qp
 intro i
 rw[Nat.testBit_or,c3,c3,c3]
 by_cases h:i < n <;> simp[h]
noncomputable def Ie:List D->FR:=aR 4 2 (lj Gf kX)
def MV {n:Nat}{l:List Pr}{t:Pr}(h8:n<=8)(h:(0<=t.1/\t.1 < n)/\(0<=t.2/\t.2 < n)):Ie [bC n (bc l),aC t]=.ok (bC n (bc (putL n l t))) true:=by
 have e2:((t.2.toNat:Nat):Int)=t.2:=by omega
 show fin (lj Gf kX [.fz (bC n (bc l)),.fz (aC t),.no,.no] 0)=_
 unfold lj
 have el:f1 (gv 0) cP (vl [.fz (bC n (bc l)),.fz (aC t),.no,.no]) 0=.ok (.int n) 0:=by
  rw[jV (ds:=(List.range n).map λb=>mI (bc l b) n) rfl,OK,Qb]
 have ec:aK 1 [1,0] (.nm 0) (dM (f1 (gv 0) cP)) (nH (dv (f2 (gv 0) (f2 (gv 1) (cst (.int 0)) bh) (eh false))) (gu (ai Gf (aa (gv 2) (aa (f2 (gv 1) (cst (.int 0)) bh) (aa (gv 0) ag)))))) (gv 0) (vl [.fz (bC n (bc l)),.fz (aC t),.no,.no]) 0=.ok (.list (((dN n).filter λx=>lG l t.1 x).map int)) 0:=by
  refine bY (l:=dN n) (e:=int) (λx=>lG l t.1 x) int ?_ (by rw[cp];omega) λx hx=>⟨[.da (.int x),.da (aC t),.da (bC n (bc l))],rfl,?_,λ_=>rfl⟩
  ·rw[<-uc];exact dE (n:=n) el (by omega)
  ·have hx:=aU.mp hx
   have:=GH (gk (neg:=false) (fa:=gv 0) (fb:=f2 (gv 1) (cst (.int 0)) bh) (vs:=[.da (.int x),.da (aC t),.da (bC n (bc l))]) (β:=0) (i:=x) (j:=t.1) rfl rfl) (dI (aq (F:=Gf) (fr:=aa (gv 2) (aa (f2 (gv 1) (cst (.int 0)) bh) (aa (gv 0) ag))) (vs:=[.da (.int x),.da (aC t),.da (bC n (bc l))]) (β:=0) (ds:=[bC n (bc l),.int t.1,.int x]) rfl (IK h8 h.1 hx)))
   rw[this]
   congr 1
   unfold lG
   rw[OV O8]
   congr 1
   rw[P4];exact⟨Eq.symm,Eq.symm⟩
 rw[ay (env':=[.fz (bC n (bc l)),.fz (aC t),.fz (.list (((dN n).filter λx=>lG l t.1 x).map int)),.no]) (β':=0) (by rw[bB,ec];rfl)]
 have em:f2 (gv 0) (f2 (gv 1) (cst (.int 1)) bh) bh (vl [.fz (bC n (bc l)),.fz (aC t),.fz (.list (((dN n).filter λx=>lG l t.1 x).map int)),.no]) 0=.ok (mI (bc l t.2.toNat) n) 0:=by
  refine aF (x:=bC n (bc l)) (y:=.int t.2) rfl (aF rfl rfl rfl) ?_
  have:=Ef (n:=n) (M:=bc l) (b:=t.2.toNat) (by omega)
  rw[e2] at this
  exact this
 rw[ay (env':=[.fz (bC n (bc l)),.fz (aC t),.fz (.list (((dN n).filter λx=>lG l t.1 x).map int)),.fz (mI (fy (bc l t.2.toNat) t.2.toNat) n)]) (β':=0) (by
  rw[bB,aq (b:=false) (ds:=[mI (bc l t.2.toNat) n,.int (t.2.toNat:Int)]) (β1:=0) (ac em (ac (by rw[e2];rfl) an)) (uC h8 (by omega))];rfl)]
 have ed:aK 2 [2,3] (.two 0 1) (Gm (gv 0)) iB (Iu (dv (f2 (gv 0) (gv 2) (lW false))) (f2 (gv 1) (gv 3) Mp) (gv 1)) (vl [.fz (bC n (bc l)),.fz (aC t),.fz (.list (((dN n).filter λx=>lG l t.1 x).map int)),.fz (mI (fy (bc l t.2.toNat) t.2.toNat) n)]) 0=.ok (bC n (bc (putL n l t))) 0:=by
  unfold bC
  refine bI (l:=List.range n) (e:=λb=>.tuple [.int b,mI (bc l b) n]) (λb=>mI (bc (putL n l t) b) n) ?_ (by rw[Qb];omega) λb hb=>⟨[.da (.int b),.da (mI (bc l b) n),.da (.list (((dN n).filter λx=>lG l t.1 x).map int)),.da (mI (fy (bc l t.2.toNat) t.2.toNat) n)],rfl,?_⟩
  ·show R.ok (dz ((List.range n).map λb=>mI (bc l b) n)) 0=_
   congr 1
   unfold dz
   refine QD (by simp) λi h1 h2=>by simp
  ·have hbn:=PL.mp hb
   have hmem:decide ((b:Int)∈(dN n).filter λx=>lG l t.1 x)=lG l t.1 b:=by
    rw[Px,O5,OI]
    exact⟨λh=>h.2,λh=>⟨aU.mpr ⟨by omega,by omega⟩,h⟩⟩
   have et:dv (f2 (gv 0) (gv 2) (lW false)) [.da (.int b),.da (mI (bc l b) n),.da (.list (((dN n).filter λx=>lG l t.1 x).map int)),.da (mI (fy (bc l t.2.toNat) t.2.toNat) n)] 0=.ok (lG l t.1 b) 0:=by
    rw[<-hmem]
    exact dJ _ _ _ _ (aF (x:=.int b) (y:=.list (((dN n).filter λx=>lG l t.1 x).map int)) rfl rfl (v7 false b _))
   rw[Jq,et]
   show (if lG l t.1 b=true then _ else _)=_
   have key:∀a,a < n->bc (putL n l t) b a=(bc l b a || (lG l a t.2 && lG l t.1 b)):=λa ha=>by
    unfold bc
    rw[Px,O5,lO ⟨⟨by simp only;omega,by simp only;omega⟩,⟨by simp only;omega,by simp only;omega⟩⟩,Qd,O2,O5]
   by_cases c:lG l t.1 b=true
   ·rw[OO c]
    refine aF (x:=mI (bc l b) n) (y:=mI (fy (bc l t.2.toNat) t.2.toNat) n) rfl rfl ?_
    show some (int (Builtin.bitOr _ _))=_
    rw[uj,JL]
    unfold mI
    congr 3
    rw[mk_eq]
    intro a ha
    rw[key a ha,c,Bool.and_true]
    unfold fy lG bc
    rw[e2]
    congr 1
    rw[Bool.or_comm]
    congr 1
    rw[P4];omega
   ·rw[OV c]
    show R.ok (mI (bc l b) n) 0=_
    unfold mI
    congr 3
    rw[mk_eq]
    intro a ha
    rw[key a ha]
    have c:lG l t.1 b=false:=by simpa using c
    rw[c,Bool.and_false,Bool.or_false]
 rw[xm,ed];rfl
structure WP (r:SO)(Q:SO->Prop):Prop where
 out:Q r
section
variable {m m' m1 m2:SF}{env env1:En}{β β1 β2 z:Int}{Q:SO->Prop}{f fa fb:VF D}{t:VF Bool}{d e:D}{L La Lb:List Nat}{i j:Nat}{c:Bool}
def wp_at (env1:En)(e:env=env1)(k:WP (m env1 β) Q):WP (m env β) Q:=by rw[e];exact k
def wp_seq (h:m env β=.nx env1 β1)(k:WP (m' env1 β1) Q):WP (aG m m' env β) Q:=by rw[ay h];exact k
theorem oJ (h:WP (aG m lC env β) Q):WP (m env β) Q:=by
 obtain⟨h⟩:=h
 unfold aG at h
 cases e:m env β with
 |_=>rw[e] at h;exact⟨h⟩
def lr (q:Q (.nx env β)):WP (lC env β) Q:=⟨q⟩
def df (h:f (vl env) β=.ok d β1)(k:WP (m' ((a9 L env).set i (.fz d)) β1) Q):WP (aG (bg i L f) m' env β) Q:=wp_seq (by unfold bg;rw[h];rfl) k
def uJ (h:f (vl env) β=.ok d β1)(k:WP (m' ((a9 L env).set i (.ow d)) β1) Q):WP (aG (ic i L f) m' env β) Q:=wp_seq (by unfold ic;rw[h];rfl) k
def FE (h:f (vl env) β=.ok (.list [.int z]) β1)(k:WP (m' ((sQ (a9 L env)).set i .bx) z) Q):WP (aG (Aa i L f) m' env β) Q:=wp_seq (by unfold Aa;rw[h];rfl) k
def pW (h:f (vl env) β=.ok d β1)(k:WP (m' (a9 L env) β1) Q):WP (aG (lx L f) m' env β) Q:=wp_seq (by unfold lx;rw[h];rfl) k
def zh {ds:List D}(hi:env[i]? =some (.ow (.list ds)))(h:f (vl env) β=.ok d β1)(hL:(a9 L env)[i]? =some (.ow (.list ds)))(hz:ds.length<=1000)(k:WP (m' ((a9 L env).set i (.ow (.list (ds ++ [d])))) β1) Q):WP (aG (lF i L f) m' env β) Q:=wp_seq (nZ hi h hL hz) k
def nW (h:t (vl env) β=.ok false β1)(k:WP (m' (a9 L env) β1) Q):WP (aG (j4 L t m1 lC) m' env β) Q:=wp_seq (by rw[ji h];rfl) k
def pX (h:t (vl env) β=.ok true β1)(k:WP (aG m1 m' (a9 L env) β1) Q):WP (aG (j4 L t m1 m2) m' env β) Q:=by
 have:aG (j4 L t m1 m2) m' env β=aG m1 m' (a9 L env) β1:=by unfold aG;rw[ly h]
 rw[this];exact k
def GR (h:t (vl env) β=.ok true β1)(k:WP (m1 (a9 L env) β1) Q):WP (j4 L t m1 m2 env β) Q:=by rw[ly h];exact k
def Bw (h:t (vl env) β=.ok false β1)(k:WP (m2 (a9 L env) β1) Q):WP (j4 L t m1 m2 env β) Q:=by rw[ji h];exact k
def gJ (h:f (vl env) β=.ok d β1)(q:Q (.rt d false β1)):WP (bJ f env β) Q:=⟨by unfold bJ;rw[h];exact q⟩
def pN (h:f (vl env) β=.ok d β1)(q:Q (.rt d false β1)):WP (aG (bJ f) m' env β) Q:=⟨by unfold aG bJ;rw[h];exact q⟩
def vq (h:f (vl env) β=.ok d β1)(q:Q (.rt d true β1)):WP (km f env β) Q:=⟨by unfold km;rw[h];exact q⟩
def gi {R:FR}(h:WP (m env β) λr=>fin r=R):fin (m env β)=R:=h.out
def uw {t:Tg}{fi:VF (List D)}{ds:List D}(I:Nat->En->Int->Prop)(hi:fi (vl env) β=.ok ds β1)(h0:I 0 (a9 L env) β1)
  (hs:∀i d env β,ds[i]? =some d->I i env β->∃env1,fL t d env=some env1/\WP (m env1 β) λr=>∃env2 β2,r=.nx env2 β2/\I (i + 1) env2 β2)
  (k:∀env β,I ds.length env β->WP (m' env β) Q):WP (aG (cW t L fi m) m' env β) Q:=by
 obtain⟨env',β',e,h⟩:=gc (t:=t) (m:=m) I (ds:=ds) (k:=0) h0 λi d env β hd h=>by
  rw[P0] at h
  obtain⟨env1,e1,⟨env2,β2,e2,h2⟩⟩:=hs i d env β hd h
  exact⟨env1,e1,env2,β2,e2,by rw[P0];exact h2⟩
 rw[P0] at h
 exact wp_seq ((cB hi).trans e) (k _ _ h)
def DM {n:Nat}(I:Nat->En->Int->Prop)(Dn:En->Int->Prop)(b:Nat)(hb:b < n)(h0:I b env β)
  (hs:∀k env β,I k env β->∃c β1,t (vl env) β=.ok c β1/\((c=false/\Dn (a9 L env) β1)\/(c=true/\WP (m (a9 L env) β1) λr=>∃env2 β2 k',r=.nx env2 β2/\k' < k/\I k' env2 β2)))
  (k:∀env β,Dn env β->WP (m' env β) Q):WP (aG (gE L t m n) m' env β) Q:=by
 obtain⟨env',β',e,h⟩:=gG (L:=L) (t:=t) (m:=m) I Dn (n:=n) hb h0 λk env β h=>by
  obtain⟨c,β1,e1,h⟩:=hs k env β h
  refine⟨c,β1,e1,?_⟩
  rcases h with h | ⟨h1,⟨h2⟩⟩
  ·exact .inl h
  ·exact .inr ⟨h1,h2⟩
 exact wp_seq e (k _ _ h)
end
def Ep (c:Int)(hc:0<=c/\c<=100)(ns:List Int)(vs:List Nv)(β:Int)(h:gv 0 vs β=.ok (c6 ns) β):∃m:Nat,m<=101/\dM (f2 (cst (.int 1)) (f2 (f1 (gv 0) cP) (cst (.int c)) (v5 λi j=>.int (if j < i then j else i))) (v5 λi j=>.int (if j > i then j else i))) vs β=.ok (fX 0 m) β:=by
 have e1:f2 (cst (.int 1)) (f2 (f1 (gv 0) cP) (cst (.int c)) (v5 λi j=>.int (if j < i then j else i))) (v5 λi j=>.int (if j > i then j else i)) vs β=.ok (.int (if (if c < ((ns.map int).length:Int) then c else ((ns.map int).length:Int)) > 1 then (if c < ((ns.map int).length:Int) then c else ((ns.map int).length:Int)) else 1)) β:=
  aF (x:=.int 1) rfl (aF (x:=.int (ns.map int).length) (y:=.int c) (dZ h rfl) rfl rfl) rfl
 generalize ((ns.map int).length:Nat)=k at e1
 refine⟨(if (if c < (k:Int) then c else (k:Int)) > 1 then (if c < (k:Int) then c else (k:Int)) else 1).toNat,?_,dE (e1.trans ?_) ?_⟩
 ·split <;> split <;> omega
 ·congr 2
  split <;> split <;> omega
 ·split <;> split <;> omega
def It (d:D):Prop:=dY d=false/\Sq 400 8 d/\Bf d
def Th (d:D):Prop:=Ge d/\Sq 10000 9 d/\Bf d
def Ap (P:D->Prop)(k:Nat)(es:List D):Prop:=es.length<=k/\∀x,x∈es->P x
abbrev Al:Nat->List D->Prop:=Ap It
def EC.it {d:D}(h:EC d):It d:=⟨h.scr,h.sq.mono (by omega) (by omega),h.bf⟩
def JR {i:Int}(h: -1<=i/\i<=9):It (.int i):=(zZ h).it
def G8 {k:Nat}{r:List Int}(hl:r.length<=k)(h:∀x,x∈r->0<=x/\x < 9):Al k (r.map int):=⟨by rw[OK];exact hl,λx hx=>by
 obtain⟨y,hy,rfl⟩:=Pp.mp hx
 exact JR (by have:=h y hy;omega)⟩
def Ap.tup {k:Nat}{a:List D}(h:Al k a)(hk:k<=24):Th (.tuple a):=by
 have:=h.1
 refine⟨C3 (by omega) λx hx=>(h.2 x hx).1,(Eo (c:=400) (k:=8) λd hd=>(h.2 d hd).2.1).mono ?_ (by omega),Cm λd hd=>(h.2 d hd).2.2⟩
 have:(400 + 2) * a.length<=402 * 24:=Qf (by omega) (by omega)
 omega
def Jy {r:List Int}(hl:r.length<=9)(h:∀x,x∈r->0<=x/\x < 9):It (tupI r):=by
 have sm:∀d,d∈r.map int->EC d:=λd hd=>by
  obtain⟨y,hy,rfl⟩:=Pp.mp hd
  exact zZ (by have:=h y hy;omega)
 refine⟨rfl,(Eo (c:=20) (k:=0) λd hd=>(sm d hd).sq).mono ?_ (by omega),Cm λd hd=>(sm d hd).bf⟩
 rw[OK]
 have:(20 + 2) * r.length<=22 * 9:=Qf (by omega) hl
 omega
def Kv {n:Nat}{r:List Int}(h8:n<=8)(hp:r.Perm (dN n)):r.length=n/\∀x,x∈r->0<=x/\x < 9:=⟨by rw[hp.length_eq,cp],λx hx=>by have:=aU.mp (hp.mem_iff.mp hx);omega⟩
def Eg {ds:List D}{k:Nat}(h:k < ds.length):∃d,ds[k]? =some d/\d∈ds/\ki ds (k:Int)=some d:=⟨ds[k],OJ h,List.getElem_mem h,jz (OJ h)⟩
def Ko {fa fb:VF D}{vs:List Nv}{β β1 β2:Int}{a b:List D}(h1:fa vs β=.ok (.tuple a) β1)(h2:fb vs β1=.ok (.tuple b) β2)(hz:a.length + b.length<=1000):f2 fa fb oa vs β=.ok (.tuple (a ++ b)) β2:=aF h1 h2 (xy hz)
def Es {fa fb:VF D}{vs:List Nv}{β β1 β2:Int}{a b:List D}(h1:fa vs β=.ok (.list a) β1)(h2:fb vs β1=.ok (.list b) β2)(hz:a.length + b.length<=1000):f2 fa fb l0 vs β=.ok (.list (a ++ b)) β2:=aF h1 h2 (pV (by omega))
def N6 {fa:VF D}{vs:List Nv}{β:Int}{i:Nat}(h:fa vs β=.ok (.int (i:Nat)) β):f2 fa (cst (.int 1)) cJ vs β=.ok (.int ((i + 1:Nat):Int)) β:=aF h rfl (by show some (int ((i:Int) + 1))=_;rw[show ((i + 1:Nat):Int)=(i:Int) + 1 by omega])
section
variable {m m' m1 m2:SF}{env env1:En}{β β1 β2 z:Int}{Q:SO->Prop}{f fa fb:VF D}{t:VF Bool}{d e:D}{L La Lb:List Nat}{i j:Nat}{c:Bool}
theorem Hg (h:WP (m env β) λr=>(∀a b,r≠.nx a b)/\Q r):WP (aG m m' env β) Q:=by
 obtain⟨h1,h2⟩:=h.out
 refine⟨?_⟩
 unfold aG
 cases e:m env β with
 |nx a b=>exact absurd e (h1 a b)
 |_=>rw[e] at h2;exact h2
end
def Ig (d:D):Prop:=Ge d/\Sq 400 8 d/\Bf d
def IT {r:List Int}(hl:r.length<=9)(h:∀x,x∈r->0<=x/\x < 9):Ig (tupI r):=⟨(G8 (k:=9) hl h).tup (by omega) |>.1,(Jy hl h).2⟩
def qe (l:List Pr)(p q:Pr):Bool:=decide (p.1=q.2) || decide ((p.1,q.2)∈l)
def Fg:List D->FR:=aR 3 3 kY
theorem LA (n:Nat)(l:List Pr)(p q:Pr):Fg [ao n l,aC p,aC q]=.ok (.bool (qe l p q)) false:=by
 show fin (kY [.fz (ao n l),.fz (aC p),.fz (aC q)] 0)=_
 unfold kY
 have i0:f2 (gv 1) (cst (.int 0)) bh (vl [.fz (ao n l),.fz (aC p),.fz (aC q)]) 0=.ok (.int p.1) 0:=aF (x:=aC p) (y:=.int 0) rfl rfl rfl
 have i1:f2 (gv 2) (cst (.int 1)) bh (vl [.fz (ao n l),.fz (aC p),.fz (aC q)]) 0=.ok (.int q.2) 0:=aF (x:=aC q) (y:=.int 1) rfl rfl rfl
 have e1:f2 (f2 (gv 1) (cst (.int 0)) bh) (f2 (gv 2) (cst (.int 1)) bh) (eh false) (vl [.fz (ao n l),.fz (aC p),.fz (aC q)]) 0=.ok (.bool (decide (p.1=q.2))) 0:=aF i0 i1 (mC false p.1 q.2)
 have e2:f2 (cC (aa (f2 (gv 1) (cst (.int 0)) bh) (aa (f2 (gv 2) (cst (.int 1)) bh) ag))) (f2 (gv 0) (cst (.int 1)) bh) (lW false) (vl [.fz (ao n l),.fz (aC p),.fz (aC q)]) 0=.ok (.bool (decide ((p.1,q.2)∈l))) 0:=aF (x:=aC (p.1,q.2)) (eQ i0 i1) (Hx (n:=n) (l:=l) rfl) (oq false (p.1,q.2) l)
 rw[dw]
 unfold qe
 cases c:decide (p.1=q.2) with
 |true=>rw[c] at e1;rw[MO e1];rfl
 |false=>rw[c] at e1;rw[MK e1 e2];rfl
def LK (l:List Pr)(ps:List Pr):Bool:=(List.range ps.length).all λi=>qe l (ps.getD (if i=0 then ps.length - 1 else i - 1) (0,0)) (ps.getD i (0,0))
def Gp {i:Nat}{L:List Nat}{f:VF D}{env:En}{β β':Int}{ds es:List D}(hi:env[i]? =some (.ow (.list ds)))(hf:f (vl env) β=.ok (.list es) β')(hL:(a9 L env)[i]? =some (.ow (.list ds)))(hz:ds.length + es.length<=10000) :
  A4 i L f env β=.nx ((a9 L env).set i (.ow (.list (ds ++ es)))) β':=by
 unfold A4
 rw[OO (by rw[hi];rfl),hf]
 exact uZ hL (OO (by rw[PJ];omega))
def putAll (n:Nat)(l:List Pr)(put:List Pr):List Pr:=put.foldl (putL n) l
theorem qK {n:Nat}{U:Int->Prop}:∀{put l:List Pr},(∀u v,(u,v)∈l->U u->U v)->(∀t,t∈put->U t.2->U t.1)->∀u v,(u,v)∈putAll n l put->U u->U v
 | [],l,h0,_=>h0
 |t :: put,l,h0,h1=>by
  have q:∀u v,lG l u v=true->U u->U v:=λu v h hu=>by
   rcases fk.mp h with rfl |h
   ·exact hu
   ·exact h0 _ _ h hu
  refine qK (put:=put) (l:=putL n l t) (λu v h hu=>?_) (λx hx=>h1 x (OS _ hx))
  rcases m9 h with h | ⟨a,b⟩
  ·exact h0 _ _ h hu
  ·exact q _ _ b (h1 t (OU ..) (q _ _ a hu))
def Mq (l:List Pr)(p:List Pr):Prop:=∀i a b,p[i]? =some a->p[i + 1]? =some b->qe l a b=true
structure RI (l put:List Pr)(t:Pr)(ph:List (List Pr))(left:List Pr)(at':Nat):Prop where
 pth:∀p,p∈ph->∃q,p=t :: q/\(∀x,x∈q->x∈put/\¬x∈left)/\p.Nodup/\Mq l p
 lft:∀x,x∈left->x∈put
 rch:∀x,x∈put->x∈left\/∃p,p∈ph/\p.getLast? =some x
 fst:∃p,p∈ph/\p.getLast? =some t
 old:∀i p s,i < at'->ph[i]? =some p->p.getLast? =some s->qe l s t=false/\∀x,x∈left->qe l s x=false
 cnt:ph.length + left.length=put.length + 1
 le:at'<=ph.length
def RI.lt {n:Nat}{l put:List Pr}{t:Pr}{ph:List (List Pr)}{left:List Pr}{k:Nat}(R:RI l put t ph left k)(O:OM.Ord n l)(hb:t∈putAll n l put):k < ph.length:=by
 apply Classical.byContradiction
 intro hn
 have hk:k=ph.length:=by have:=R.le;omega
 have idx:∀p,p∈ph->∃i:Nat,i < k/\ph[i]? =some p:=λp hp=>by
  obtain⟨i,hi⟩:=PV.mp hp
  exact⟨i,by rw[hk];exact (OQ.mp hi).1,hi⟩
 have key:=qK (n:=n) (U:=λx=>∃s:Pr,(∃p,p∈ph/\p.getLast? =some s)/\lG l s.1 x=true) (put:=put) (l:=l) (by
  rintro u v h ⟨s,hs,hl⟩
  exact⟨s,hs,vG O hl (fk.mpr (.inr h))⟩) (by
  rintro x hx ⟨s,⟨p,hp,hs⟩,hl⟩
  rcases R.rch x hx with h |h
  ·obtain⟨i,hi,hpi⟩:=idx p hp
   have h2:qe l s x=false:=(R.old i p s hi hpi hs).2 x h
   have hl:qe l s x=true:=hl
   rw[h2] at hl;cases hl
  ·exact⟨x,h,fk.mpr (.inl rfl)⟩) t.1 t.2 hb ⟨t,R.fst,fk.mpr (.inl rfl)⟩
 obtain⟨s,⟨p,hp,hs⟩,hl⟩:=key
 obtain⟨i,hi,hpi⟩:=idx p hp
 have h2:qe l s t=false:=(R.old i p s hi hpi hs).1
 have hl:qe l s t=true:=hl
 rw[h2] at hl;cases hl
theorem Af {α:Type}(f:α->Bool):∀L:List α,(L.filter f).length + (L.filter λx=> !f x).length=L.length
 | []=>rfl
 |x :: L=>by
  have:=Af f L
  cases h:f x <;> simp[List.filter_cons,h] <;> omega
def Gz {l p:List Pr}{s x:Pr}(h:Mq l p)(hs:p.getLast? =some s)(hx:qe l s x=true):Mq l (p ++ [x]):=by
 intro i a b ha hb
 have hl:p≠ []:=λe=>by rw[e] at hs;cases hs
 have hpos:=List.length_pos_iff.mpr hl
 by_cases c:i + 1 < p.length
 ·rw[Pg (by omega)] at ha
  rw[Pg c] at hb
  exact h i a b ha hb
 ·by_cases d:i + 1=p.length
  ·rw[Pg (by omega)] at ha
   rw[Pj (by omega),d,Nat.sub_self] at hb
   cases hb
   rw[Ra,show p.length - 1=i by omega,ha] at hs
   cases hs
   exact hx
  ·rw[Ql (by rw[OX,Pe];omega)] at hb
   cases hb
def RI.step {l put:List Pr}{t s:Pr}{ph:List (List Pr)}{left p fr:List Pr}{k:Nat}(R:RI l put t ph left k)(htp:¬t∈put)(hp:ph[k]? =some p)(hs:p.getLast? =some s)(hst:qe l s t=false)(hfr:left.filter (λx=>qe l s x)=fr):RI l put t (ph ++ fr.map λx=>p ++ [x]) (left.filter λx=> !decide (x∈fr)) (k + 1):=by
 have hpm:p∈ph:=PV.mpr ⟨k,hp⟩
 have hk:k < ph.length:=(OQ.mp hp).1
 have mfr:∀x,x∈fr↔x∈left/\qe l s x=true:=λx=>by rw[<-hfr];exact OI
 have mlf:∀x,x∈(left.filter λx=> !decide (x∈fr))↔x∈left/\¬x∈fr:=λx=>by rw[OI];simp
 refine⟨λr hr=>?_,λx hx=>R.lft x ((mlf x).mp hx).1,λx hx=>?_,?_,λi r s' hi hr hs'=>?_,?_,?_⟩
 ·rcases O4.mp hr with hr |hr
  ·obtain⟨q,e,h1,h2,h3⟩:=R.pth r hr
   exact⟨q,e,λx hx=>⟨(h1 x hx).1,λhm=>(h1 x hx).2 ((mlf x).mp hm).1⟩,h2,h3⟩
  ·obtain⟨x,hx,rfl⟩:=Pp.mp hr
   obtain⟨q,e,h1,h2,h3⟩:=R.pth p hpm
   have hxf:=(mfr x).mp hx
   refine⟨q ++ [x],by rw[e];rfl,λy hy=>?_,?_,Gz h3 hs hxf.2⟩
   ·rcases O4.mp hy with hy |hy
    ·exact⟨(h1 y hy).1,λhm=>(h1 y hy).2 ((mlf y).mp hm).1⟩
    ·rw[O3] at hy;subst hy
     exact⟨R.lft _ hxf.1,λhm=>((mlf _).mp hm).2 hx⟩
   ·refine QX.mpr ⟨h2,by simp,λa ha b hb eab=>?_⟩
    rw[O3] at hb;subst hb;subst eab
    rw[e] at ha
    rcases OR.mp ha with rfl |ha
    ·exact htp (R.lft _ hxf.1)
    ·exact (h1 _ ha).2 hxf.1
 ·rcases R.rch x hx with h | ⟨r,h1,h2⟩
  ·by_cases c:x∈fr
   ·exact .inr ⟨p ++ [x],O4.mpr (.inr (Pp.mpr ⟨x,c,rfl⟩)),by simp⟩
   ·exact .inl ((mlf x).mpr ⟨h,c⟩)
  ·exact .inr ⟨r,O4.mpr (.inl h1),h2⟩
 ·obtain⟨r,h1,h2⟩:=R.fst
  exact⟨r,O4.mpr (.inl h1),h2⟩
 ·rw[Pg (by omega)] at hr
  by_cases c:i=k
  ·subst c
   rw[hp] at hr;cases hr
   rw[hs] at hs';cases hs'
   refine⟨hst,λx hx=>?_⟩
   obtain⟨a,b⟩:=(mlf x).mp hx
   cases z:qe l s x with
   |false=>rfl
   |true=>exact absurd ((mfr x).mpr ⟨a,z⟩) b
  ·obtain⟨a,b⟩:=R.old i r s' (by omega) hr hs'
   exact⟨a,λx hx=>b x ((mlf x).mp hx).1⟩
 ·have h1:=Af (λx=>qe l s x) left
  have h2:(left.filter λx=> !decide (x∈fr))=left.filter λx=> !qe l s x:=Qz λx hx=>by
   congr 1
   rw[Px,O5,mfr x]
   exact⟨λh=>h.2,λh=>⟨hx,h⟩⟩
  rw[h2,OX,OK,<-hfr]
  have:=R.cnt
  omega
 ·rw[OX];omega
theorem zt:∀{q put:List Pr},q.Nodup->(∀x,x∈q->x∈put)->q.length<=put.length
 | [],_,_,_=>PX _
 |x :: q,put,nd,h=>by
  have nd:=PR.mp nd
  have hx:=h x (OU ..)
  have:=zt (q:=q) (put:=put.erase x) nd.2 λy hy=>(List.mem_erase_of_ne (λe=>nd.1 (by rw[<-e];exact hy))).mpr (h y (OS _ hy))
  rw[Rh hx] at this
  have:=List.length_pos_of_mem hx
  rw[Pf];omega
abbrev pD (p:List Pr):D:=.list (p.map aC)
def Cq {fs:List Pr}{s:Pr}(h:fs.getLast? =some s):ki (fs.map aC) (-1)=some (aC s):=by
 have hl:fs≠ []:=λe=>by rw[e] at h;cases h
 have hpos:=List.length_pos_iff.mpr hl
 unfold ki tD
 rw[OV (by omega),OO (by simp;omega)]
 show (fs.map aC)[((-1:Int) + (((fs.map aC).length:Nat):Int)).toNat]? =_
 rw[show ((-1:Int) + (((fs.map aC).length:Nat):Int)).toNat=fs.length - 1 by simp;omega,OW,<-Ra,h];rfl
def An {ph:List (List Pr)}{p:List Pr}{k:Nat}(h:ph[k]? =some p):ki (ph.map pD) (k:Int)=some (pD p):=by
 have hk:k < ph.length:=(OQ.mp h).1
 rw[iO,nr hk]
 have:ph[k]=p:=by rw[OJ hk] at h;exact Option.some.inj h
 rw[this];rfl
noncomputable def Kk:List D->FR:=aR 7 3 (jA Fg)
def JN {l p:List Pr}{s:Pr}(h:Mq l p)(hs:p.getLast? =some s){t:Pr}{q:List Pr}(e:p=t :: q)(hst:qe l s t=true):LK l p=true:=by
 unfold LK
 rw[O9]
 intro i hi
 have hi:=PL.mp hi
 by_cases c:i=0
 ·subst c
  rw[OO rfl,Pa,<-Ra,hs,e]
  exact hst
 ·rw[OV c]
  refine h (i - 1) _ _ ?_ ?_
  ·rw[Pa,OJ (by omega)];rfl
  ·rw[show i - 1 + 1=i by omega,Pa,OJ hi];rfl
def NG {n:Nat}{l put:List Pr}{t:Pr}(O:OM.Ord n l)(hz:put.length<=100)(htp:¬t∈put)(hb:t∈putAll n l put):∃r,Kk [ao n l,.tuple (put.map aC),aC t]=.ok (.list (r.map aC)) false/\(∀x,x∈r->x=t\/x∈put)/\r.Nodup/\r≠ []/\LK l r=true:=by
 show ∃r,fin (jA Fg [.fz (ao n l),.fz (.tuple (put.map aC)),.fz (aC t),.no,.no,.no,.no] 0)=_/\_
 unfold jA
 rw[ay (env':=[.fz (ao n l),.fz (.tuple (put.map aC)),.fz (aC t),.ow (.list ([[t]].map pD)),.no,.no,.no]) (β':=0) (by
  rw[ia,lp (ds:=[pD [t]]) (ac (lp (ds:=[aC t]) (ac rfl an)) an)];rfl)]
 rw[ay (env':=[.fz (ao n l),.fz (.tuple (put.map aC)),.fz (aC t),.ow (.list ([[t]].map pD)),.fz (.tuple (put.map aC)),.no,.no]) (β':=0) (by rfl)]
 rw[ay (env':=[.fz (ao n l),.fz (.tuple (put.map aC)),.fz (aC t),.ow (.list ([[t]].map pD)),.fz (.tuple (put.map aC)),.fz (.int ((0:Nat):Int)),.no]) (β':=0) (by rfl)]
 obtain⟨env',β',ew,ph,left,k,p,s,s6,x4,rfl,rfl,R,hp,hs,hst⟩:=gG (L:=[0] ++ ((([] ++ []) ++ []) ++ ([2] ++ []))) (t:=oz (gu (ai Fg (aa (gv 0) (aa (f2 (f2 (gv 3) (gv 5) bh) (f1 (cst (.int 1)) nQ) bh) (aa (gv 2) ag))))))
  (m:=aG (bg 6 ([] ++ [0]) (aK 1 [0,3,5] (.nm 0) (ba (gv 4)) (gu (ai Fg (aa (gv 1) (aa (f2 (f2 (gv 2) (gv 3) bh) (f1 (cst (.int 1)) nQ) bh) (aa (gv 0) ag))))) (gv 0)))
   (aG (bg 4 ([] ++ []) (aK 1 [6] (.nm 0) (ba (gv 4)) (dv (f2 (gv 0) (gv 1) (lW true))) (gv 0)))
   (aG (A4 3 ([] ++ []) (aK 1 [3,5] (.nm 0) (ba (gv 6)) iB (f2 (f2 (gv 1) (gv 2) bh) (cy (aa (gv 0) ag)) l0)))
   (bg 5 ([] ++ []) (f2 (gv 5) (cst (.int 1)) cJ)))))
  (λm env b=>∃ph left k s6,∃q4:List D->D,(q4=PyData.list\/q4=PyData.tuple)/\env= [.fz (ao n l),.fz (.tuple (put.map aC)),.fz (aC t),.ow (.list (ph.map pD)),.fz (q4 (left.map aC)),.fz (.int ((k:Nat):Int)),s6]/\b=0/\RI l put t ph left k/\m=put.length + 1 - k)
  (λenv b=>∃ph left k p s s6 x4,env= [.fz (ao n l),.fz (.tuple (put.map aC)),.fz (aC t),.ow (.list (ph.map pD)),.fz x4,.fz (.int ((k:Nat):Int)),s6]/\b=0/\RI l put t ph left k/\ph[k]? =some p/\p.getLast? =some s/\qe l s t=true)
  (n:=1000) (k:=put.length + 1) (env:=[.fz (ao n l),.fz (.tuple (put.map aC)),.fz (aC t),.ow (.list ([[t]].map pD)),.fz (.tuple (put.map aC)),.fz (.int ((0:Nat):Int)),.no]) (β:=0) (by omega)
  ⟨[[t]],put,0,.no,PyData.tuple,.inr rfl,rfl,rfl,⟨λp hp=>by
    rw[O3] at hp;subst hp
    exact⟨[],rfl,(λx hx=>by cases hx),by simp,(λi a b _ hb=>by simp at hb)⟩,λx hx=>hx,λx hx=>.inl hx,⟨[t],by simp,rfl⟩,λi p s hi=>by omega,by simp;omega,by omega⟩,by omega⟩ (by
   rintro m env b ⟨ph,left,k,s6,q4,h4,rfl,rfl,R,rfl⟩
   have hk:=R.lt O hb
   obtain⟨p,hp⟩:∃p,ph[k]? =some p:=⟨_,OJ hk⟩
   have hpm:p∈ph:=PV.mpr ⟨k,hp⟩
   obtain⟨q,eq,hq,hnd,hch⟩:=R.pth p hpm
   obtain⟨s,hs⟩:∃s,p.getLast? =some s:=⟨_,List.getLast?_eq_some_getLast (by rw[eq];exact List.cons_ne_nil _ _)⟩
   have hcnt:=R.cnt
   have hpl:p.length<=put.length + 1:=by
    have h1:q.length<=put.length:=by
     rw[eq] at hnd
     exact zt (PR.mp hnd).2 λx hx=>(hq x hx).1
    rw[eq,Pf];omega
   have el:∀s6:Sl,f2 (f2 (gv 3) (gv 5) bh) (f1 (cst (.int 1)) nQ) bh (vl [.fz (ao n l),.fz (.tuple (put.map aC)),.fz (aC t),.ow (.list (ph.map pD)),.fz (q4 (left.map aC)),.fz (.int ((k:Nat):Int)),s6]) 0=.ok (aC s) 0:=λs6=>aF (x:=pD p) (y:=.int (-1)) (aF (x:=.list (ph.map pD)) (y:=.int k) rfl rfl (An hp)) rfl (Cq hs)
   have et:oz (gu (ai Fg (aa (gv 0) (aa (f2 (f2 (gv 3) (gv 5) bh) (f1 (cst (.int 1)) nQ) bh) (aa (gv 2) ag))))) (vl [.fz (ao n l),.fz (.tuple (put.map aC)),.fz (aC t),.ow (.list (ph.map pD)),.fz (q4 (left.map aC)),.fz (.int ((k:Nat):Int)),s6]) 0=.ok (!qe l s t) 0:=eB (dI (aq (F:=Fg) (ds:=[ao n l,aC s,aC t]) (b:=false) (ac rfl (ac (el s6) (ac rfl an))) (LA n l s t)))
   refine⟨_,_,et,?_⟩
   cases hst:qe l s t with
   |true=>exact .inl ⟨rfl,ph,left,k,p,s,s6,_,rfl,rfl,R,hp,hs,hst⟩
   |false=>
    refine .inr ⟨rfl,?_⟩
    show ∃env2 β2 k',aG _ _ [.fz (ao n l),.fz (.tuple (put.map aC)),.fz (aC t),.ow (.list (ph.map pD)),.fz (q4 (left.map aC)),.fz (.int ((k:Nat):Int)),s6] 0=.nx env2 β2/\k' < put.length + 1 - k/\_
    generalize hfr:left.filter (λx=>qe l s x)=fr
    have hfl:fr.length<=left.length:=by rw[<-hfr];exact PF _ _
    have e6:aK 1 [0,3,5] (.nm 0) (ba (gv 4)) (gu (ai Fg (aa (gv 1) (aa (f2 (f2 (gv 2) (gv 3) bh) (f1 (cst (.int 1)) nQ) bh) (aa (gv 0) ag))))) (gv 0) (vl [.fz (ao n l),.fz (.tuple (put.map aC)),.fz (aC t),.ow (.list (ph.map pD)),.fz (q4 (left.map aC)),.fz (.int ((k:Nat):Int)),s6]) 0=.ok (.list (fr.map aC)) 0:=by
     rw[<-hfr]
     refine bY (l:=left) (e:=aC) (λx=>qe l s x) aC (by rcases h4 with h4 |h4 <;> rw[h4] <;> rfl) (by omega) λx hx=>⟨[.da (aC x),.da (ao n l),.da (.list (ph.map pD)),.da (.int ((k:Nat):Int))],rfl,?_,λ_=>rfl⟩
     have e2:f2 (f2 (gv 2) (gv 3) bh) (f1 (cst (.int 1)) nQ) bh [.da (aC x),.da (ao n l),.da (.list (ph.map pD)),.da (.int ((k:Nat):Int))] 0=.ok (aC s) 0:=aF (x:=pD p) (y:=.int (-1)) (aF (x:=.list (ph.map pD)) (y:=.int k) rfl rfl (An hp)) rfl (Cq hs)
     exact dI (aq (F:=Fg) (ds:=[ao n l,aC s,aC x]) (b:=false) (ac rfl (ac e2 (ac rfl an))) (LA n l s x))
    rw[ay (env':=[.fz (ao n l),.fz (.tuple (put.map aC)),.fz (aC t),.ow (.list (ph.map pD)),.fz (q4 (left.map aC)),.fz (.int ((k:Nat):Int)),.fz (.list (fr.map aC))]) (β':=0) (by rw[bB,e6];rfl)]
    have e4:aK 1 [6] (.nm 0) (ba (gv 4)) (dv (f2 (gv 0) (gv 1) (lW true))) (gv 0) (vl [.fz (ao n l),.fz (.tuple (put.map aC)),.fz (aC t),.ow (.list (ph.map pD)),.fz (q4 (left.map aC)),.fz (.int ((k:Nat):Int)),.fz (.list (fr.map aC))]) 0=.ok (.list ((left.filter λx=> !decide (x∈fr)).map aC)) 0:=by
     refine bY (l:=left) (e:=aC) (λx=> !decide (x∈fr)) aC (by rcases h4 with h4 |h4 <;> rw[h4] <;> rfl) (by omega) λx hx=>⟨_,rfl,?_,λ_=>rfl⟩
     exact dJ _ _ _ _ (aF (x:=aC x) (y:=.list (fr.map aC)) rfl rfl (Gg true x fr))
    have R':=R.step htp hp hs hst hfr
    generalize hlf:(left.filter λx=> !decide (x∈fr))=left' at e4 R'
    rw[ay (env':=[.fz (ao n l),.fz (.tuple (put.map aC)),.fz (aC t),.ow (.list (ph.map pD)),.fz (.list (left'.map aC)),.fz (.int ((k:Nat):Int)),.fz (.list (fr.map aC))]) (β':=0) (by rw[bB,e4];rfl)]
    have e3:aK 1 [3,5] (.nm 0) (ba (gv 6)) iB (f2 (f2 (gv 1) (gv 2) bh) (cy (aa (gv 0) ag)) l0) (vl [.fz (ao n l),.fz (.tuple (put.map aC)),.fz (aC t),.ow (.list (ph.map pD)),.fz (.list (left'.map aC)),.fz (.int ((k:Nat):Int)),.fz (.list (fr.map aC))]) 0=.ok (.list ((fr.map λx=>p ++ [x]).map pD)) 0:=by
     rw[Q0]
     refine bI (l:=fr) (e:=aC) (λx=>pD (p ++ [x])) rfl (by omega) λx hx=>⟨[.da (aC x),.da (.list (ph.map pD)),.da (.int ((k:Nat):Int))],rfl,?_⟩
     refine aF (x:=pD p) (y:=.list [aC x]) (aF (x:=.list (ph.map pD)) (y:=.int k) rfl rfl (An hp)) (lp (ds:=[aC x]) (ac rfl an)) ?_
     rw[pV (by rw[OK,Pe];omega)]
     show some (PyData.list (p.map aC ++ [x].map aC))=_
     rw[<-Pq]
    rw[ay (env':=[.fz (ao n l),.fz (.tuple (put.map aC)),.fz (aC t),.ow (.list ((ph ++ fr.map λx=>p ++ [x]).map pD)),.fz (.list (left'.map aC)),.fz (.int ((k:Nat):Int)),.fz (.list (fr.map aC))]) (β':=0) ?g3]
    case g3=>
     rw[Gp (i:=3) (ds:=ph.map pD) (by rfl) e3 (by rfl) (by rw[OK,OK,OK];omega),<-Pq];rfl
    refine⟨[.fz (ao n l),.fz (.tuple (put.map aC)),.fz (aC t),.ow (.list ((ph ++ fr.map λx=>p ++ [x]).map pD)),.fz (.list (left'.map aC)),.fz (.int ((k + 1:Nat):Int)),.fz (.list (fr.map aC))],0,put.length + 1 - (k + 1),?_,by omega,_,_,_,_,PyData.list,.inl rfl,rfl,rfl,R',rfl⟩
    rw[show ((k + 1:Nat):Int)=(k:Int) + 1 by omega];rfl)
 obtain⟨q,eq,hq,hnd,hch⟩:=R.pth p (PV.mpr ⟨k,hp⟩)
 refine⟨p,?_,λx hx=>?_,hnd,by rw[eq];exact List.cons_ne_nil _ _,JN hch hs eq hst⟩
 ·rw[ay ew,dw,aF (x:=.list (ph.map pD)) (y:=.int k) (d:=pD p) (β1:=0) (β2:=0) rfl rfl (An hp)];rfl
 ·rw[eq] at hx
  rcases OR.mp hx with h |h
  ·exact .inl h
  ·exact .inr (hq x h).1
def xM (l:List Pr)(p:Pr):Bool:=((l.filter λq=>decide (q.2=p.1)).all λq=>decide ((q.1,p.2)∈l)) && ((l.filter λq=>decide (q.1=p.2)).all λq=>decide ((p.1,q.2)∈l))
def vC:List D->FR:=aR 4 3 kF
theorem E6 {n:Nat}{l:List Pr}(hl:l.length<=1000)(a b:Int):vC [ao n l,.int a,.int b]=.ok (.bool (xM l (a,b))) false:=by
 show fin (kF [.fz (ao n l),.fz (.int a),.fz (.int b),.no] 0)=_
 unfold kF
 rw[ay (env':=[.fz (ao n l),.fz (.int a),.fz (.int b),.fz (.tuple (l.map aC))]) (β':=0) (by rfl)]
 have e1:aK 2 [1,2,3] (.two 0 1) (ba (gv 3)) (dv (f2 (gv 1) (gv 2) (eh false))) (f2 (cC (aa (gv 0) (aa (gv 3) ag))) (gv 4) (lW false)) [.da (ao n l),.da (.int a),.da (.int b),.da (.tuple (l.map aC))] 0=.ok (.list ((l.filter λq=>decide (q.2=a)).map λq=>PyData.bool (decide ((q.1,b)∈l)))) 0:=
  bY (l:=l) (e:=aC) (λq=>decide (q.2=a)) (λq=>PyData.bool (decide ((q.1,b)∈l))) rfl hl λq hq=>⟨_,rfl,gk (neg:=false) (i:=q.2) (j:=a) rfl rfl,λ_=>aF (eQ (a:=q.1) (b:=b) rfl rfl) rfl (oq false (q.1,b) l)⟩
 have e2:aK 2 [2,1,3] (.two 0 1) (ba (gv 3)) (dv (f2 (gv 0) (gv 2) (eh false))) (f2 (cC (aa (gv 3) (aa (gv 1) ag))) (gv 4) (lW false)) [.da (ao n l),.da (.int a),.da (.int b),.da (.tuple (l.map aC))] 0=.ok (.list ((l.filter λq=>decide (q.1=b)).map λq=>PyData.bool (decide ((a,q.2)∈l)))) 0:=
  bY (l:=l) (e:=aC) (λq=>decide (q.1=b)) (λq=>PyData.bool (decide ((a,q.2)∈l))) rfl hl λq hq=>⟨_,rfl,gk (neg:=false) (i:=q.1) (j:=b) rfl rfl,λ_=>aF (eQ (a:=a) (b:=q.2) rfl rfl) rfl (oq false (a,q.2) l)⟩
 have t1:oz (gu (f1 (aK 2 [1,2,3] (.two 0 1) (ba (gv 3)) (dv (f2 (gv 1) (gv 2) (eh false))) (f2 (cC (aa (gv 0) (aa (gv 3) ag))) (gv 4) (lW false))) (bo λbs=>bs.all id))) (vl [.fz (ao n l),.fz (.int a),.fz (.int b),.fz (.tuple (l.map aC))]) 0=.ok (!((l.filter λq=>decide (q.2=a)).all λq=>decide ((q.1,b)∈l))) 0:=eB (dI (y7 e1))
 unfold xM
 dsimp only
 cases c:((l.filter λq=>decide (q.2=a)).all λq=>decide ((q.1,b)∈l)) with
 |false=>
  rw[c] at t1
  rw[hW (d:=.bool false) (b:=false) (β':=0) ?g]
  case g=>rw[ly t1];rfl
  rfl
 |true=>
  rw[c] at t1
  rw[ay (env':=[.fz (ao n l),.fz (.int a),.fz (.int b),.fz (.tuple (l.map aC))]) (β':=0) ?g]
  case g=>rw[ji t1];rfl
  rw[dw]
  show fin (toS (f1 (aK 2 [2,1,3] (.two 0 1) (ba (gv 3)) (dv (f2 (gv 0) (gv 2) (eh false))) (f2 (cC (aa (gv 3) (aa (gv 1) ag))) (gv 4) (lW false))) (bo λbs=>bs.all id) [.da (ao n l),.da (.int a),.da (.int b),.da (.tuple (l.map aC))] 0) _)=_
  rw[y7 e2];rfl
noncomputable def uS:List D->FR:=aR 1 1 (mV rk vC)
def Dw {n:Nat}{l:List Pr}(O:OM.Ord n l):uS [ao n l]=.ok (.list (((m8 n l).filter (xM l)).map aC)) true:=by
 have hl:=n8 O
 have e:aK 2 [0] (.two 0 1) (ba (ai rk (aa (gv 0) ag))) (gu (ai vC (aa (gv 2) (aa (gv 0) (aa (gv 1) ag))))) (cC (aa (gv 0) (aa (gv 1) ag))) [.da (ao n l)] 0=.ok (.list (((m8 n l).filter (xM l)).map aC)) 0:=by
  have hi:ba (ai rk (aa (gv 0) ag)) [.da (ao n l)] 0=.ok ((m8 n l).map aC) 0:=by
   unfold ba
   rw[aq (ds:=[ao n l]) rfl (FA O)];rfl
  exact bY (l:=m8 n l) (e:=aC) (xM l) aC hi (by have:=Gr (l:=l) O.hi;omega) λp hp=>⟨_,rfl,dI (aq (ds:=[ao n l,.int p.1,.int p.2]) rfl (E6 (by omega) p.1 p.2)),λ_=>eQ rfl rfl⟩
 show fin (toS (aK 2 [0] (.two 0 1) (ba (ai rk (aa (gv 0) ag))) (gu (ai vC (aa (gv 2) (aa (gv 0) (aa (gv 1) ag))))) (cC (aa (gv 0) (aa (gv 1) ag))) [.da (ao n l)] 0) _)=_
 rw[e];rfl
def jn (n:Nat)(l put:List Pr)(t:Pr):putAll n l (put ++ [t])=putL n (putAll n l put) t:=by unfold putAll;rw[List.foldl_append];rfl
theorem vI {n:Nat}:∀{put l:List Pr} {p:Pr},((0<=p.1/\p.1 < n)/\(0<=p.2/\p.2 < n))->p∈l->p∈putAll n l put
 | [],l,p,_,h=>h
 |t :: put,l,p,hr,h=>vI (put:=put) (l:=putL n l t) hr ((lO hr).mpr (.inl h))
def EX {n:Nat}{l:List Pr}{r:List Int}{t:Pr}(hR:Row n l r)(h:r.idxOf t.2 < r.idxOf t.1):Row n (putL n l t) r:=by
 refine⟨hR.1,?_⟩
 have hf:=hR.2
 unfold sx at hf ⊢
 rw[O9] at hf ⊢
 intro p hp
 have q:∀x y:Int,lG l x y=true->r.idxOf x<=r.idxOf y:=λx y hxy=>by
  rcases fk.mp hxy with e |hm
  ·rw[e];exact ON _
  ·exact QE (Po (hf _ hm))
 rcases m9 hp with hm | ⟨a,b⟩
 ·exact hf p hm
 ·have:=q _ _ a
  have:=q _ _ b
  exact OP (by omega)
def ur {n:Nat}{l:List Pr}{r:List Int}{p:Pr}(hR:Row n l r)(h:p∈l):r.idxOf p.1 < r.idxOf p.2:=by
 have hf:=hR.2
 unfold sx at hf
 exact Po (O9.mp hf p h)
structure Pt (n:Nat)(l:List Pr)(put:List Pr):Prop where
 ord:OM.Ord n (putAll n l put)
 tr:∀p,p∈put->p∈m8 n l
 tnd:∀p,p∈put->(p.2,p.1)∈putAll n l put
def vj {n:Nat}{l:List Pr}(O:OM.Ord n l):Pt n l []:=⟨O,(λp h=>by cases h),λp h=>by cases h⟩
def Pt.more {n:Nat}{l put:List Pr}{t:Pr}(h:Pt n l put)(ht:t∈m8 n l)(hb:¬t∈putAll n l put):Pt n l (put ++ [t]):=by
 obtain⟨hr,ha⟩:=cR.mp ht
 have hn:lG (putAll n l put) t.1 t.2=false:=by
  cases z:lG (putAll n l put) t.1 t.2 with
  |false=>rfl
  |true=>
   rcases fk.mp z with e |e
   ·unfold ED at ha;rw[e] at ha;simp at ha
   ·exact absurd e hb
 refine⟨by rw[jn];exact FY h.ord hn,λp hp=>?_,λp hp=>?_⟩
 ·rcases O4.mp hp with z |z
  ·exact h.tr p z
  ·rw[O3] at z;subst z;exact ht
 ·rw[jn]
  rcases O4.mp hp with z |z
  ·exact z8 h.ord (h.tnd p z)
  ·rw[O3] at z;subst z;exact qQ hr
def vS (n:Nat)(l put:List Pr):D:=.tuple [bC n (bc (putAll n l put)),.tuple (put.map aC)]
def eH (n:Nat)(l:List Pr)(pts:List (List Pr)):D:=.list (pts.map (vS n l))
def BN:List D->FR:=aR 2 2 (jx Gf)
def Mk {n:Nat}{l:List Pr}{t:Pr}(h8:n<=8)(h:(0<=t.1/\t.1 < n)/\(0<=t.2/\t.2 < n)):BN [bC n (bc l),aC t]=.ok (.bool (decide ((t.2,t.1)∈l))) false:=by
 show fin (jx Gf [.fz (bC n (bc l)),.fz (aC t)] 0)=_
 unfold jx
 exact gi (gJ (aq (ds:=[bC n (bc l),.int t.2,.int t.1]) (ac rfl (ac (aF (x:=aC t) (y:=.int 1) rfl rfl rfl) (ac (aF (x:=aC t) (y:=.int 0) rfl rfl rfl) an))) (IK h8 h.2 h.1)) rfl)
def BA (n:Nat)(l:List Pr)(pts:List (List Pr))(t:Pr):Bool:=pts.any λput=>decide ((t.2,t.1)∈putAll n l put)
noncomputable def BR:List D->FR:=aR 2 2 (jG DT)
def LM {n:Nat}{l:List Pr}{pts:List (List Pr)}{t:Pr}(h8:n<=8)(hz:pts.length<=100)(h:(0<=t.1/\t.1 < n)/\(0<=t.2/\t.2 < n)):∃k:Nat,BR [eH n l pts,aC t]=.ok (.int k) false:=by
 refine⟨(pts.filter λput=> !decide (t∈putAll n l put)).length,?_⟩
 show fin (jG DT [.fz (eH n l pts),.fz (aC t)] 0)=_
 unfold jG
 have ec:aK 2 [1] (.two 0 1) (ba (gv 0)) (oz (gu (ai DT (aa (gv 0) (aa (gv 2) ag))))) (gv 0) (vl [.fz (eH n l pts),.fz (aC t)]) 0=.ok (.list ((pts.filter λput=> !decide (t∈putAll n l put)).map λput=>bC n (bc (putAll n l put)))) 0:=
  bY (l:=pts) (e:=vS n l) (λput=> !decide (t∈putAll n l put)) (λput=>bC n (bc (putAll n l put))) rfl (by omega) λput _=>⟨[.da (bC n (bc (putAll n l put))),.da (.tuple (put.map aC)),.da (aC t)],rfl,eB (dI (aq (ds:=[bC n (bc (putAll n l put)),aC t]) rfl (JS h8 h))),λ_=>rfl⟩
 refine gi (gJ (dZ ec ?_) rfl)
 show some (int _)=_
 rw[OK]
def Jw {ir:Nat}{fa fb:VF D}{vs:List Nv}{β:Int}{ts:List Pr}{dr:D}(h:fa vs β=.ok (.list (ts.map aC)) β)(hr:vs[ir]? =some (.da dr))(hne:ts≠ [])(hk:∀t,t∈ts->∃k:Nat,fb [.da (aC t),.da dr] β=.ok (.int k) β):∃t,t∈ts/\Ar ir fa fb vs β=.ok (aC t) β:=by
 have hl:0 < ts.length:=List.length_pos_iff.mpr hne
 unfold Ar
 rw[h]
 dsimp only[R.bnd]
 rw[show dat vs[ir]? =some dr by rw[hr];rfl]
 dsimp only
 have hall:(ts.map aC).all (λd=>(me fb dr β d).isSome)=true:=by
  rw[O9]
  intro d hd
  obtain⟨t,ht,rfl⟩:=Pp.mp hd
  obtain⟨k,e⟩:=hk t ht
  unfold me
  rw[e];rfl
 rw[OO ⟨by rw[OK];exact hl,hall⟩]
 have hb:=(rD (ks:=(ts.map aC).map λd=>(me fb dr β d).getD 0) (by rw[OK,OK];exact hl)).1
 generalize xc ((ts.map aC).map λd=>(me fb dr β d).getD 0)=b at hb
 rw[OK,OK] at hb
 refine⟨ts[b],List.getElem_mem hb,?_⟩
 rw[OW,OJ hb];rfl
section
variable {m m':SF}{env:En}{β β1:Int}{Q:SO->Prop}{L:List Nat}
def GN {t:Tg}{fi:VF (List D)}{ds:List D}(Pd:D->Prop)(I:Nat->En->Int->Prop)(hi:fi (vl env) β=.ok ds β1)(h0:I 0 (a9 L env) β1)
  (hs:∀i d env β,ds[i]? =some d->I i env β->∃env1,fL t d env=some env1/\WP (m env1 β) λs=>(∃d β2,s=.rt d false β2/\Pd d)\/∃env2 β2,s=.nx env2 β2/\I (i + 1) env2 β2)
  (kr:∀d β,Pd d->Q (.rt d false β)) (k:∀env β,I ds.length env β->WP (m' env β) Q):WP (aG (cW t L fi m) m' env β) Q:=by
 have key:∀(k i:Nat),i + k=ds.length->∀env β,I i env β->(∃d β2,eY t m (ds.drop i) env β=.rt d false β2/\Pd d)\/∃env2 β2,eY t m (ds.drop i) env β=.nx env2 β2/\I ds.length env2 β2:=by
  intro k
  induction k with
  |zero=>
   intro i hik env β h
   have:i=ds.length:=by omega
   subst this
   rw[drop_length]
   exact .inr ⟨env,β,rfl,h⟩
  |succ k ih=>
   intro i hik env β h
   have hlt:i < ds.length:=by omega
   obtain⟨env1,e1,⟨h1⟩⟩:=hs i ds[i] env β (OJ hlt) h
   rw[Qx hlt]
   rcases h1 with⟨d,β2,e2,hp⟩ | ⟨env2,β2,e2,h2⟩
   ·exact .inl ⟨d,β2,by unfold eY;rw[e1];dsimp only;rw[e2],hp⟩
   ·have e3:eY t m (ds[i] :: ds.drop (i + 1)) env β=eY t m (ds.drop (i + 1)) env2 β2:=by conv=>lhs;unfold eY;rw[e1];dsimp only;rw[e2]
    rw[e3]
    exact ih (i + 1) (by omega) env2 β2 h2
 have e0:=key ds.length 0 (by omega) _ _ h0
 rw[List.drop_zero] at e0
 rcases e0 with⟨d,β2,e,hp⟩ | ⟨env2,β2,e,h2⟩
 ·exact⟨by rw[hW ((cB hi).trans e)];exact kr d β2 hp⟩
 ·exact wp_seq ((cB hi).trans e) (k _ _ h2)
end
def fG (pts:List (List Pr))(i:Nat)(t:Pr):List (List Pr):=pts.take i ++ [pts.getD i [] ++ [t]] ++ pts.drop (i + 1)
def qw {pts:List (List Pr)}{i:Nat}{t:Pr}(hi:i < pts.length):(fG pts i t).length=pts.length:=by
 unfold fG;rw[OX,OX,PZ,length_drop,Pe];omega
def mG {pts:List (List Pr)}{i:Nat}{t:Pr}{put:List Pr}(hi:pts[i]? =some put)(j:Nat):(fG pts i t)[j]? =if j=i then some (put ++ [t]) else pts[j]?:=by
 have hlt:=(OQ.mp hi).1
 have hg:pts.getD i []=put:=by rw[Pa,hi];rfl
 unfold fG
 rw[hg]
 by_cases h:j < i
 ·rw[OV (by omega),PD,Pg (by rw[PZ];omega),List.getElem?_take,OO h]
 ·rw[PD,Pj (by rw[PZ];omega),PZ,Nat.min_eq_left (by omega)]
  by_cases e:j=i
  ·rw[OO e,show j - i=0 by omega];rfl
  ·rw[OV e,Pj (by rw[Pe];omega),Pe,List.getElem?_drop]
   congr 1
   omega
def Ft (n:Nat)(l:List Pr)(pts:List (List Pr))(rs:List (List Int)):Prop:=rs.length=pts.length/\∀(i:Nat) (r:List Int) (put:List Pr),rs[i]? =some r->pts[i]? =some put->Row n (putAll n l put) r
def Tn (r:List Int)(t:Pr):Prop:=r.idxOf t.2 < r.idxOf t.1
def N2 (n:Nat)(l:List Pr)(pts:List (List Pr))(left:List Pr):Prop:=∀rs,Ft n l pts rs->∃t,t∈left/\∀r,r∈rs->¬Tn r t
def KW (n:Nat)(l:List Pr)(pts:List (List Pr))(left:List Pr)(d:D):Prop:=∃rs,d=.tuple [.str "rows",.list (rs.map tupI)]/\Ft n l pts rs/\∀t,t∈left->∃r,r∈rs/\Tn r t
def IW (n:Nat)(l:List Pr):Nat->D->List (List Pr)->Prop
 | 0,_,_=>False
 |k + 1,d,pts=>(∃(i:Nat) (r q:List Pr),d=.tuple [.str "ring",.int i,.list (r.map aC)]/\pts[i]? =some q/\(∀x,x∈r->x∈q)/\r≠ []/\LK l r=true/\r.length<=100/\∀x,x∈r->x∈m8 n l)\/
  ∃(t:Pr) (zs:List D),d=.tuple [.str "turn",aC t,.tuple zs]/\t∈m8 n l/\zs.length=pts.length/\∀i z,zs[i]? =some z->IW n l k z (fG pts i t)
noncomputable def J9 (F:List D->FR):List D->FR:=aR 7 5 (i8 F DT Kk Ie)
noncomputable def EF (F:List D->FR):List D->FR:=aR 8 3 (fu (J9 F) BN Kj BR)
def D6 {n:Nat}{l:List Pr}{pts:List (List Pr)}{i:Nat}{put:List Pr}(hi:pts[i]? =some put):bh (eH n l pts) (.int (i:Int))=some (vS n l put):=jz (by rw[OW,hi];rfl)
def Cy {n:Nat}{l:List Pr}{pts:List (List Pr)}{i:Nat}{t:Pr}{put:List Pr}(hi:pts[i]? =some put):eH n l (fG pts i t)=.list ((pts.map (vS n l)).take i ++ [PyData.tuple [bC n (bc (putL n (putAll n l put) t)),.tuple (put.map aC ++ [aC t])]] ++ (pts.map (vS n l)).drop (i + 1)):=by
 have hg:pts.getD i []=put:=by rw[Pa,hi];rfl
 unfold eH fG
 rw[hg,Pq,Pq,List.map_take,List.map_drop]
 show PyData.list (_ ++ [vS n l (put ++ [t])] ++ _)=_
 unfold vS
 rw[jn,Pq];rfl
def DR {n:Nat}{l:List Pr}{F:List D->FR}{pts:List (List Pr)}{left:D}{i:Nat}{put:List Pr}{t:Pr}{Q:SO->Prop}(h8:n<=8)(hi:pts[i]? =some put)(hr:(0<=t.1/\t.1 < n)/\(0<=t.2/\t.2 < n))
  (k:WP (aG (j4 ([5] ++ ([4] ++ [])) (λvs β=>gu (ai DT (aa (gv 5) (aa (gv 4) ag))) vs β)
    (bJ (cC (aa (cst (.str "ring")) (aa (gv 3) (aa (ai Kk (aa (gv 0) (aa (gv 6) (aa (gv 4) ag)))) ag)))))
    lC)
   (bJ (ai F (aa (gv 0) (aa (gv 1) (aa (f2 (f2 (ES (gv 2) (λ_ β=>.ok none β) (E2 (gv 3))) (cy (aa (cC (aa (ai Ie (aa (gv 5) (aa (gv 4) ag))) (aa (f2 (gv 6) (cC (aa (gv 4) ag)) oa) ag))) ag)) l0) (ES (gv 2) (E2 (f2 (gv 3) (cst (.int 1)) cJ)) (λ_ β=>.ok none β)) l0) ag))))) [.fz (ao n l),.fz left,.fz (eH n l pts),.fz (.int (i:Int)),.fz (aC t),.fz (bC n (bc (putAll n l put))),.fz (.tuple (put.map aC))] 0) Q) :
  WP (i8 F DT Kk Ie [.fz (ao n l),.fz left,.fz (eH n l pts),.fz (.int (i:Int)),.fz (aC t),.no,.no] 0) Q:=by
 unfold i8
 refine df (d:=bC n (bc (putAll n l put))) (β1:=0) (aF (x:=vS n l put) (y:=.int 0) (aF (x:=eH n l pts) (y:=.int i) rfl rfl (D6 hi)) rfl rfl) ?_
 refine df (d:=.tuple (put.map aC)) (β1:=0) (aF (x:=vS n l put) (y:=.int 1) (aF (x:=eH n l pts) (y:=.int i) rfl rfl (D6 hi)) rfl rfl) ?_
 exact wp_at [.fz (ao n l),.fz left,.fz (eH n l pts),.fz (.int (i:Int)),.fz (aC t),.fz (bC n (bc (putAll n l put))),.fz (.tuple (put.map aC))] rfl k
def LY {n:Nat}{l:List Pr}{F:List D->FR}{pts:List (List Pr)}{left:D}{i:Nat}{put:List Pr}{t:Pr}(O:OM.Ord n l)(hi:pts[i]? =some put)(hp:Pt n l put)(hz:put.length<=100)(ht:t∈m8 n l)(hb:t∈putAll n l put) :
  ∃r,J9 F [ao n l,left,eH n l pts,.int (i:Int),aC t]=.ok (.tuple [.str "ring",.int i,.list (r.map aC)]) false/\(∀x,x∈r->x=t\/x∈put)/\r.Nodup/\r≠ []/\LK l r=true:=by
 obtain⟨hr,ha⟩:=cR.mp ht
 have htp:¬t∈put:=λh=>hp.ord.irr _ (hp.ord.tr _ _ _ hb (hp.tnd t h))
 obtain⟨r,er,h1,h2,h3,h4⟩:=NG O hz htp hb
 refine⟨r,?_,h1,h2,h3,h4⟩
 show fin (i8 F DT Kk Ie [.fz (ao n l),.fz left,.fz (eH n l pts),.fz (.int (i:Int)),.fz (aC t),.no,.no] 0)=_
 refine gi (DR O.hi hi hr ?_)
 have eb:gu (ai DT (aa (gv 5) (aa (gv 4) ag))) (vl [.fz (ao n l),.fz left,.fz (eH n l pts),.fz (.int (i:Int)),.fz (aC t),.fz (bC n (bc (putAll n l put))),.fz (.tuple (put.map aC))]) 0=.ok true 0:=by
  rw[<-OP hb]
  exact dI (aq (ds:=[bC n (bc (putAll n l put)),aC t]) rfl (JS O.hi hr))
 refine pX eb (pN (jF (ds:=[.str "ring",.int i,.list (r.map aC)]) (ac rfl (ac rfl (ac (aq (ds:=[ao n l,.tuple (put.map aC),aC t]) rfl er) an))) (by simp)) rfl)
def L3 {n:Nat}{l:List Pr}{F:List D->FR}{pts:List (List Pr)}{left d:D}{i:Nat}{put:List Pr}{t:Pr}{b:Bool}(h8:n<=8)(hi:pts[i]? =some put)(hl:pts.length<=100)(hz:put.length<=100)(ht:t∈m8 n l)(hb:¬t∈putAll n l put)(hF:F [ao n l,left,eH n l (fG pts i t)]=.ok d b) :
  J9 F [ao n l,left,eH n l pts,.int (i:Int),aC t]=.ok d false:=by
 obtain⟨hr,ha⟩:=cR.mp ht
 show fin (i8 F DT Kk Ie [.fz (ao n l),.fz left,.fz (eH n l pts),.fz (.int (i:Int)),.fz (aC t),.no,.no] 0)=_
 refine gi (DR h8 hi hr ?_)
 have eb:gu (ai DT (aa (gv 5) (aa (gv 4) ag))) (vl [.fz (ao n l),.fz left,.fz (eH n l pts),.fz (.int (i:Int)),.fz (aC t),.fz (bC n (bc (putAll n l put))),.fz (.tuple (put.map aC))]) 0=.ok false 0:=by
  rw[<-OY hb]
  exact dI (aq (ds:=[bC n (bc (putAll n l put)),aC t]) rfl (JS h8 hr))
 refine nW eb (wp_at [.fz (ao n l),.fz left,.fz (eH n l pts),.fz (.int (i:Int)),.fz (aC t),.fz (bC n (bc (putAll n l put))),.fz (.tuple (put.map aC))] rfl ?_)
 refine gJ (aq (ds:=[ao n l,left,eH n l (fG pts i t)]) (ac rfl (ac rfl (ac ?_ an))) hF) rfl
 rw[Cy hi]
 have a1:ai Ie (aa (gv 5) (aa (gv 4) ag)) (vl [.fz (ao n l),.fz left,.fz (eH n l pts),.fz (.int (i:Int)),.fz (aC t),.fz (bC n (bc (putAll n l put))),.fz (.tuple (put.map aC))]) 0=.ok (bC n (bc (putL n (putAll n l put) t))) 0:=aq (ds:=[bC n (bc (putAll n l put)),aC t]) rfl (MV h8 hr)
 have a2:f2 (gv 6) (cC (aa (gv 4) ag)) oa (vl [.fz (ao n l),.fz left,.fz (eH n l pts),.fz (.int (i:Int)),.fz (aC t),.fz (bC n (bc (putAll n l put))),.fz (.tuple (put.map aC))]) 0=.ok (.tuple (put.map aC ++ [aC t])) 0:=Ko (a:=put.map aC) (b:=[aC t]) rfl (tp (ac rfl an)) (by rw[OK];simp;omega)
 refine Es (Es (CJ (ds:=pts.map (vS n l)) rfl rfl) (lp (ac (tp (ac a1 (ac a2 an))) an)) ?_) (Fc (ds:=pts.map (vS n l)) rfl (N6 rfl)) ?_
 ·rw[PZ,OK];simp;omega
 ·rw[OX,PZ,length_drop,OK];simp;omega
open Classical in
noncomputable def rv (n:Nat)(l put:List Pr):List Int:=if h:OM.Ord n (putAll n l put) then Classical.choose (KJ (late:=[]) h (by simp)) else []
def qH {n:Nat}{l put:List Pr}(h:OM.Ord n (putAll n l put)):Kj [bC n (bc (putAll n l put)),.list []]=.ok (tupI (rv n l put)) false/\Row n (putAll n l put) (rv n l put):=by
 have:=Classical.choose_spec (KJ (late:=[]) h (by simp))
 unfold rv
 rw[dif_pos h]
 exact⟨this.1,this.2.1⟩
def E7 (n:Nat)(l:List Pr)(pts:List (List Pr))(left:List Pr):List Pr:=left.filter λt=> !BA n l pts t
abbrev xZ (n:Nat)(l:List Pr)(pts:List (List Pr))(left:List Pr)(s3 s4 s5 s6 s7:Sl):En:=[.fz (ao n l),.fz (.list (left.map aC)),.fz (eH n l pts),s3,s4,s5,s6,s7]
def Hb {α:Type}{fa:VF D}{vs:List Nv}{β:Int}{l:List α}{f:α->Bool}(h:fa vs β=.ok (.list (l.map λq=>PyData.bool (f q))) β):f1 fa (bo λbs=>bs.any id) vs β=.ok (.bool (l.any f)) β:=dZ h (by simp only[bo];rw[fJ];simp[List.any_map])
def Hm {n:Nat}{l:List Pr}{pts:List (List Pr)}{left:List Pr}(h8:n<=8)(hl:pts.length<=100)(hz:left.length<=100)(ht:∀t,t∈left->t∈m8 n l)(s3 s4 s5 s6 s7:Sl) :
  aK 1 [2] (.nm 0) (ba (gv 1)) (oz (gu (f1 (aK 2 [0] (.two 0 1) (ba (gv 1)) iB (ai BN (aa (gv 0) (aa (gv 2) ag)))) (bo λbs=>bs.any id)))) (gv 0) (vl (xZ n l pts left s3 s4 s5 s6 s7)) 0=.ok (.list ((E7 n l pts left).map aC)) 0:=by
 refine bY (l:=left) (e:=aC) (λt=> !BA n l pts t) aC rfl (by omega) λt hm=>⟨[.da (aC t),.da (eH n l pts)],rfl,eB (dI ?_),λ_=>rfl⟩
 refine Hb (l:=pts) (f:=λput=>decide ((t.2,t.1)∈putAll n l put)) ?_
 exact bI (l:=pts) (e:=vS n l) (λput=>PyData.bool (decide ((t.2,t.1)∈putAll n l put))) rfl (by omega) λput _=>⟨[.da (bC n (bc (putAll n l put))),.da (.tuple (put.map aC)),.da (aC t)],rfl,aq (ds:=[bC n (bc (putAll n l put)),aC t]) rfl (Mk h8 (cR.mp (ht t hm)).1)⟩
def K9 {n:Nat}{l:List Pr}{pts:List (List Pr)}{t:Pr}(h:BA n l pts t=true):∃(j:Nat) (put:List Pr),pts[j]? =some put/\(t.2,t.1)∈putAll n l put:=by
 unfold BA at h
 obtain⟨put,hm,hd⟩:=List.any_eq_true.mp h
 obtain⟨j,hj⟩:=PV.mp hm
 exact⟨j,put,hj,Po hd⟩
def Lx {n:Nat}{l:List Pr}{pts:List (List Pr)}{rs:List (List Int)}(h:Ft n l pts rs){j:Nat}{put:List Pr}(hj:pts[j]? =some put):∃r,rs[j]? =some r/\r∈rs/\Row n (putAll n l put) r:=by
 have hlt:=(OQ.mp hj).1
 have hl:=h.1
 have e:rs[j]? =some (rs[j]'(by omega)):=OJ (by omega)
 exact⟨_,e,List.getElem_mem (by omega),h.2 j _ _ e hj⟩
def HG {n:Nat}{l:List Pr}{pts:List (List Pr)}{rs:List (List Int)}{t:Pr}(h:Ft n l pts rs)(ht:BA n l pts t=true):∃r,r∈rs/\Tn r t:=by
 obtain⟨j,put,hj,hm⟩:=K9 ht
 obtain⟨r,_,hr,hR⟩:=Lx h hj
 exact⟨r,hr,ur hR hm⟩
def GZ {n:Nat}{l:List Pr}{pts:List (List Pr)}{rs:List (List Int)}{i:Nat}{t:Pr}{put:List Pr}(hi:pts[i]? =some put)(hP:∀q,q∈pts->Pt n l q)(h:Ft n l (fG pts i t) rs):Ft n l pts rs:=by
 have hlt:=(OQ.mp hi).1
 refine⟨by rw[h.1,qw hlt],λj r q hr hq=>?_⟩
 by_cases e:j=i
 ·subst e
  rw[hi] at hq;cases hq
  have:=h.2 j r (put ++ [t]) hr (by rw[mG hi,OO rfl])
  rw[jn] at this
  refine⟨this.1,?_⟩
  have hf:=this.2
  unfold sx at hf ⊢
  rw[O9] at hf ⊢
  exact λp hp=>hf p (z8 (hP _ (Pb hi)).ord hp)
 ·exact h.2 j r q hr (by rw[mG hi,OV e];exact hq)
def Gi {n:Nat}{l:List Pr}{pts:List (List Pr)}{rs:List (List Int)}{i:Nat}{t:Pr}{put:List Pr}{r:List Int}(hi:pts[i]? =some put)(hr:rs[i]? =some r)(ht:Tn r t)(h:Ft n l pts rs):Ft n l (fG pts i t) rs:=by
 have hlt:=(OQ.mp hi).1
 refine⟨by rw[h.1,qw hlt],λj r' q hr' hq=>?_⟩
 rw[mG hi] at hq
 by_cases e:j=i
 ·subst e
  rw[OO rfl] at hq;cases hq
  rw[hr] at hr';cases hr'
  rw[jn]
  exact EX (h.2 j r put hr hi) ht
 ·rw[OV e] at hq
  exact h.2 j r' q hr' hq
def Br (n:Nat)(l:List Pr)(pts:List (List Pr))(ud:List Pr)(t:Pr)(j:Nat):Prop:=∀rs r,Ft n l pts rs->rs[j]? =some r->Tn r t->∃u,u∈ud/\∀r,r∈rs->¬Tn r u
def yA:SeqAt.shaped (.str "rows")=true/\∀s∈([Str.ofString "rows",Str.ofString "ring",Str.ofString "turn"]:List Str),SeqAt.shaped (.str s)=true/\PyData.eqv (.str s) (.str "rows")=decide (s="rows"):=by decide +kernel
def pO {fa:VF D}{vs:List Nv}{β:Int}{s:Str}(hs:s∈([Str.ofString "rows",Str.ofString "ring",Str.ofString "turn"]:List Str)){neg:Bool}(h:fa vs β=.ok (.str s) β):dv (f2 fa (cst (.str "rows")) (eh neg)) vs β=.ok (if neg then !decide (s="rows") else decide (s="rows")) β:=dJ _ _ _ _ (aF h rfl (by unfold eh;rw[(yA.2 s hs).1,yA.1,(yA.2 s hs).2];cases neg <;> rfl))
theorem len0 {fa:VF D}{vs:List Nv}{β:Int}{ds:List D}(h:fa vs β=.ok (.list ds) β):dv (f2 (f1 fa cP) (cst (.int 0)) (eh false)) vs β=.ok ds.isEmpty β:=by
 have:=gk (neg:=false) (fa:=f1 fa cP) (fb:=cst (.int 0)) (vs:=vs) (β:=β) (i:=ds.length) (j:=0) (jV h) rfl
 rw[this]
 cases ds with
 |nil=>rfl
 |cons d ds=>congr 1
def Ho {n:Nat}{l:List Pr}{F:List D->FR}{pts:List (List Pr)}{left:List Pr}(O:OM.Ord n l)(hl:pts.length<=64)(hP:∀put,put∈pts->Pt n l put)(ht:∀t,t∈left->t∈m8 n l)(hz:left.length<=64)(hu:E7 n l pts left= []):∃d,EF F [ao n l,.list (left.map aC),eH n l pts]=.ok d false/\KW n l pts left d:=by
 have hR:Ft n l pts (pts.map (rv n l)):=⟨by rw[OK],λi r put hr hp=>by
  rw[OW,hp] at hr
  cases hr
  exact (qH (hP put (Pb hp)).ord).2⟩
 refine⟨.tuple [.str "rows",.list ((pts.map (rv n l)).map tupI)],?_,pts.map (rv n l),rfl,hR,λt hm=>?_⟩
 ·show fin (fu (J9 F) BN Kj BR (xZ n l pts left .no .no .no .no .no) 0)=_
  unfold fu
  have eu:=Hm (pts:=pts) O.hi (by omega) (by omega) ht .no .no .no .no .no
  rw[hu] at eu
  refine gi (df eu (wp_at (xZ n l pts left (.fz (.list [])) .no .no .no .no) rfl ?_))
  refine pX (len0 (ds:=[]) rfl) (pN (jF (ds:=[.str "rows",.list ((pts.map (rv n l)).map tupI)]) (ac rfl (ac ?_ an)) (by simp)) rfl)
  rw[Q0]
  exact bI (l:=pts) (e:=vS n l) (λput=>tupI (rv n l put)) rfl (by omega) λput hp=>⟨[.da (bC n (bc (putAll n l put))),.da (.tuple (put.map aC))],rfl,aq (ds:=[bC n (bc (putAll n l put)),.list []]) (ac rfl (ac (lp (ds:=[]) an) an)) (qH (hP put hp).ord).1⟩
 ·have:BA n l pts t=true:=by
   cases c:BA n l pts t with
   |true=>rfl
   |false=>
    have:t∈E7 n l pts left:=OI.mpr ⟨hm,by rw[c];rfl⟩
    rw[hu] at this;cases this
  exact HG hR this
theorem Nt {n:Nat}{l:List Pr}(O:OM.Ord n l):∀(k:Nat) (pts:List (List Pr)) (left:List Pr),pts.length<=64->(∀put,put∈pts->Pt n l put)->(∀t,t∈left->t∈m8 n l)->left.length<=64->(E7 n l pts left).length<=k->(∀put,put∈pts->put.length + k<=70)->
  ∃d,j6 EF (k + 1) [ao n l,.list (left.map aC),eH n l pts]=.ok d false/\(KW n l pts left d\/((∃t zs,d=.tuple [.str "turn",aC t,.tuple zs]/\zs.length=pts.length)/\IW n l (k + 1) d pts/\N2 n l pts left)):=by
 intro k
 induction k with
 |zero=>
  intro pts left hl hP ht hz hu hk
  obtain⟨d,e,h⟩:=Ho (F:=j6 EF 0) O hl hP ht hz (QO.mp (by omega))
  exact⟨d,e,.inl h⟩
 |succ k ih=>
  intro pts left hl hP ht hz hu hk
  by_cases hu0:E7 n l pts left= []
  ·obtain⟨d,e,h⟩:=Ho (F:=j6 EF (k + 1)) O hl hP ht hz hu0
   exact⟨d,e,.inl h⟩
  have eu:=Hm (pts:=pts) O.hi (by omega) (by omega) ht .no .no .no .no .no
  have hud:∀t,t∈E7 n l pts left->t∈left/\BA n l pts t=false:=λt h=>by
   have:=OI.mp h
   exact⟨this.1,by simpa using this.2⟩
  generalize hU:E7 n l pts left=ud at eu hu hu0 hud
  have hut:∀t,t∈ud->t∈m8 n l:=λt h=>ht t (hud t h).1
  have huz:ud.length<=64:=by rw[<-hU];exact Pz (PF _ _) hz
  obtain⟨t,htu,em⟩:=Jw (ir:=2) (fa:=gv 3) (fb:=ai BR (aa (gv 1) (aa (gv 0) ag))) (vs:=vl (xZ n l pts left (.fz (.list (ud.map aC))) .no .no .no .no)) (β:=0) (ts:=ud) (dr:=eH n l pts) rfl rfl hu0 λt h=>by
   obtain⟨j,e⟩:=LM (l:=l) (pts:=pts) O.hi (by omega) (cR.mp (hut t h)).1
   exact⟨j,aq (ds:=[eH n l pts,aC t]) rfl e⟩
  have htt:=hut t htu
  have br:∀i,i < pts.length->∃d,J9 (j6 EF (k + 1)) [ao n l,.list (ud.map aC),eH n l pts,.int (i:Int),aC t]=.ok d false/\(KW n l pts left d\/((∃s y z,d=.tuple [.str s,y,z]/\(s="ring"\/s="turn"))/\IW n l (k + 1) d (fG pts i t)/\Br n l pts ud t i)):=λi hi=>by
   obtain⟨put,hp⟩:∃put,pts[i]? =some put:=⟨_,OJ hi⟩
   have hpm:=Pb hp
   have hpk:=hk put hpm
   by_cases hb:t∈putAll n l put
   ·obtain⟨r,e,h1,h2,h3,h4⟩:=LY (F:=j6 EF (k + 1)) (left:=.list (ud.map aC)) O hp (hP put hpm) (by omega) htt hb
    have hmr:∀x,x∈r->x∈put ++ [t]:=λx hx=>by
     rcases h1 x hx with h |h
     ·simp[h]
     ·simp[h]
    refine⟨_,e,.inr ⟨⟨_,_,_,rfl,.inl rfl⟩,.inl ⟨i,r,put ++ [t],rfl,by rw[mG hp,OO rfl],hmr,h3,h4,?_,λx hx=>?_⟩,λrs r' hf hr hT=>?_⟩⟩
    ·have:=zt h2 hmr
     rw[OX,Pe] at this
     omega
    ·rcases h1 x hx with h |h
     ·rw[h];exact htt
     ·exact (hP put hpm).tr x h
    ·have:=ur (hf.2 i r' put hr hp) hb
     unfold Tn at hT
     omega
   ·have hlt:(E7 n l (fG pts i t) ud).length<=k:=by
     have hlt:(ud.filter λu=> !BA n l (fG pts i t) u).length < ud.length:=by
      rw[List.length_filter_lt_length_iff_exists]
      refine⟨t,htu,?_⟩
      have:BA n l (fG pts i t) t=true:=by
       unfold BA
       refine List.any_eq_true.mpr ⟨put ++ [t],PV.mpr ⟨i,by rw[mG hp,OO rfl]⟩,OP ?_⟩
       rw[jn]
       exact qQ (cR.mp htt).1
      rw[this];simp
     have e9:E7 n l (fG pts i t) ud=ud.filter λu=> !BA n l (fG pts i t) u:=rfl
     rw[e9];omega
    have hmem:∀q,q∈fG pts i t->q=put ++ [t]\/q∈pts:=λq hq=>by
     obtain⟨j,hj⟩:=PV.mp hq
     rw[mG hp] at hj
     split at hj
     ·cases hj;exact .inl rfl
     ·exact .inr (Pb hj)
    obtain⟨d,e,h⟩:=ih (fG pts i t) ud (by rw[qw hi];exact hl) (λq hq=>by
     rcases hmem q hq with rfl |h
     ·exact (hP put hpm).more htt hb
     ·exact hP q h) hut huz hlt (λq hq=>by
     rcases hmem q hq with rfl |h
     ·rw[OX,Pe];omega
     ·have:=hk q h;omega)
    refine⟨d,L3 O.hi hp (by omega) (by omega) htt hb e,?_⟩
    rcases h with⟨rs,rfl,hf,hT⟩ | ⟨⟨t',zs,rfl,_⟩,hPap,hN⟩
    ·have hf':=GZ hp hP hf
     refine .inl ⟨rs,rfl,hf',λu hu'=>?_⟩
     cases c:BA n l pts u with
     |true=>exact HG hf' c
     |false=>exact hT u (by rw[<-hU];exact OI.mpr ⟨hu',by rw[c];rfl⟩)
    ·exact .inr ⟨⟨_,_,_,rfl,.inr rfl⟩,hPap,λrs r hf hr hT=>hN rs (Gi hp hr hT hf)⟩
  have W:WP (fu (J9 (j6 EF (k + 1))) BN Kj BR (xZ n l pts left .no .no .no .no .no) 0) λs=>∃d β,s=.rt d false β/\(KW n l pts left d\/((∃t zs,d=.tuple [.str "turn",aC t,.tuple zs]/\zs.length=pts.length)/\IW n l (k + 1 + 1) d pts/\N2 n l pts left)):=by
   unfold fu
   refine df eu (wp_at (xZ n l pts left (.fz (.list (ud.map aC))) .no .no .no .no) rfl ?_)
   have e0:=len0 (fa:=gv 3) (vs:=vl (xZ n l pts left (.fz (.list (ud.map aC))) .no .no .no .no)) (β:=0) (ds:=ud.map aC) rfl
   rw[show (ud.map aC).isEmpty=false by cases ud with |nil=>exact absurd rfl hu0 |cons a b=>rfl] at e0
   refine nW e0 (wp_at (xZ n l pts left (.fz (.list (ud.map aC))) .no .no .no .no) rfl ?_)
   refine df em (wp_at (xZ n l pts left (.fz (.list (ud.map aC))) (.fz (aC t)) .no .no .no) rfl ?_)
   refine uJ (lp (ds:=[]) an) (wp_at (xZ n l pts left (.fz (.list (ud.map aC))) (.fz (aC t)) (.ow (.list [])) .no .no) rfl ?_)
   refine GN (ds:=fX 0 pts.length) (β1:=0) (KW n l pts left) (λi env β=>β=0/\∃zs s6 s7,env=xZ n l pts left (.fz (.list (ud.map aC))) (.fz (aC t)) (.ow (.list zs)) s6 s7/\zs.length=i/\i<=pts.length/\∀j z,zs[j]? =some z->IW n l (k + 1) z (fG pts j t)/\Br n l pts ud t j) ?_ ⟨rfl,[],.no,.no,rfl,rfl,PX _,λj z h=>by simp at h⟩ ?_ (λd β h=>⟨d,β,rfl,.inl h⟩) ?_
   ·refine dE ?_ (by omega)
    rw[jV (ds:=pts.map (vS n l)) rfl,OK]
   ·rintro i d env β hd ⟨rfl,zs,s6,s7,rfl,hzl,_,hzs⟩
    obtain⟨hi,rfl⟩:=ip hd
    rw[Qe]
    refine⟨xZ n l pts left (.fz (.list (ud.map aC))) (.fz (aC t)) (.ow (.list zs)) (.fz (.int (i:Int))) s7,rfl,?_⟩
    obtain⟨d,ed,hd⟩:=br i hi
    refine df (d:=d) (β1:=0) (aq (ds:=[ao n l,.list (ud.map aC),eH n l pts,.int (i:Int),aC t]) rfl ed) (wp_at (xZ n l pts left (.fz (.list (ud.map aC))) (.fz (aC t)) (.ow (.list zs)) (.fz (.int (i:Int))) (.fz d)) rfl ?_)
    rcases hd with h | ⟨⟨s,y,z,rfl,hs⟩,hPap,hB⟩
    ·have h':=h
     obtain⟨rs,rfl,_⟩:=h'
     refine pX (pO (neg:=false) (s:="rows") (by simp) (aF (x:=.tuple [.str "rows",.list (rs.map tupI)]) (y:=.int 0) rfl rfl rfl)) (Hg ?_)
     exact⟨(λa b z=>by cases z),.inl ⟨_,_,rfl,h⟩⟩
    ·have hsm:s∈([Str.ofString "rows",Str.ofString "ring",Str.ofString "turn"]:List Str):=by rcases hs with h |h <;> simp[h]
     have e2:=pO (neg:=false) hsm (fa:=f2 (gv 7) (cst (.int 0)) bh) (vs:=vl (xZ n l pts left (.fz (.list (ud.map aC))) (.fz (aC t)) (.ow (.list zs)) (.fz (.int (i:Int))) (.fz (.tuple [.str s,y,z])))) (β:=0) (aF (x:=.tuple [.str s,y,z]) (y:=.int 0) rfl rfl rfl)
     have hne:decide (s="rows")=false:=by rcases hs with rfl |rfl <;> decide +kernel
     rw[hne] at e2
     refine nW e2 (wp_at (xZ n l pts left (.fz (.list (ud.map aC))) (.fz (aC t)) (.ow (.list zs)) (.fz (.int (i:Int))) (.fz (.tuple [.str s,y,z]))) rfl (oJ ?_))
     refine zh (ds:=zs) rfl rfl rfl (by omega) (lr (.inr ⟨_,_,rfl,rfl,zs ++ [.tuple [.str s,y,z]],_,_,rfl,by rw[OX,Pe];omega,by omega,λj z' hj=>?_⟩))
     by_cases c:j < zs.length
     ·rw[Pg c] at hj
      exact hzs j z' hj
     ·rw[Pj (by omega)] at hj
      have hj0:j - zs.length=0:=by
       have:=(OQ.mp hj).1
       rw[Pe] at this;omega
      rw[hj0] at hj
      cases hj
      have:j=i:=by omega
      subst this
      exact⟨hPap,hB⟩
   ·rintro env β ⟨rfl,zs,s6,s7,rfl,hzl,_,hzs⟩
    rw[dO] at hzl
    refine gJ (jF (ds:=[.str "turn",aC t,.tuple zs]) (ac rfl (ac rfl (ac (dZ (x:=.list zs) rfl rfl) an))) (by simp)) ⟨_,_,rfl,.inr ⟨⟨t,zs,rfl,hzl⟩,.inr ⟨t,zs,rfl,htt,hzl,λj z hj=>(hzs j z hj).1⟩,λrs hf=>?_⟩⟩
    by_cases c:∃r,r∈rs/\Tn r t
    ·obtain⟨r,hr,hT⟩:=c
     obtain⟨j,hj⟩:=PV.mp hr
     have hjl:j < zs.length:=by
      have:=(OQ.mp hj).1
      have:=hf.1
      omega
     obtain⟨u,hu1,hu2⟩:=(hzs j _ (OJ hjl)).2 rs r hf hj hT
     exact⟨u,(hud u hu1).1,hu2⟩
    ·exact⟨t,(hud t htu).1,λr hr hT=>c ⟨r,hr,hT⟩⟩
  obtain⟨d,β,e,h⟩:=W.out
  refine⟨d,?_,h⟩
  show fin (fu (J9 (j6 EF (k + 1))) BN Kj BR (xZ n l pts left .no .no .no .no .no) 0)=_
  rw[e];rfl
abbrev zv (n:Nat)(l:List Pr):List Pr:=(m8 n l).filter (xM l)
noncomputable def Mz:List D->FR:=aR 3 2 (pP EG (j6 EF 40) uS)
def Dm (n:Nat)(l:List Pr)(c:Nat):Prop:=∃rs:List (List Int),rs.length=c/\(∀r,r∈rs->Row n l r)/\∀t,t∈zv n l->∃r,r∈rs/\Tn r t
def zr {n:Nat}{l:List Pr}{c:Nat}{rs:List (List Int)}:Ft n l (List.replicate c []) rs↔rs.length=c/\∀r,r∈rs->Row n l r:=by
 constructor
 ·rintro⟨h1,h2⟩
  rw[PU] at h1
  refine⟨h1,λr hr=>?_⟩
  obtain⟨i,hi⟩:=PV.mp hr
  exact h2 i r [] hi (by rw[P6,OO (by have:=(OQ.mp hi).1;omega)])
 ·rintro⟨h1,h2⟩
  refine⟨by rw[PU];exact h1,λi r put hr hp=>?_⟩
  rw[P6] at hp
  split at hp
  ·cases hp;exact h2 r (Pb hr)
  ·cases hp
def ER {n:Nat}{l:List Pr}{c:Nat}:N2 n l (List.replicate c []) (zv n l)↔¬Dm n l c:=by
 constructor
 ·rintro h ⟨rs,h1,h2,h3⟩
  obtain⟨t,ht,hn⟩:=h rs (zr.mpr ⟨h1,h2⟩)
  obtain⟨r,hr,hT⟩:=h3 t ht
  exact hn r hr hT
 ·intro h rs hf
  refine Classical.byContradiction λhc=>h ?_
  obtain⟨h1,h2⟩:=zr.mp hf
  refine⟨rs,h1,h2,λt ht=>Classical.byContradiction λhn=>hc ⟨t,ht,λr hr hT=>hn ⟨r,hr,hT⟩⟩⟩
def Dm.mono {n:Nat}{l:List Pr}{c c':Nat}(O:OM.Ord n l)(h:Dm n l c)(hc:c<=c'):Dm n l c':=by
 obtain⟨rs,h1,h2,h3⟩:=h
 have hv:=(qH (n:=n) (l:=l) (put:=[]) O).2
 refine⟨rs ++ List.replicate (c' - c) (rv n l []),by rw[OX,PU];omega,λr hr=>?_,λt ht=>?_⟩
 ·rcases O4.mp hr with h |h
  ·exact h2 r h
  ·rw[Qm h];exact hv
 ·obtain⟨r,hr,hT⟩:=h3 t ht
  exact⟨r,O4.mpr (.inl hr),hT⟩
def HW {n:Nat}{l:List Pr}(O:OM.Ord n l):Dm n l (zv n l).length:=by
 refine⟨(zv n l).map λt=>rv n l [t],by rw[OK],λr hr=>?_,λt ht=>⟨rv n l [t],Pp.mpr ⟨t,ht,rfl⟩,?_⟩⟩
 ·obtain⟨t,ht,rfl⟩:=Pp.mp hr
  have htt:=(OI.mp ht).1
  have hP:=(vj O).more htt (λh=>by
   have:=(cR.mp htt).2
   unfold ED at this
   have h:t∈l:=h
   simp[h] at this)
  have:=(qH hP.ord).2
  refine⟨this.1,?_⟩
  have hf:=this.2
  unfold sx at hf ⊢
  rw[O9] at hf ⊢
  exact λp hp=>hf p (vI (O.wn p hp) hp)
 ·have htt:=(OI.mp ht).1
  have hP:=(vj O).more htt (λh=>by
   have:=(cR.mp htt).2
   unfold ED at this
   have h:t∈l:=h
   simp[h] at this)
  exact ur (qH hP.ord).2 (hP.tnd t (by simp))
def Iw {n:Nat}{l:List Pr}(h6:n<=6):(zv n l).length<=36:=by
 refine Pz (PF _ _) ?_
 unfold m8
 refine Pz (PF _ _) ?_
 have:(OM.bN n).length=n * n:=eV n
 rw[this]
 exact Qf h6 h6
def C7 {d:D}{c:Nat}(h:c<=64):mU (.list [d]) (.int (c:Int))=some (.list (List.replicate c d)):=by
 have e:(List.replicate c [d]).flatten=List.replicate c d:=by
  clear h
  induction c with
  |zero=>rfl
  |succ c ih=>rw[Py,Qh,ih,Py];rfl
 have key:∀k:Int,0<=k->k<=64->mU (.list [d]) (.int k)=some (.list (List.replicate k.toNat [d]).flatten):=λk h0 h1=>OO ⟨by omega,by omega,sz _ (by simp;omega)⟩
 rw[key c (by omega) (by omega),Pu,e]
def LG {n:Nat}{l:List Pr}{c:Nat}(O:OM.Ord n l)(hs:(zv n l).length<=39)(hc:c<=64):∃d,Mz [ao n l,.int (c:Int)]=.ok d false/\((∃rs:List (List Int),d=.tuple [.str "rows",.list (rs.map tupI)]/\rs.length=c/\(∀r,r∈rs->Row n l r)/\∀t,t∈zv n l->∃r,r∈rs/\Tn r t)\/((∃t zs,d=.tuple [.str "turn",aC t,.tuple zs]/\zs.length=c)/\IW n l 40 d (List.replicate c [])/\¬Dm n l c)):=by
 obtain⟨d,e,h⟩:=Nt O 39 (List.replicate c []) (zv n l) (by rw[PU];exact hc) (λput hp=>by rw[Qm hp];exact vj O) (λt ht=>(OI.mp ht).1) (by omega) (Pz (PF _ _) hs) (λput hp=>by rw[Qm hp];simp)
 refine⟨d,?_,?_⟩
 ·show fin (pP EG (j6 EF 40) uS [.fz (ao n l),.fz (.int (c:Int)),.no] 0)=_
  unfold pP
  refine gi (df (d:=vS n l []) (β1:=0) (jF (ds:=[bC n (bc l),.tuple []]) (ac (aq (ds:=[ao n l]) rfl (EV O)) (ac (tp (ds:=[]) an) an)) (by simp)) (wp_at [.fz (ao n l),.fz (.int (c:Int)),.fz (vS n l [])] rfl ?_))
  refine gJ (aq (ds:=[ao n l,.list ((zv n l).map aC),eH n l (List.replicate c [])]) (ac rfl (ac (aq (ds:=[ao n l]) rfl (Dw O)) (ac (aF (x:=.list [vS n l []]) (y:=.int c) (lp (ds:=[vS n l []]) (ac rfl an)) rfl ?_) an))) e) rfl
  show mU (.list [vS n l []]) (.int c)=some (eH n l (List.replicate c []))
  rw[C7 hc]
  unfold eH
  rw[List.map_replicate]
 ·rcases h with⟨rs,rfl,hf,hT⟩ | ⟨⟨t,zs,rfl,hz⟩,hP,hN⟩
  ·obtain⟨h1,h2⟩:=zr.mp hf
   exact .inl ⟨rs,rfl,h1,h2,hT⟩
  ·exact .inr ⟨⟨t,zs,rfl,by rw[hz,PU]⟩,hP,ER.mp hN⟩
noncomputable def K0:List D->FR:=aR 3 1 (eZ eN Mz)
structure Az (n:Nat)(l:List Pr)(rs:List (List Int)):Prop where
 pos:1<=rs.length
 few:rs.length<=40
 row:∀r,r∈rs->Row n l r
 tn:∀t,t∈zv n l->∃r,r∈rs/\Tn r t
 least:∀c,1<=c->c < rs.length->¬Dm n l c
def Az.dm {n:Nat}{l:List Pr}{rs:List (List Int)}(h:Az n l rs):Dm n l rs.length:=⟨rs,rfl,h.row,h.tn⟩
def Az.iff {n:Nat}{l:List Pr}{rs:List (List Int)}(h:Az n l rs)(O:OM.Ord n l){c:Nat}(hc:1<=c):Dm n l c↔rs.length<=c:=⟨λd=>Nat.le_of_not_lt λz=>h.least c hc z d,λz=>h.dm.mono O z⟩
def MN {n:Nat}{l:List Pr}(O:OM.Ord n l)(hs:(zv n l).length<=39):∃rs,K0 [ao n l]=.ok (.list (rs.map tupI)) false/\Az n l rs:=by
 have W:WP (eZ eN Mz [.fz (ao n l),.no,.no] 0) λs=>∃d β,s=.rt d false β/\∃rs:List (List Int),d=.list (rs.map tupI)/\Az n l rs:=by
  unfold eZ
  refine pW (aq (ds:=[ao n l]) (ac rfl an) (lI O)) (wp_at [.fz (ao n l),.no,.no] rfl ?_)
  refine df (d:=.int 1) (β1:=0) rfl (wp_at [.fz (ao n l),.fz (.int ((1:Nat):Int)),.no] rfl ?_)
  obtain⟨d1,e1,h1⟩:=LG (c:=1) O hs (by omega)
  refine df (d:=d1) (β1:=0) (aq (ds:=[ao n l,.int ((1:Nat):Int)]) rfl e1) (wp_at [.fz (ao n l),.fz (.int ((1:Nat):Int)),.fz d1] rfl ?_)
  refine DM (λb env β=>β=0/\∃(c:Nat) (d:D),env= [.fz (ao n l),.fz (.int (c:Int)),.fz d]/\b=60 - c/\1<=c/\c<=40/\(∀c',1<=c'->c' < c->¬Dm n l c')/\((∃rs:List (List Int),d=.tuple [.str "rows",.list (rs.map tupI)]/\rs.length=c/\(∀r,r∈rs->Row n l r)/\∀t,t∈zv n l->∃r,r∈rs/\Tn r t)\/((∃t zs,d=.tuple [.str "turn",aC t,.tuple zs]/\zs.length=c)/\IW n l 40 d (List.replicate c [])/\¬Dm n l c)))
   (λenv β=>β=0/\∃(c:Nat) (rs:List (List Int)),env= [.fz (ao n l),.fz (.int (c:Int)),.fz (.tuple [.str "rows",.list (rs.map tupI)])]/\Az n l rs) 59 (by omega) ⟨rfl,1,d1,rfl,rfl,by omega,by omega,λc' h1 h2=>by omega,h1⟩ ?_ ?_
  ·rintro b env β ⟨rfl,c,d,rfl,rfl,hc1,hc2,hn,h⟩
   rcases h with⟨rs,rfl,hl,hr,ht⟩ | ⟨⟨t,zs,rfl,hz⟩,hP,hD⟩
   ·refine⟨_,_,pO (neg:=true) (s:="rows") (by simp) (aF (x:=.tuple [.str "rows",.list (rs.map tupI)]) (y:=.int 0) rfl rfl rfl),.inl ⟨by rfl,rfl,c,rs,rfl,⟨by omega,by omega,hr,ht,λc' h1 h2=>hn c' h1 (by omega)⟩⟩⟩
   ·refine⟨_,_,pO (neg:=true) (s:="turn") (by simp) (aF (x:=.tuple [.str "turn",aC t,.tuple zs]) (y:=.int 0) rfl rfl rfl),.inr ⟨by decide +kernel,wp_at [.fz (ao n l),.fz (.int (c:Int)),.fz (.tuple [.str "turn",aC t,.tuple zs])] rfl ?_⟩⟩
    have hc:c < 40:=by
     refine Nat.lt_of_not_le λz=>hD ((HW O).mono O (by omega))
    refine df (d:=.int ((c + 1:Nat):Int)) (β1:=0) (N6 rfl) (wp_at [.fz (ao n l),.fz (.int ((c + 1:Nat):Int)),.fz (.tuple [.str "turn",aC t,.tuple zs])] rfl ?_)
    obtain⟨d2,e2,h2⟩:=LG (c:=c + 1) O hs (by omega)
    refine oJ (df (d:=d2) (β1:=0) (aq (ds:=[ao n l,.int ((c + 1:Nat):Int)]) rfl e2) (lr ⟨_,_,60 - (c + 1),rfl,by omega,rfl,c + 1,d2,rfl,rfl,by omega,by omega,λc' h1 h2=>?_,h2⟩))
    by_cases e:c'=c
    ·subst e;exact hD
    ·exact hn c' h1 (by omega)
  ·rintro env β ⟨rfl,c,rs,rfl,h⟩
   exact gJ (aF (x:=.tuple [.str "rows",.list (rs.map tupI)]) (y:=.int 1) rfl rfl rfl) ⟨_,_,rfl,rs,rfl,h⟩
 obtain⟨d,β,e,rs,rfl,h⟩:=W.out
 refine⟨rs,?_,h⟩
 show fin (eZ eN Mz [.fz (ao n l),.no,.no] 0)=_
 rw[e];rfl
noncomputable def Ny:List D->FR:=aR 1 1 (oi K0)
def MI {n:Nat}{l:List Pr}(O:OM.Ord n l)(hs:(zv n l).length<=39):∃rs,K0 [ao n l]=.ok (.list (rs.map tupI)) false/\Ny [ao n l]=.ok (.int (rs.length:Nat)) false/\Az n l rs:=by
 obtain⟨rs,e,h⟩:=MN O hs
 refine⟨rs,e,?_,h⟩
 show fin (oi K0 [.fz (ao n l)] 0)=_
 unfold oi
 have:=jV (fa:=ai K0 (aa (gv 0) ag)) (vs:=vl [.fz (ao n l)]) (β:=0) (aq (ds:=[ao n l]) rfl e)
 rw[OK] at this
 exact gi (gJ this rfl)
def oH {l:List Pr}{p:Pr}:ED l p=true↔p.1≠p.2/\(p.1,p.2)∉l/\(p.2,p.1)∉l:=by
 unfold ED
 simp only[O2,Qi,P7,ne_eq]
def Jh {l:List Pr}{p:Pr}:xM l p=true↔(∀c,(c,p.1)∈l->(c,p.2)∈l)/\∀c,(p.2,c)∈l->(p.1,c)∈l:=by
 unfold xM
 rw[O2,O9,O9]
 constructor
 ·rintro⟨h1,h2⟩
  exact⟨λc hc=>Po (h1 (c,p.1) (OI.mpr ⟨hc,OP rfl⟩)),λc hc=>Po (h2 (p.2,c) (OI.mpr ⟨hc,OP rfl⟩))⟩
 ·rintro⟨h1,h2⟩
  constructor
  ·intro q hq
   obtain⟨hm,he⟩:=OI.mp hq
   have he:=Po he
   refine OP (h1 q.1 ?_)
   rw[<-he];exact hm
  ·intro q hq
   obtain⟨hm,he⟩:=OI.mp hq
   have he:=Po he
   refine OP (h2 q.2 ?_)
   rw[<-he];exact hm
def Na (n:Nat)(l:List Pr)(a:Int):Nat:=((dN n).filter λx=>decide ((x,a)∈l)).length
def Nr (n:Nat)(l:List Pr)(a:Int):Nat:=((dN n).filter λx=>decide ((a,x)∈l)).length
def filter_lt {L:List Int}{p q:Int->Bool}(h:∀x,x∈L->p x=true->q x=true){y:Int}(hy:y∈L)(h1:q y=true)(h2:p y=false):(L.filter p).length < (L.filter q).length:=by
 have e:L.filter p=(L.filter q).filter p:=by
  rw[List.filter_filter]
  refine Qz λx hx=>?_
  cases c:p x with
  |false=>rfl
  |true=>rw[h x hx c];rfl
 rw[e]
 exact List.length_filter_lt_length_iff_exists.mpr ⟨y,OI.mpr ⟨hy,h1⟩,by rw[h2];simp⟩
def Kn {n:Nat}{l:List Pr}(O:OM.Ord n l){a c:Int}(h:(c,a)∈l):Na n l c < Na n l a:=by
 refine filter_lt (y:=c) (λx _ hx=>OP (O.tr x c a (Po hx) h)) (aU.mpr (O.wn _ h).1) (OP h) (OY (O.irr c))
def Kx {n:Nat}{l:List Pr}(O:OM.Ord n l){a c:Int}(h:(a,c)∈l):Nr n l c < Nr n l a:=by
 refine filter_lt (y:=c) (λx _ hx=>OP (O.tr a c x h (Po hx))) (aU.mpr (O.wn _ h).2) (OP h) (OY (O.irr c))
def Oj (l:List Pr)(q p:Pr):Prop:=(q.1=p.1\/(q.1,p.1)∈l)/\(q.2=p.2\/(p.2,q.2)∈l)
theorem jL {n:Nat}{l:List Pr}(O:OM.Ord n l):∀(k:Nat) (p:Pr),Na n l p.1 + Nr n l p.2<=k->p∈m8 n l->∃q,q∈m8 n l/\xM l q=true/\Oj l q p
 |k,p,hk,hp=>by
  by_cases hs:xM l p=true
  ·exact⟨p,hp,hs,.inl rfl,.inl rfl⟩
  ·rw[Jh,Classical.not_and_iff_not_or_not] at hs
   obtain⟨hg,ha⟩:=cR.mp hp
   obtain⟨a1,a2,a3⟩:=oH.mp ha
   rcases hs with hs |hs
   ·obtain⟨c,hc⟩:=Classical.not_forall.mp hs
    obtain⟨hc1,hc2⟩:=Classical.not_imp.mp hc
    have hlt:=Kn O hc1
    have hm:((c,p.2):Pr)∈m8 n l:=cR.mpr ⟨⟨(O.wn _ hc1).1,hg.2⟩,oH.mpr ⟨λe=>by
     simp only at e
     exact a3 (e▸hc1),hc2,λh=>a3 (O.tr _ _ _ h hc1)⟩⟩
    match k,hk with
    | 0,hk=>omega
    |k + 1,hk=>
     obtain⟨q,h1,h2,h3,h4⟩:=jL O k (c,p.2) (by simp only;omega) hm
     refine⟨q,h1,h2,.inr ?_,h4⟩
     rcases h3 with h3 |h3
     ·rw[h3];exact hc1
     ·exact O.tr _ _ _ h3 hc1
   ·obtain⟨c,hc⟩:=Classical.not_forall.mp hs
    obtain⟨hc1,hc2⟩:=Classical.not_imp.mp hc
    have hlt:=Kx O hc1
    have hm:((p.1,c):Pr)∈m8 n l:=cR.mpr ⟨⟨hg.1,(O.wn _ hc1).2⟩,oH.mpr ⟨λe=>by
     simp only at e
     exact a3 (e▸hc1),hc2,λh=>a3 (O.tr _ _ _ hc1 h)⟩⟩
    match k,hk with
    | 0,hk=>omega
    |k + 1,hk=>
     obtain⟨q,h1,h2,h3,h4⟩:=jL O k (p.1,c) (by simp only;omega) hm
     refine⟨q,h1,h2,h3,.inr ?_⟩
     rcases h4 with h4 |h4
     ·rw[h4];exact hc1
     ·exact O.tr _ _ _ hc1 h4
def sR {n:Nat}{l:List Pr}{q p:Pr}{r:List Int}(hR:Row n l r)(h:Oj l q p)(ht:r.idxOf q.2 < r.idxOf q.1):r.idxOf p.2 < r.idxOf p.1:=by
 have fit:∀{a b:Int},(a,b)∈l->r.idxOf a < r.idxOf b:=λ{a b} hm=>Po (O9.mp hR.2 (a,b) hm)
 obtain⟨h1,h2⟩:=h
 have g1:r.idxOf q.1<=r.idxOf p.1:=h1.elim (λe=>by rw[e];exact ON _) λh=>QE (fit h)
 have g2:r.idxOf p.2<=r.idxOf q.2:=h2.elim (λe=>by rw[e];exact ON _) λh=>QE (fit h)
 omega
def Bx {n:Nat}{l:List Pr}{rs:List (List Int)}(O:OM.Ord n l)(h1:rs≠ [])(h:∀r,r∈rs->Row n l r):(OM.bN n).filter (pL rs)=l↔∀p,p∈m8 n l->∃r,r∈rs/\r.idxOf p.2 < r.idxOf p.1:=by
 have sh:∀p,pL rs p=true↔∀r,r∈rs->r.idxOf p.1 < r.idxOf p.2:=λp=>by
  unfold pL
  rw[O9]
  exact⟨λh r hr=>Po (h r hr),λh r hr=>OP (h r hr)⟩
 have fit:∀{a b:Int} {r:List Int},r∈rs->(a,b)∈l->r.idxOf a < r.idxOf b:=λ{a b r} hr hm=>Po (O9.mp (h r hr).2 (a,b) hm)
 constructor
 ·intro e p hp
  obtain⟨hg,ha⟩:=cR.mp hp
  obtain⟨a1,a2,a3⟩:=oH.mp ha
  have hn:¬pL rs p=true:=λhs=>a2 (by rw[<-e];exact OI.mpr ⟨OM.bD.mpr hg,hs⟩)
  rw[sh] at hn
  obtain⟨r,hr⟩:=Classical.not_forall.mp hn
  obtain⟨hr1,hr2⟩:=Classical.not_imp.mp hr
  refine⟨r,hr1,Nat.lt_of_le_of_ne (Nat.le_of_not_lt hr2) λz=>a1 ?_⟩
  have pm:=(h r hr1).1
  exact (EU (pm.mem_iff.mpr (aU.mpr hg.2)) (pm.mem_iff.mpr (aU.mpr hg.1)) z).symm
 ·intro ht
  refine OM.ml (OM.gR _ (OM.jc n)) O.ris λp=>?_
  rw[OI,sh]
  constructor
  ·rintro⟨hg,hs⟩
   by_cases c:p∈l
   ·exact c
   ·obtain⟨r,rs',rfl⟩:∃r rs',rs=r :: rs':=by
     cases rs with
     |nil=>exact absurd rfl h1
     |cons r rs'=>exact⟨r,rs',rfl⟩
    have hr:r∈r :: rs':=OU ..
    have l1:=hs r hr
    obtain⟨q,hq1,hq2⟩:=ht p (cR.mpr ⟨OM.bD.mp hg,oH.mpr ⟨λe=>by rw[e] at l1;omega,c,λz=>by have:=fit hr z;omega⟩⟩)
    have:=hs q hq1
    omega
  ·intro hm
   exact⟨OM.bD.mpr (O.wn p hm),λr hr=>fit hr hm⟩
def we {n:Nat}{l:List Pr}{rs:List (List Int)}(O:OM.Ord n l)(h1:rs≠ [])(h:∀r,r∈rs->Row n l r):(OM.bN n).filter (pL rs)=l↔∀p,p∈(m8 n l).filter (xM l)->∃r,r∈rs/\r.idxOf p.2 < r.idxOf p.1:=by
 rw[Bx O h1 h]
 constructor
 ·exact λk p hp=>k p (OI.mp hp).1
 ·intro k p hp
  obtain⟨q,hq1,hq2,hu⟩:=jL O _ p (ON _) hp
  obtain⟨r,hr,ht⟩:=k q (OI.mpr ⟨hq1,hq2⟩)
  exact⟨r,hr,sR (h r hr) hu ht⟩
theorem Hd {n:Nat}{l:List Pr}(O:OM.Ord n l){x:Int}:∀{bs:List Int},(∀b,b∈bs->(x,b)∈m8 n l)->Pt n l (bs.reverse.map λb=>(x,b))/\∀z,(x,z)∈putAll n l (bs.reverse.map λb=>(x,b))->(x,z)∈l:=by
 intro bs
 induction bs with
 |nil=>exact λ_=>⟨vj O,λz h=>h⟩
 |cons b bs ih=>
  intro h
  obtain⟨hP,hu⟩:=ih λb hb=>h b (by simp[hb])
  have hb:=h b (by simp)
  have ha:=(oH.mp (cR.mp hb).2)
  have hn:¬(x,b)∈putAll n l (bs.reverse.map λb=>(x,b)):=λz=>ha.2.1 (hu b z)
  rw[QV,Pq]
  refine⟨hP.more hb hn,λz hz=>?_⟩
  have hz:(x,z)∈putAll n l (bs.reverse.map (λb=>(x,b)) ++ [(x,b)]):=hz
  rw[jn] at hz
  rcases m9 hz with h1 | ⟨h1,_⟩
  ·exact hu z h1
  ·rcases fk.mp h1 with e |e
   ·exact absurd e ha.1
   ·exact absurd e hn
def NL {n:Nat}{l:List Pr}(O:OM.Ord n l):Dm n l n:=by
 let bs:Int->List Int:=λx=>(dN n).filter λb=>ED l (x,b)
 have hb:∀x,(0<=x/\x < (n:Int))->∀b,b∈bs x->(x,b)∈m8 n l:=λx hx b hb=>cR.mpr ⟨⟨hx,aU.mp (OI.mp hb).1⟩,(OI.mp hb).2⟩
 have fit:∀x,(0<=x/\x < (n:Int))->Pt n l ((bs x).reverse.map λb=>(x,b)):=λx hx=>(Hd O (hb x hx)).1
 refine⟨(dN n).map λx=>rv n l ((bs x).reverse.map λb=>(x,b)),by rw[OK,cp],λr hr=>?_,λt ht=>?_⟩
 ·obtain⟨x,hx,rfl⟩:=Pp.mp hr
  have:=(qH (fit x (aU.mp hx)).ord).2
  refine⟨this.1,?_⟩
  have hf:=this.2
  unfold sx at hf ⊢
  rw[O9] at hf ⊢
  exact λp hp=>hf p (vI (O.wn p hp) hp)
 ·obtain⟨hr,ha⟩:=cR.mp (OI.mp ht).1
  refine⟨_,Pp.mpr ⟨t.1,aU.mpr hr.1,rfl⟩,?_⟩
  exact ur (qH (fit t.1 hr.1).ord).2 ((fit t.1 hr.1).tnd t (Pp.mpr ⟨t.2,List.mem_reverse.mpr <|OI.mpr ⟨aU.mpr hr.2,ha⟩,rfl⟩))
def Az.le {n:Nat}{l:List Pr}{rs:List (List Int)}(h:Az n l rs)(O:OM.Ord n l):rs.length<=n:=(h.iff O O.lo).mp (NL O)
def Az.ne {n:Nat}{l:List Pr}{rs:List (List Int)}(h:Az n l rs):rs≠ []:=λe=>by have:=h.pos;rw[e] at this;simp at this
def Az.tell {n:Nat}{l:List Pr}{rs:List (List Int)}(h:Az n l rs)(O:OM.Ord n l):(OM.bN n).filter (pL rs)=l:=(we O h.ne h.row).mpr h.tn
def DU {n:Nat}{rs:List (List Int)}(h1:rs≠ []):(OM.bN n).filter (oA rs)=(OM.bN n).filter (pL rs):=by
 refine Qz λp _=>?_
 unfold oA pL
 rw[Px,O2,Qi,P7]
 refine⟨λh=>h.2,λh=>⟨λe=>?_,h⟩⟩
 obtain⟨r,hr⟩:=List.exists_mem_of_ne_nil _ h1
 have:=Po (O9.mp h r hr)
 rw[e] at this
 omega
def Dm.all {n:Nat}{l:List Pr}{c:Nat}(O:OM.Ord n l)(h:Dm n l c):∃rs:List (List Int),rs.length=c/\(∀r,r∈rs->Row n l r)/\∀t,t∈m8 n l->∃r,r∈rs/\Tn r t:=by
 obtain⟨rs,h1,h2,h3⟩:=h
 refine⟨rs,h1,h2,λt ht=>?_⟩
 obtain⟨q,hq,hs,hu⟩:=jL O _ t (ON _) ht
 obtain⟨r,hr,hT⟩:=h3 q (OI.mpr ⟨hq,hs⟩)
 exact⟨r,hr,sR (h2 r hr) hu hT⟩
def z6 {N:Nat}{L:List Pr}{ws:List (List Int)}(O:OM.Ord N L)(hne:ws≠ [])(hr:∀r,r∈ws->Row N L r)(e:(OM.bN N).filter (pL ws)=L):Dm N L ws.length:=⟨ws,rfl,hr,(we O hne hr).mp e⟩
def CY (f:Nat->Bool)(n:Nat):mk f n < 2 ^ n:=by
 apply Nat.lt_pow_two_of_testBit
 intro i hi
 rw[c3,OY (by omega)];rfl
def ofM (n m:Nat):List Int:=(dN n).filter λx=>m.testBit x.toNat
def D9 {n m:Nat}(h:m < 2 ^ n):mk (bO (ofM n m)) n=m:=by
 apply Qp
 intro i
 rw[c3]
 by_cases c:i < n
 ·rw[OP c,Bool.true_and]
  unfold bO ofM
  rw[Px,O5,OI]
  constructor
  ·intro h;simpa using h.2
  ·intro h;exact⟨aU.mpr ⟨by omega,by omega⟩,by simpa using h⟩
 ·rw[OY c,Bool.false_and]
  exact (Nat.testBit_lt_two_pow (Pk h (Nat.pow_le_pow_right (by omega) (by omega)))).symm
def EK {f:Nat->Bool}{n t:Nat}(ht:t < n)(hf:f t=false):mk f n < mk (fy f t) n:=by
 have h1:mk f n<=mk (fy f t) n:=by rw[<-HB ht];exact Nat.left_le_or
 have h2:mk f n≠mk (fy f t) n:=λe=>by
  have:=mk_eq.mp e t ht
  unfold fy at this
  rw[hf] at this
  simp at this
 omega
def Ct (n m:Nat)(x:Int):Nat:=mk (fy (bO (ofM n m)) x.toNat) n
def Kl (n m:Nat)(x:Int):Ct n m x < 2 ^ n:=CY _ _
def Lw {n m:Nat}{l:List Pr}{x:Int}(hm:m < 2 ^ n)(hx:x∈aN l (ofM n m) n):m < Ct n m x:=by
 unfold aN at hx
 obtain⟨h1,h2⟩:=OI.mp hx
 have h1:=aU.mp h1
 unfold cV at h2
 rw[O2,Qi,P7] at h2
 have:=EK (f:=bO (ofM n m)) (n:=n) (t:=x.toNat) (by omega) (by
  unfold bO
  rw[OY]
  rw[show ((x.toNat:Nat):Int)=x by omega]
  exact h2.1)
 rw[D9 hm] at this
 exact this
def sE (n:Nat)(l:List Pr)(T:List Int)(m:Nat):Int:=((aN l (ofM n m) n).map λx=>T.getD (Ct n m x) 0).sum
structure Wt (n:Nat)(l:List Pr)(lo:Nat)(T:List Int):Prop where
 len:T.length=2 ^ n
 top:T.getD (2 ^ n - 1) 0=1
 eq:∀m,lo<=m->m < 2 ^ n - 1->T.getD m 0=sE n l T m
def mi {T:List Int}{i j:Nat}{v:Int}(h:i≠j):(T.set i v).getD j 0=T.getD j 0:=by
 rw[Pa,Pa,O6 h]
def Wt.step {n:Nat}{l:List Pr}{lo:Nat}{T:List Int}(W:Wt n l (lo + 1) T)(h:lo < 2 ^ n - 1):Wt n l lo (T.set lo (sE n l T lo)):=by
 have key:∀m,lo<=m->m < 2 ^ n->sE n l (T.set lo (sE n l T lo)) m=sE n l T m:=λm h1 h2=>by
  unfold sE
  congr 1
  refine P5 λx hx=>mi ?_
  have:=Lw h2 hx
  omega
 refine⟨by rw[P8];exact W.len,by rw[mi (by omega)];exact W.top,λm h1 h2=>?_⟩
 rw[key m h1 (by omega)]
 by_cases c:m=lo
 ·subst c
  rw[Pa,O7 (by rw[W.len];omega)];rfl
 ·rw[mi (by omega)]
  exact W.eq m (by omega) h2
noncomputable def CL:List D->FR:=aR 4 1 (mB wJ kX)
def NQ {n:Nat}{l:List Pr}(O:OM.Ord n l):∃T,CL [bC n (bc l)]=.ok (.list (T.map int)) true/\Wt n l 0 T:=by
 have h8:=O.hi
 have hp:2 ^ n<=256:=Nat.pow_le_pow_right (n:=2) (by omega) h8
 have hp0:1<=2 ^ n:=Nat.one_le_two_pow
 show ∃T,fin (mB wJ kX [.fz (bC n (bc l)),.no,.no,.no] 0)=_/\_
 unfold mB
 have ef:f2 (f2 (cst (.int 1)) (f1 (gv 0) cP) yT) (cst (.int 1)) ua (vl [.fz (bC n (bc l)),.no,.no,.no]) 0=.ok (.int ((2 ^ n - 1:Nat):Int)) 0:=by
  have el:f1 (gv 0) cP (vl [.fz (bC n (bc l)),.no,.no,.no]) 0=.ok (.int n) 0:=by
   rw[jV (ds:=(List.range n).map λb=>mI (bc l b) n) rfl,OK,Qb]
  have es:yT (.int 1) (.int (n:Int))=some (.int ((2 ^ n:Nat):Int)):=by
   obtain⟨k,hk⟩:∃k,k=n:=⟨_,rfl⟩
   have:∀t:Nat,t < 9->yT (.int 1) (.int (t:Int))=some (.int ((2 ^ t:Nat):Int)):=by
    intro t ht
    rcases (by omega:t < 8\/t=8) with h |rfl
    ·exact Ed t h
    ·rfl
   exact this n (by omega)
  refine aF (x:=.int ((2 ^ n:Nat):Int)) (y:=.int 1) (aF (x:=.int 1) (y:=.int n) rfl el es) rfl ?_
  show some (int (((2 ^ n:Nat):Int) - 1))=_
  congr 2
  omega
 rw[ay (env':=[.fz (bC n (bc l)),.fz (.int ((2 ^ n - 1:Nat):Int)),.no,.no]) (β':=0) (by rw[bB,ef];rfl)]
 generalize hF:2 ^ n - 1=F
 have hF8:F<=255:=by omega
 obtain⟨L0,hL⟩:∃L0,L0=List.replicate F (0:Int) ++ [1]:=⟨_,rfl⟩
 rw[ay (env':=[.fz (bC n (bc l)),.fz (.int ((F:Nat):Int)),.ow (.list (L0.map int)),.no]) (β':=0) ?g1]
 case g1=>
  have er:f2 (cy (aa (cst (.int 0)) ag)) (gv 1) mU (vl [.fz (bC n (bc l)),.fz (.int ((F:Nat):Int)),.no,.no]) 0=.ok (.list ((List.replicate F (0:Int)).map int)) 0:=by
   refine aF (x:=.list [.int 0]) (y:=.int F) (lp (ds:=[.int 0]) (ac rfl an)) rfl ?_
   unfold mU
   dsimp only
   rw[OO ⟨by omega,by omega,by rw[PJ];simp;omega⟩]
   congr 2
   simp
  have ec:f2 (f2 (cy (aa (cst (.int 0)) ag)) (gv 1) mU) (cy (aa (cst (.int 1)) ag)) l0 (vl [.fz (bC n (bc l)),.fz (.int ((F:Nat):Int)),.no,.no]) 0=.ok (.list ((List.replicate F (0:Int) ++ [1]).map int)) 0:=by
   refine aF (y:=.list [.int 1]) er (lp (ds:=[.int 1]) (ac rfl an)) ?_
   rw[pV (by simp;omega),Pq];rfl
  rw[ia,ec,hL];rfl
 obtain⟨env',β',el,T,s3,rfl,rfl,W⟩:=gc (t:=.nm 3) (m:=n5 2 (([0] ++ ([3] ++ [])) ++ [3]) [] (f1 (aK 1 [2,3] (.nm 0) (ba (ai wJ (aa (gv 0) (aa (gv 3) ag)))) iB (f2 (gv 1) (ai kX (aa (gv 2) (aa (gv 0) ag))) bh)) rP) (gv 3)) (ds:=nX ((F:Int) - 1) F) (k:=0)
  (λk env b=>∃(T:List Int) (s3:Sl),env= [.fz (bC n (bc l)),.fz (.int ((F:Nat):Int)),.ow (.list (T.map int)),s3]/\b=0/\Wt n l (F - k) T)
  (env:=[.fz (bC n (bc l)),.fz (.int ((F:Nat):Int)),.ow (.list (L0.map int)),.no]) (β:=0)
  ⟨_,.no,rfl,rfl,by rw[hL];simp;omega,by
   rw[hL,hF,Pa,Pj (by simp)];simp,λm h1 h2=>by omega⟩ (by
   rintro k d env b hk ⟨T,s3,rfl,rfl,W⟩
   have hkF:k < F:=by have:=(OQ.mp hk).1;rwa [oO] at this
   have hd:d=.int ((F - 1 - k:Nat):Int):=by
    unfold nX at hk
    rw[OW,Qj hkF] at hk
    cases hk
    rw[show ((F - 1 - k:Nat):Int)=(F:Int) - 1 - (k:Int) by omega]
   subst hd
   rw[P0] at W
   generalize hm:F - 1 - k=m
   rw[show F - k=m + 1 by omega] at W
   have hmN:m < 2 ^ n:=by omega
   refine⟨[.fz (bC n (bc l)),.fz (.int ((F:Nat):Int)),.ow (.list (T.map int)),.fz (.int ((m:Nat):Int))],rfl,?_⟩
   have emk:int ((m:Nat):Int)=mI (bO (ofM n m)) n:=by unfold mI;rw[D9 hmN]
   have ec:aK 1 [2,3] (.nm 0) (ba (ai wJ (aa (gv 0) (aa (gv 3) ag)))) iB (f2 (gv 1) (ai kX (aa (gv 2) (aa (gv 0) ag))) bh) (vl [.fz (bC n (bc l)),.fz (.int ((F:Nat):Int)),.ow (.list (T.map int)),.fz (.int ((m:Nat):Int))]) 0=.ok (.list ((aN l (ofM n m) n).map λx=>int (T.getD (Ct n m x) 0))) 0:=by
    refine bI (l:=aN l (ofM n m) n) (e:=int) (λx=>int (T.getD (Ct n m x) 0)) ?_ (by have:=iw l (ofM n m) n;omega) λx hx=>⟨[.da (.int x),.da (.list (T.map int)),.da (.int ((m:Nat):Int))],rfl,?_⟩
    ·have:=aq (F:=wJ) (fr:=aa (gv 0) (aa (gv 3) ag)) (vs:=vl [.fz (bC n (bc l)),.fz (.int ((F:Nat):Int)),.ow (.list (T.map int)),.fz (.int ((m:Nat):Int))]) (β:=0) (β1:=0) (ds:=[bC n (bc l),mI (bO (ofM n m)) n]) (by rw[<-emk];rfl) (G7 O (ofM n m))
     unfold ba
     rw[this];rfl
    ·have hxr:=aU.mp (OI.mp hx).1
     have ew:ai kX (aa (gv 2) (aa (gv 0) ag)) [.da (.int x),.da (.list (T.map int)),.da (.int ((m:Nat):Int))] 0=.ok (.int ((Ct n m x:Nat):Int)) 0:=aq (ds:=[mI (bO (ofM n m)) n,.int (x.toNat:Int)]) (by rw[<-emk,show ((x.toNat:Nat):Int)=x by omega];rfl) (uC h8 (by omega))
     refine aF (x:=.list (T.map int)) rfl ew ?_
     have hl:=Kl n m x
     show ki (T.map int) ((Ct n m x:Nat):Int)=_
     rw[iO,nr (by rw[W.len];exact hl),Pa,OJ (by rw[W.len];exact hl)];rfl
   have es:f1 (aK 1 [2,3] (.nm 0) (ba (ai wJ (aa (gv 0) (aa (gv 3) ag)))) iB (f2 (gv 1) (ai kX (aa (gv 2) (aa (gv 0) ag))) bh)) rP (vl [.fz (bC n (bc l)),.fz (.int ((F:Nat):Int)),.ow (.list (T.map int)),.fz (.int ((m:Nat):Int))]) 0=.ok (.int (sE n l T m)) 0:=by
    refine dZ ec ?_
    have e9:((aN l (ofM n m) n).map λx=>int (T.getD (Ct n m x) 0))=((aN l (ofM n m) n).map λx=>T.getD (Ct n m x) 0).map int:=by rw[Q0];rfl
    unfold rP
    dsimp only
    rw[e9,gN];rfl
   refine⟨[.fz (bC n (bc l)),.fz (.int ((F:Nat):Int)),.ow (.list ((T.set m (sE n l T m)).map int)),.fz (.int ((m:Nat):Int))],0,?_,_,_,rfl,rfl,?_⟩
   ·rw[qI (i:=2) (ds:=T.map int) (d:=.int (sE n l T m)) (k:=m) (n:=m) (β1:=0) (β2:=0) es (by rfl) rfl (by rfl) (by
     unfold tD
     rw[OO (by omega),OO (by rw[OK,W.len];omega)];rfl),<-List.map_set];rfl
   ·rw[P0,show F - (k + 1)=m by omega]
    exact W.step (by omega))
 rw[P0,oO,Nat.sub_self] at W
 refine⟨T,?_,W⟩
 rw[ay (env':=[.fz (bC n (bc l)),.fz (.int ((F:Nat):Int)),.ow (.list (T.map int)),s3]) (β':=0) ?g2]
 case g2=>
  rw[cB (env:=[.fz (bC n (bc l)),.fz (.int ((F:Nat):Int)),.ow (.list (L0.map int)),.no]) (ds:=nX ((F:Int) - 1) F) (β1:=0) ?g3]
  ·exact el
  case g3=>
   show (if (zC ((F:Int) - 1) && zC (-1) && (-1:Int) == -1)=true then R.ok (nX ((F:Int) - 1) (((F:Int) - 1) - (-1)).toNat) 0 else R.bad)=_
   rw[OO (by rw[uh (by omega) (by omega)];rfl),show (((F:Int) - 1) - (-1)).toNat=F by omega]
 rfl
def cD (n:Nat)(T:List Int)(r:List Int):Int:=T.getD (mk (bO r) n) 0
def Er {l:List Pr}{r r':List Int}(h:∀x,x∈r↔x∈r')(x:Int):cV l r x=cV l r' x:=by
 unfold cV z7
 have e1:decide (x∈r)=decide (x∈r'):=by rw[P4];exact h x
 rw[e1]
 congr 2
 simp only[h]
def C9 {n:Nat}{r:List Int}(hr:∀x,x∈r->0<=x/\x < (n:Int))(x:Int):x∈r↔x∈ofM n (mk (bO r) n):=by
 unfold ofM
 rw[OI,aU]
 constructor
 ·intro h
  have hx:=hr x h
  refine⟨hx,?_⟩
  rw[c3,OP (by omega)]
  unfold bO
  rw[show ((x.toNat:Nat):Int)=x by omega]
  simp[h]
 ·rintro⟨hx,hb⟩
  rw[c3,OP (by omega)] at hb
  unfold bO at hb
  rw[show ((x.toNat:Nat):Int)=x by omega] at hb
  simpa using hb
def LW {n:Nat}{r:List Int}(hr:∀x,x∈r->0<=x/\x < (n:Int)){x:Int}(hx:0<=x/\x < (n:Int)):Ct n (mk (bO r) n) x=mk (bO (r ++ [x])) n:=by
 unfold Ct
 rw[mk_eq]
 intro i hi
 unfold fy bO
 rw[Px]
 simp only[Qd,O5,O4,O3]
 constructor
 ·rintro (h |h)
  ·exact .inl ((C9 hr _).mpr h)
  ·exact .inr (by omega)
 ·rintro (h |h)
  ·exact .inl ((C9 hr _).mp h)
  ·exact .inr (by omega)
def qz {n:Nat}{l:List Pr}{r:List Int}(B:rL n l r):mk (bO r) n=2 ^ n - 1↔n<=r.length:=by
 constructor
 ·intro e
  have:(dN n).length<=r.length:=L2.ST.fV (fE n) λx hx=>by
   have hx:=aU.mp hx
   have hb:(mk (bO r) n).testBit x.toNat=true:=by rw[e,Nat.testBit_two_pow_sub_one,OP (by omega)]
   rw[c3,OP (by omega)] at hb
   unfold bO at hb
   rw[show ((x.toNat:Nat):Int)=x by omega] at hb
   simpa using hb
  rw[cp] at this
  exact this
 ·intro h
  apply Qp
  intro i
  rw[c3,Nat.testBit_two_pow_sub_one]
  by_cases c:i < n
  ·have hl:=B.len
   have hp:=qm (n:=n) (r:=r) (by omega) B.inn B.nd
   rw[OP c,Bool.true_and]
   unfold bO
   rw[OP]
   exact hp.mem_iff.mpr (aU.mpr ⟨by omega,by omega⟩)
  ·rw[OY c];rfl
def Wt.at {n:Nat}{l:List Pr}{T:List Int}{r:List Int}(W:Wt n l 0 T)(B:rL n l r)(h:r.length < n):cD n T r=((aN l r n).map λx=>cD n T (r ++ [x])).sum:=by
 have hm:=CY (bO r) n
 have hne:RM.mk (bO r) n≠2 ^ n - 1:=λe=>by have:=(qz B).mp e;omega
 unfold cD
 rw[W.eq _ (PX _) (by omega)]
 unfold sE
 have e1:aN l (ofM n (RM.mk (bO r) n)) n=aN l r n:=by
  unfold aN
  refine Qz λx _=>(Er (λy=>C9 B.inn y) x).symm
 rw[e1]
 congr 1
 refine P5 λx hx=>?_
 rw[LW B.inn (aU.mp (OI.mp hx).1)]
def yr {n:Nat}{l:List Pr}{r:List Int}{x:Int}(B:rL n l r)(hx:x∈aN l r n):rL n l (r ++ [x]):=B.more (aU.mp (OI.mp hx).1) (OI.mp hx).2
def Ek {n:Nat}{l:List Pr}{T r:List Int}{x:Int}(h8:n<=8)(hT:T.length=2 ^ n)(hx:0<=x/\x < (n:Int)){fw fp fx:VF D}{vs:List Nv}{β:Int}(hw:fw vs β=.ok (.list (T.map int)) β)(hp:fp vs β=.ok (mI (bO r) n) β)(hfx:fx vs β=.ok (.int x) β) :
  f2 fw (ai kX (aa fp (aa fx ag))) bh vs β=.ok (.int (cD n T (r ++ [x]))) β:=by
 have ew:ai kX (aa fp (aa fx ag)) vs β=.ok (mI (bO (r ++ [x])) n) β:=by
  rw[<-vU hx]
  exact aq (ds:=[mI (bO r) n,.int (x.toNat:Int)]) (ac hp (ac (by rw[hfx,show ((x.toNat:Nat):Int)=x by omega]) an)) (uC h8 (by omega))
 refine aF (x:=.list (T.map int)) hw ew ?_
 have hl:=CY (bO (r ++ [x])) n
 show ki (T.map int) ((mk (bO (r ++ [x])) n:Nat):Int)=_
 unfold cD
 rw[iO,nr (by rw[hT];exact hl),Pa,OJ (by rw[hT];exact hl)];rfl
noncomputable def Mr:List D->FR:=aR 6 4 (n9 wJ kX)
abbrev cE (n:Nat)(l:List Pr)(T r:List Int)(a:Int)(j:Nat):En:=[.fz (bC n (bc l)),.fz (.list (T.map int)),.fz (mI (bO r) n),.fz (.int a),.fz (.list ((aN l r n).map int)),.fz (.int ((j:Nat):Int))]
def EA (n:Nat)(l:List Pr)(T r:List Int)(x:Int):Int:=(((aN l r n).take ((aN l r n).idxOf x)).map λy=>cD n T (r ++ [y])).sum
def B9 {L:List Int}(nd:L.Nodup){j:Nat}{x:Int}(h:L[j]? =some x):L.idxOf x=j:=by
 obtain⟨hj,e⟩:=OQ.mp h
 rw[<-e];exact nd.idxOf_getElem j hj
def M1 {n:Nat}{l:List Pr}{T r:List Int}{a:Int}(O:OM.Ord n l)(W:Wt n l 0 T)(B:rL n l r)(hlt:r.length < n)(h0:0<=a)(h1:a < cD n T r):∃x b,Mr [bC n (bc l),.list (T.map int),mI (bO r) n,.int a]=.ok (.tuple [.int x,.int b]) false/\x∈aN l r n/\(0<=b/\b < cD n T (r ++ [x]))/\a=EA n l T r x + b:=by
 have h8:=O.hi
 show ∃x b,fin (n9 wJ kX [.fz (bC n (bc l)),.fz (.list (T.map int)),.fz (mI (bO r) n),.fz (.int a),.no,.no] 0)=_/\_
 unfold n9
 rw[ay (env':=[.fz (bC n (bc l)),.fz (.list (T.map int)),.fz (mI (bO r) n),.fz (.int a),.fz (.list ((aN l r n).map int)),.no]) (β':=0) (by rw[bB,aq (ds:=[bC n (bc l),mI (bO r) n]) (β1:=0) rfl (G7 O r)];rfl)]
 rw[ay (env':=cE n l T r a 0) (β':=0) (by rfl)]
 have hfl:=iw l r n
 obtain⟨env',β',ew,b,j,x,rfl,rfl,hx,hb0,hb1,hsj⟩:=gG (L:=[] ++ ([] ++ ([2] ++ (([] ++ []) ++ [])))) (t:=dv (f2 (gv 3) (f2 (gv 1) (ai kX (aa (gv 2) (aa (f2 (gv 4) (gv 5) bh) ag))) bh) Nu))
  (m:=aG (bg 3 ([] ++ ([] ++ ([2] ++ (([] ++ []) ++ [])))) (f2 (gv 3) (f2 (gv 1) (ai kX (aa (gv 2) (aa (f2 (gv 4) (gv 5) bh) ag))) bh) ua))
   (bg 5 ([] ++ []) (f2 (gv 5) (cst (.int 1)) cJ)))
  (λk env β=>∃(b:Int) (j:Nat),env=cE n l T r b j/\β=0/\k=(aN l r n).length - j/\0<=b/\b < (((aN l r n).drop j).map λx=>cD n T (r ++ [x])).sum/\a=(((aN l r n).take j).map λx=>cD n T (r ++ [x])).sum + b)
  (λenv β=>∃(b:Int) (j:Nat) (x:Int),env=cE n l T r b j/\β=0/\(aN l r n)[j]? =some x/\0<=b/\b < cD n T (r ++ [x])/\a=(((aN l r n).take j).map λx=>cD n T (r ++ [x])).sum + b)
  (n:=1000) (k:=(aN l r n).length) (env:=cE n l T r a 0) (β:=0) (by omega)
  ⟨a,0,rfl,rfl,rfl,h0,by rw[W.at B hlt] at h1;exact h1,by simp⟩ (by
   rintro k env β ⟨b,j,rfl,rfl,rfl,hb0,hb1,hsj⟩
   have hj:j < (aN l r n).length:=by
    apply Classical.byContradiction
    intro hn
    rw[List.drop_eq_nil_of_le (by omega)] at hb1
    simp at hb1
    omega
   obtain⟨x,hx⟩:∃x,(aN l r n)[j]? =some x:=⟨_,OJ hj⟩
   have hxm:x∈aN l r n:=Pb hx
   have hxr:=aU.mp (OI.mp hxm).1
   have hdr:(aN l r n).drop j=x :: (aN l r n).drop (j + 1):=by
    rw[Qx hj]
    rw[OJ hj] at hx
    rw[Option.some.inj hx]
   rw[hdr,PH,List.sum_cons] at hb1
   have ei:∀c:Int,f2 (gv 4) (gv 5) bh (vl (cE n l T r c j)) 0=.ok (.int x) 0:=λc=>by
    refine aF (x:=.list ((aN l r n).map int)) (y:=.int j) rfl rfl ?_
    show ki ((aN l r n).map int) (j:Int)=_
    rw[iO,nr hj]
    rw[OJ hj] at hx
    rw[Option.some.inj hx];rfl
   have ev:f2 (gv 1) (ai kX (aa (gv 2) (aa (f2 (gv 4) (gv 5) bh) ag))) bh (vl (cE n l T r b j)) 0=.ok (.int (cD n T (r ++ [x]))) 0:=Ek (l:=l) h8 W.len hxr rfl rfl (ei b)
   refine⟨decide (b>=cD n T (r ++ [x])),0,dJ _ _ _ _ (aF (x:=.int b) (y:=.int (cD n T (r ++ [x]))) rfl ev rfl),?_⟩
   by_cases c:b>=cD n T (r ++ [x])
   ·refine .inr ⟨OP c,?_⟩
    show ∃env2 β2 k',aG _ _ (cE n l T r b j) 0=.nx env2 β2/\k' < (aN l r n).length - j/\_
    rw[ay (env':=cE n l T r (b - cD n T (r ++ [x])) j) (β':=0) (by
     rw[bB,aF (x:=.int b) (y:=.int (cD n T (r ++ [x]))) (d:=.int (b - cD n T (r ++ [x]))) (β1:=0) (β2:=0) rfl ev rfl];rfl)]
    refine⟨cE n l T r (b - cD n T (r ++ [x])) (j + 1),0,(aN l r n).length - (j + 1),?_,by omega,_,_,rfl,rfl,rfl,by omega,by omega,by rw[List.take_add_one,hx,Pq,List.sum_append,show ((some x).toList.map λx=>cD n T (r ++ [x])).sum=cD n T (r ++ [x]) by simp];omega⟩
    show bg 5 ([] ++ []) (f2 (gv 5) (cst (.int 1)) cJ) (cE n l T r (b - cD n T (r ++ [x])) j) 0=.nx [.fz (bC n (bc l)),.fz (.list (T.map int)),.fz (mI (bO r) n),.fz (.int (b - cD n T (r ++ [x]))),.fz (.list ((aN l r n).map int)),.fz (.int ((j + 1:Nat):Int))] 0
    rw[show ((j + 1:Nat):Int)=(j:Int) + 1 by omega];rfl
   ·exact .inl ⟨OY c,b,j,x,rfl,rfl,hx,hb0,by omega,hsj⟩)
 have hxm:x∈aN l r n:=Pb hx
 refine⟨x,b,?_,hxm,⟨hb0,hb1⟩,by rw[EA,B9 (show (aN l r n).Nodup from (fE n).sublist QM) hx];exact hsj⟩
 have hj:=(OQ.mp hx).1
 have ei:f2 (gv 4) (gv 5) bh (vl (cE n l T r b j)) 0=.ok (.int x) 0:=by
  refine aF (x:=.list ((aN l r n).map int)) (y:=.int j) rfl rfl ?_
  show ki ((aN l r n).map int) (j:Int)=_
  rw[iO,nr hj]
  rw[OJ hj] at hx
  rw[Option.some.inj hx];rfl
 rw[ay ew,dw,jF (ds:=[.int x,.int b]) (β1:=0) (ac ei (ac rfl an)) (by simp)];rfl
noncomputable def Mf:List D->FR:=aR 1 1 (jB eN CL EG)
def FC (n:Nat)(T:List Int):cD n T []=T.getD 0 0:=by
 unfold cD
 have:mk (bO []) n=0:=by
  apply Qp
  intro i
  rw[c3]
  unfold bO
  simp
 rw[this]
noncomputable def eJ (n:Nat)(l:List Pr):List Int:=Classical.epsilon λT:List Int=>CL [bC n (bc l)]=.ok (.list (T.map int)) true/\Wt n l 0 T
def ll {n:Nat}{l:List Pr}(O:OM.Ord n l):CL [bC n (bc l)]=.ok (.list ((eJ n l).map int)) true/\Wt n l 0 (eJ n l):=Classical.epsilon_spec (p:=λT:List Int=>CL [bC n (bc l)]=.ok (.list (T.map int)) true/\Wt n l 0 T) (NQ O)
noncomputable def uB (n:Nat)(l:List Pr):Int:=cD n (eJ n l) []
def zX (n:Nat)(l:List Pr):rL n l []:=⟨Q3,(λx hx=>by cases hx),(λp _ h=>by cases h)⟩
def AA {n:Nat}{l:List Pr}(O:OM.Ord n l):ki ((eJ n l).map int) 0=some (.int (uB n l)):=by
 have hl:=(ll O).2.len
 have hp0:1<=2 ^ n:=Nat.one_le_two_pow
 unfold uB
 rw[FC,show (0:Int)=((0:Nat):Int) from rfl,iO,nr (by omega),Pa,OJ (by omega)];rfl
def M8 {n:Nat}{l:List Pr}(O:OM.Ord n l):Mf [ao n l]=.ok (.int (uB n l)) false:=by
 show fin (jB eN CL EG [.fz (ao n l)] 0)=_
 unfold jB
 rw[ay (env':=[.fz (ao n l)]) (β':=0) (by rw[qU,aq (ds:=[ao n l]) (β1:=0) rfl (lI O)];rfl)]
 have e1:ai CL (aa (ai EG (aa (gv 0) ag)) ag) (vl [.fz (ao n l)]) 0=.ok (.list ((eJ n l).map int)) 0:=aq (ds:=[bC n (bc l)]) (ac (aq (ds:=[ao n l]) rfl (EV O)) an) (ll O).1
 rw[dw,aF (y:=.int 0) (β1:=0) (β2:=0) e1 rfl (AA O)];rfl
noncomputable def LS:List D->FR:=aR 9 2 (mw eN EG CL fC Mr kX)
noncomputable abbrev nE (n:Nat)(l:List Pr)(d:D)(a b c e f:Sl):En:=[.fz (ao n l),.fz d,.fz (bC n (bc l)),.fz (.list ((eJ n l).map int)),a,b,c,e,f]
def Ff {n:Nat}{l:List Pr}{d:D}(O:OM.Ord n l)(h:dY d=false):gu (ai fC (aa (gv 1) (aa (f2 (gv 3) (cst (.int 0)) bh) ag))) (vl (nE n l d .no .no .no .no .no)) 0=.ok (jW d (uB n l)) 0:=
 dI (aq (ds:=[d,.int (uB n l)]) (ac rfl (ac (aF (x:=.list ((eJ n l).map int)) (y:=.int 0) rfl rfl (AA O)) an)) (vQ h))
def A8 (n:Nat)(l:List Pr)(T:List Int):List Int->List Int->Int
 |_,[]=>0
 |q,x :: xs=>EA n l T q x + A8 n l T (q ++ [x]) xs
theorem zD {n:Nat}{l:List Pr}{T:List Int}{x:Int}:∀(r q:List Int),A8 n l T q (r ++ [x])=A8 n l T q r + EA n l T (q ++ r) x
 | [],q=>by simp[A8]
 |y :: r,q=>by
  show EA n l T q y + A8 n l T (q ++ [y]) (r ++ [x])=EA n l T q y + A8 n l T (q ++ [y]) r + _
  rw[zD r,PD,List.singleton_append];omega
def L8 {n:Nat}{l:List Pr}{a:Int}(O:OM.Ord n l)(h0:0<=a)(h1:a < uB n l):∃r,LS [ao n l,.int a]=.ok (tupI r) false/\Row n l r/\A8 n l (eJ n l) [] r=a:=by
 have h8:=O.hi
 have W:=(ll O).2
 show ∃r,fin (mw eN EG CL fC Mr kX [.fz (ao n l),.fz (.int a),.no,.no,.no,.no,.no,.no,.no] 0)=_/\_
 unfold mw
 rw[ay (env':=[.fz (ao n l),.fz (.int a),.no,.no,.no,.no,.no,.no,.no]) (β':=0) (by rw[qU,aq (ds:=[ao n l]) (β1:=0) rfl (lI O)];rfl)]
 rw[ay (env':=[.fz (ao n l),.fz (.int a),.fz (bC n (bc l)),.no,.no,.no,.no,.no,.no]) (β':=0) (by rw[bB,aq (ds:=[ao n l]) (β1:=0) rfl (EV O)];rfl)]
 rw[ay (env':=nE n l (.int a) .no .no .no .no .no) (β':=0) (by rw[bB,aq (ds:=[bC n (bc l)]) (β1:=0) rfl (ll O).1];rfl)]
 have t:=Ff (d:=.int a) O rfl
 rw[show jW (.int a) (uB n l)=true from OP ⟨h0,h1⟩] at t
 rw[ay (env':=nE n l (.int a) .no .no .no .no .no) (β':=0) (by rw[ji (eB t)];rfl)]
 rw[ay (env':=nE n l (.int a) (.ow (.list (([]:List Int).map int))) .no .no .no .no) (β':=0) (by rw[ia,lp (ds:=[]) an];rfl)]
 rw[ay (env':=nE n l (.int a) (.ow (.list (([]:List Int).map int))) (.fz (mI (bO []) n)) .no .no .no) (β':=0) (by rw[bB,zb];rfl)]
 rw[ay (env':=nE n l (.int a) (.ow (.list (([]:List Int).map int))) (.fz (mI (bO []) n)) (.fz (.int a)) .no .no) (β':=0) (by rfl)]
 obtain⟨env',β',ef,r,b,s7,s8,rfl,rfl,B,hl,hb,hs⟩:=gc (t:=.nm 7) (m:=aG (bg 8 ([2] ++ ([3] ++ ([5] ++ ([6] ++ [])))) (ai Mr (aa (gv 2) (aa (gv 3) (aa (gv 5) (aa (gv 6) ag))))))
   (aG (lF 4 ([] ++ []) (f2 (gv 8) (cst (.int 0)) bh))
   (aG (bg 5 ([5] ++ (([] ++ []) ++ [])) (ai kX (aa (gv 5) (aa (f2 (gv 8) (cst (.int 0)) bh) ag))))
   (bg 6 ([] ++ []) (f2 (gv 8) (cst (.int 1)) bh))))) (ds:=fX 0 n) (k:=0)
  (λk env β=>∃(r:List Int) (b:Int) (s7 s8:Sl),env=nE n l (.int a) (.ow (.list (r.map int))) (.fz (mI (bO r) n)) (.fz (.int b)) s7 s8/\β=0/\rL n l r/\r.length=k/\(0<=b/\b < cD n (eJ n l) r)/\a=A8 n l (eJ n l) [] r + b)
  (env:=nE n l (.int a) (.ow (.list (([]:List Int).map int))) (.fz (mI (bO []) n)) (.fz (.int a)) .no .no) (β:=0) ⟨[],a,.no,.no,rfl,rfl,zX n l,rfl,⟨h0,h1⟩,by simp[A8]⟩ (by
   rintro k d env β hk ⟨r,b,s7,s8,rfl,rfl,B,hl,⟨hb0,hb1⟩,hs⟩
   obtain⟨hkn,rfl⟩:=ip hk
   rw[P0] at hl
   obtain⟨x,c,ec,hx,hc,hac⟩:=M1 O W B (by omega) hb0 hb1
   have hxr:=aU.mp (OI.mp hx).1
   refine⟨nE n l (.int a) (.ow (.list (r.map int))) (.fz (mI (bO r) n)) (.fz (.int b)) (.fz (.int (0 + (k:Int)))) s8,rfl,?_⟩
   generalize int (0 + (k:Int))=dk
   rw[ay (env':=nE n l (.int a) (.ow (.list (r.map int))) (.fz (mI (bO r) n)) (.fz (.int b)) (.fz dk) (.fz (.tuple [.int x,.int c]))) (β':=0) (by
    rw[bB,aq (ds:=[bC n (bc l),.list ((eJ n l).map int),mI (bO r) n,.int b]) (β1:=0) rfl ec];rfl)]
   rw[ay (env':=nE n l (.int a) (.ow (.list ((r ++ [x]).map int))) (.fz (mI (bO r) n)) (.fz (.int b)) (.fz dk) (.fz (.tuple [.int x,.int c]))) (β':=0) (by
    rw[nZ (i:=4) (ds:=r.map int) (d:=.int x) (β':=0) (by rfl) (aF (x:=.tuple [.int x,.int c]) (y:=.int 0) rfl rfl rfl) (by rfl) (by rw[OK];omega),Pq];rfl)]
   rw[ay (env':=nE n l (.int a) (.ow (.list ((r ++ [x]).map int))) (.fz (mI (bO (r ++ [x])) n)) (.fz (.int b)) (.fz dk) (.fz (.tuple [.int x,.int c]))) (β':=0) (by
    rw[bB,aq (ds:=[mI (bO r) n,.int (x.toNat:Int)]) (β1:=0) (ac rfl (ac (aF (x:=.tuple [.int x,.int c]) (y:=.int 0) rfl rfl (by rw[show ((x.toNat:Nat):Int)=x by omega];rfl)) an)) (uC h8 (by omega)),vU hxr];rfl)]
   refine⟨nE n l (.int a) (.ow (.list ((r ++ [x]).map int))) (.fz (mI (bO (r ++ [x])) n)) (.fz (.int c)) (.fz dk) (.fz (.tuple [.int x,.int c])),0,by rfl,r ++ [x],c,_,_,rfl,rfl,yr B hx,by rw[OX,Pe];omega,hc,by rw[zD,Q8];omega⟩)
 rw[P0,dO] at hl
 refine⟨r,?_,B.row O (by omega),?_⟩
 rotate_left
 ·have hw:cD n (eJ n l) r=1:=by unfold cD;rw[(qz B).mpr (by omega),W.top]
  omega
 rw[ay (env':=nE n l (.int a) (.ow (.list (r.map int))) (.fz (mI (bO r) n)) (.fz (.int b)) s7 s8) (β':=0) ?g]
 case g=>
  rw[cB (env:=nE n l (.int a) (.ow (.list (([]:List Int).map int))) (.fz (mI (bO []) n)) (.fz (.int a)) .no .no) (ds:=fX 0 n) (β1:=0) (dE (n:=n) (Ha (n:=n) (l:=l) rfl) (by omega))]
  exact ef
 rw[dw,dZ (x:=.list (r.map int)) (d:=tupI r) (β1:=0) rfl (by rfl)];rfl
def GS (n:Nat)(l:List Pr)(T:List Int):List Int->List Int->Int
 |_,[]=>0
 |q,x :: xs=>(((aN l q n).filter λy=>decide (y < x)).map λy=>cD n T (q ++ [y])).sum + GS n l T (q ++ [x]) xs
noncomputable def Oh:List D->FR:=aR 8 2 (o7 eN Jb EG CL wJ kX)
noncomputable abbrev Ck:SF:=aG (bg 7 (([2] ++ ([5] ++ [])) ++ []) (aK 1 [6] (.nm 0) (ba (ai wJ (aa (gv 2) (aa (gv 5) ag)))) (dv (f2 (gv 0) (gv 1) pY)) (gv 0)))
 (aG (bg 4 ([] ++ ([] ++ [5])) (f2 (gv 4) (f1 (aK 1 [3,5] (.nm 0) (ba (gv 7)) iB (f2 (gv 1) (ai kX (aa (gv 2) (aa (gv 0) ag))) bh)) rP) cJ))
 (bg 5 ([5] ++ ([6] ++ [])) (ai kX (aa (gv 5) (aa (gv 6) ag)))))
noncomputable abbrev kR (n:Nat)(l:List Pr)(d:D)(v:Int)(q:List Int)(s6 s7:Sl):En:=[.fz (ao n l),.fz d,.fz (bC n (bc l)),.fz (.list ((eJ n l).map int)),.fz (.int v),.fz (mI (bO q) n),s6,s7]
def ND {n:Nat}{l:List Pr}{d:D}{v x:Int}{q:List Int}{s7:Sl}(O:OM.Ord n l)(hx:0<=x/\x < (n:Int)):∃t7,Ck (kR n l d v q (.fz (.int x)) s7) 0=.nx (kR n l d (v + (((aN l q n).filter λy=>decide (y < x)).map λy=>cD n (eJ n l) (q ++ [y])).sum) (q ++ [x]) (.fz (.int x)) t7) 0:=by
 have h8:=O.hi
 have W:=(ll O).2
 have hfl:=iw l q n
 unfold Ck
 have e7:aK 1 [6] (.nm 0) (ba (ai wJ (aa (gv 2) (aa (gv 5) ag)))) (dv (f2 (gv 0) (gv 1) pY)) (gv 0) (vl (kR n l d v q (.fz (.int x)) s7)) 0=.ok (.list (((aN l q n).filter λy=>decide (y < x)).map int)) 0:=by
  refine bY (l:=aN l q n) (e:=int) (λy=>decide (y < x)) int ?_ (by omega) λy hy=>⟨[.da (.int y),.da (.int x)],rfl,dJ _ _ _ _ (aF (x:=.int y) (y:=.int x) rfl rfl rfl),λ_=>rfl⟩
  have:=aq (F:=wJ) (fr:=aa (gv 2) (aa (gv 5) ag)) (vs:=vl (kR n l d v q (.fz (.int x)) s7)) (β:=0) (β1:=0) (ds:=[bC n (bc l),mI (bO q) n]) rfl (G7 O q)
  unfold ba
  rw[this];rfl
 rw[ay (env':=kR n l d v q (.fz (.int x)) (.fz (.list (((aN l q n).filter λy=>decide (y < x)).map int)))) (β':=0) (by rw[bB,e7];rfl)]
 have hsub:∀y,y∈((aN l q n).filter λy=>decide (y < x))->0<=y/\y < (n:Int):=λy hy=>aU.mp (OI.mp (OI.mp hy).1).1
 have hln:((aN l q n).filter λy=>decide (y < x)).length<=(aN l q n).length:=PF _ _
 generalize hG:((aN l q n).filter λy=>decide (y < x))=G at hsub hln
 have ec:aK 1 [3,5] (.nm 0) (ba (gv 7)) iB (f2 (gv 1) (ai kX (aa (gv 2) (aa (gv 0) ag))) bh) (vl (kR n l d v q (.fz (.int x)) (.fz (.list (G.map int))))) 0=.ok (.list (G.map λy=>int (cD n (eJ n l) (q ++ [y])))) 0:=
  bI (l:=G) (e:=int) (λy=>int (cD n (eJ n l) (q ++ [y]))) rfl (by omega) λy hy=>⟨[.da (.int y),.da (.list ((eJ n l).map int)),.da (mI (bO q) n)],rfl,Ek (l:=l) h8 W.len (hsub y hy) rfl rfl rfl⟩
 have es:f1 (aK 1 [3,5] (.nm 0) (ba (gv 7)) iB (f2 (gv 1) (ai kX (aa (gv 2) (aa (gv 0) ag))) bh)) rP (vl (kR n l d v q (.fz (.int x)) (.fz (.list (G.map int))))) 0=.ok (.int (G.map λy=>cD n (eJ n l) (q ++ [y])).sum) 0:=by
  refine dZ ec ?_
  have e9:(G.map λy=>int (cD n (eJ n l) (q ++ [y])))=(G.map λy=>cD n (eJ n l) (q ++ [y])).map int:=by rw[Q0];rfl
  unfold rP
  dsimp only
  rw[e9,gN];rfl
 rw[ay (env':=kR n l d (v + (G.map λy=>cD n (eJ n l) (q ++ [y])).sum) q (.fz (.int x)) (.fz (.list (G.map int)))) (β':=0) (by
  rw[bB,aF (x:=.int v) (y:=.int (G.map λy=>cD n (eJ n l) (q ++ [y])).sum) (d:=.int (v + (G.map λy=>cD n (eJ n l) (q ++ [y])).sum)) (β1:=0) (β2:=0) rfl es rfl];rfl)]
 refine⟨.fz (.list (G.map int)),?_⟩
 rw[bB,aq (ds:=[mI (bO q) n,.int (x.toNat:Int)]) (β1:=0) (by rw[show ((x.toNat:Nat):Int)=x by omega];rfl) (uC h8 (by omega)),vU hx];rfl
theorem Me {n:Nat}{l:List Pr}{d:D}(O:OM.Ord n l):∀(rest q:List Int) (v:Int) (s6 s7:Sl),(∀x,x∈rest->0<=x/\x < (n:Int))->∃t6 t7,eY (.nm 6) Ck (rest.map int) (kR n l d v q s6 s7) 0=.nx (kR n l d (v + GS n l (eJ n l) q rest) (q ++ rest) t6 t7) 0
 | [],q,v,s6,s7,_=>⟨s6,s7,by rw[show GS n l (eJ n l) q []=0 from rfl,Int.add_zero,P2];rfl⟩
 |x :: rest,q,v,s6,s7,h=>by
  obtain⟨t7,e⟩:=ND (d:=d) (v:=v) (q:=q) (s7:=s7) O (h x (OU ..))
  obtain⟨u6,u7,e2⟩:=Me (d:=d) O rest (q ++ [x]) (v + (((aN l q n).filter λy=>decide (y < x)).map λy=>cD n (eJ n l) (q ++ [y])).sum) (.fz (.int x)) t7 λy hy=>h y (OS _ hy)
  refine⟨u6,u7,?_⟩
  rw[PH]
  conv=>lhs;unfold eY
  rw[show fL (.nm 6) (.int x) (kR n l d v q s6 s7)=some (kR n l d v q (.fz (.int x)) s7) from rfl]
  dsimp only
  rw[e]
  dsimp only
  rw[e2,show GS n l (eJ n l) q (x :: rest)=(((aN l q n).filter λy=>decide (y < x)).map λy=>cD n (eJ n l) (q ++ [y])).sum + GS n l (eJ n l) (q ++ [x]) rest from rfl,Int.add_assoc,PD];rfl
def Nd {n:Nat}{l:List Pr}{r:List Int}(O:OM.Ord n l)(hR:Row n l r):Oh [ao n l,tupI r]=.ok (.int (GS n l (eJ n l) [] r)) false:=by
 have hl:r.length=n:=by rw[hR.1.length_eq,cp]
 have h8:=O.hi
 have hG:Ge (tupI r):=C3 (by rw[OK];omega) λx hx=>by obtain⟨y,_,rfl⟩:=Pp.mp hx;rfl
 show fin (o7 eN Jb EG CL wJ kX [.fz (ao n l),.fz (tupI r),.no,.no,.no,.no,.no,.no] 0)=_
 unfold o7
 rw[ay (env':=[.fz (ao n l),.fz (tupI r),.no,.no,.no,.no,.no,.no]) (β':=0) (by rw[qU,aq (ds:=[ao n l]) (β1:=0) rfl (lI O)];rfl)]
 have t:gu (ai Jb (aa (gv 1) (aa (gv 0) ag))) (vl [.fz (ao n l),.fz (tupI r),.no,.no,.no,.no,.no,.no]) 0=.ok (se n l (tupI r)) 0:=dI (aq (ds:=[tupI r,ao n l]) rfl (Km O hG))
 rw[vD hR] at t
 rw[ay (env':=[.fz (ao n l),.fz (tupI r),.no,.no,.no,.no,.no,.no]) (β':=0) (by rw[ji (eB t)];rfl)]
 rw[ay (env':=[.fz (ao n l),.fz (tupI r),.fz (bC n (bc l)),.no,.no,.no,.no,.no]) (β':=0) (by rw[bB,aq (ds:=[ao n l]) (β1:=0) rfl (EV O)];rfl)]
 rw[ay (env':=[.fz (ao n l),.fz (tupI r),.fz (bC n (bc l)),.fz (.list ((eJ n l).map int)),.no,.no,.no,.no]) (β':=0) (by rw[bB,aq (ds:=[bC n (bc l)]) (β1:=0) rfl (ll O).1];rfl)]
 rw[ay (env':=[.fz (ao n l),.fz (tupI r),.fz (bC n (bc l)),.fz (.list ((eJ n l).map int)),.fz (.int 0),.no,.no,.no]) (β':=0) (by rfl)]
 rw[ay (env':=kR n l (tupI r) 0 [] .no .no) (β':=0) (by unfold kR;rw[bB,zb];rfl)]
 obtain⟨t6,t7,e⟩:=Me (d:=tupI r) O r [] 0 .no .no λx hx=>aU.mp (hR.1.mem_iff.mp hx)
 rw[Qe,Q8] at e
 rw[ay (env':=kR n l (tupI r) (GS n l (eJ n l) [] r) r t6 t7) (β':=0) (by
  rw[cB (env:=kR n l (tupI r) 0 [] .no .no) (ds:=r.map int) (β1:=0) rfl]
  exact e)]
 rfl
def ext (n:Nat)(l:List Pr)(r:List Int):List (List Int):=(aN l r n).map λx=>r ++ [x]
def lvl (n:Nat)(l:List Pr):Nat->List (List Int)
 | 0=>[[]]
 |k + 1=>(lvl n l k).flatMap (ext n l)
def Gj {n:Nat}{l:List Pr}{r q:List Int}(h:q∈ext n l r):∃x,x∈aN l r n/\q=r ++ [x]:=let ⟨x,h1,h2⟩:=Pp.mp h;⟨x,h1,h2.symm⟩
theorem oo {n:Nat}{l:List Pr}:∀{k:Nat} {r:List Int},r∈lvl n l k->rL n l r/\r.length=k
 | 0,r,h=>by
  rw[lvl,O3] at h
  subst h
  exact⟨⟨Q3,(λx hx=>by cases hx),(λp _ h=>by cases h)⟩,rfl⟩
 |k + 1,r,h=>by
  rw[lvl,List.mem_flatMap] at h
  obtain⟨q,hq,hr⟩:=h
  obtain⟨x,hx,rfl⟩:=Gj hr
  obtain⟨B,hk⟩:=oo hq
  exact⟨B.more (aU.mp (OI.mp hx).1) (OI.mp hx).2,by rw[OX,hk];rfl⟩
def IM {n:Nat}{l:List Pr}{r:List Int}(B:rL n l r):(aN l r n).length<=n - r.length:=by
 have nd:(aN l r n ++ r).Nodup:=by
  rw[QX]
  refine⟨(fE n).sublist QM,B.nd,λa ha b hb e=>?_⟩
  subst e
  have:=(OI.mp ha).2
  unfold cV at this
  rw[O2,Qi,P7] at this
  exact this.1 hb
 have:=L2.ST.fV nd (m:=dN n) λx hx=>(O4.mp hx).elim (λh=>(OI.mp h).1) λh=>aU.mpr (B.inn x h)
 rw[OX,cp] at this
 omega
def KH (n:Nat):Nat->Nat
 | 0=>1
 |k + 1=>KH n k * (n - k)
theorem wx {n:Nat}{l:List Pr}{c:Nat}:∀{L:List (List Int)},(∀r,r∈L->(ext n l r).length<=c)->(L.flatMap (ext n l)).length<=L.length * c
 | [],_=>by simp
 |r :: L,h=>by
  rw[List.flatMap_cons,OX,Pf,Nat.succ_mul]
  have h1:=h r (OU ..)
  have h2:=wx (L:=L) λq hq=>h q (OS _ hq)
  omega
def Fs {n:Nat}{l:List Pr}{k:Nat}{r:List Int}(h:r∈lvl n l k):(ext n l r).length<=n - k:=by
 obtain⟨B,hk⟩:=oo h
 unfold ext
 rw[OK,<-hk]
 exact IM B
theorem uT {n:Nat}{l:List Pr}:∀k,(lvl n l k).length<=KH n k
 | 0=>ON _
 |k + 1=>by
  rw[lvl,KH]
  exact Pz (wx (c:=n - k) λr hr=>Fs hr) (Nat.mul_le_mul_right _ (uT k))
def KU:∀n,n < 7->∀k,k < 8->KH n k<=720:=by decide +kernel
def nU {n:Nat}{l:List Pr}(O:OM.Ord n l){r:List Int}(h:r∈lvl n l n):Row n l r:=(oo h).1.row O (by rw[(oo h).2];exact ON _)
def Bj {n:Nat}{l:List Pr}{L:List (List Int)}{j:Nat}{r:List Int}(h:L[j]? =some r):(L.take (j + 1)).flatMap (ext n l)=(L.take j).flatMap (ext n l) ++ ext n l r:=by
 rw[List.take_add_one,h]
 simp
def BS {n:Nat}{l:List Pr}(L:List (List Int))(j:Nat):((L.take j).flatMap (ext n l)).length<=(L.flatMap (ext n l)).length:=by
 have:L.flatMap (ext n l)=(L.take j).flatMap (ext n l) ++ (L.drop j).flatMap (ext n l):=by rw[<-List.flatMap_append,List.take_append_drop]
 rw[this,OX]
 omega
def zW {n:Nat}{l:List Pr}{q s:List Int}(h:Row n l (q ++ s)):rL n l q:=by
 obtain⟨pm,hf⟩:=h
 have nd:(q ++ s).Nodup:=pm.nodup_iff.mpr (fE n)
 refine⟨nd.sublist (List.sublist_append_left q s),λx hx=>aU.mp (pm.mem_iff.mp (Qn _ hx)),λp hp hm=>?_⟩
 unfold sx at hf
 have:=Po (O9.mp hf p hp)
 rw[Qq,Qq,OO hm] at this
 have h2:=Qc.mpr hm
 by_cases c:p.1∈q
 ·rw[OO c] at this;exact⟨c,this⟩
 ·rw[OV c] at this;omega
def wB {n:Nat}{l:List Pr}{q s:List Int}{x:Int}(h:Row n l (q ++ x :: s)):x∈aN l q n:=by
 have B:rL n l (q ++ [x]):=zW (s:=s) (by rw[PD];exact h)
 have hx:x∉q:=λhq=>(QX.mp B.nd).2.2 x hq x (O3.mpr rfl) rfl
 refine OI.mpr ⟨aU.mpr (B.inn x (by simp)),?_⟩
 unfold cV
 rw[O2,Qi,P7,O5]
 refine⟨hx,List.eq_nil_iff_forall_not_mem.mpr λy hy=>?_⟩
 obtain⟨h1,h2⟩:=jM.mp hy
 obtain⟨h3,h4⟩:=B.fit (y,x) h1 (by simp)
 rw[Qq,Qq,OV h2,OV hx] at h4
 simp at h4;omega
def rf (n:Nat)(l:List Pr):Nat->List Int->List (List Int)
 | 0,q=>[q]
 |k + 1,q=>(aN l q n).flatMap λx=>rf n l k (q ++ [x])
theorem C5 {n:Nat}{l:List Pr}:∀(j k:Nat),(lvl n l k).flatMap (rf n l j)=lvl n l (k + j)
 | 0,k=>by
  show (lvl n l k).flatMap (λq=>[q])=lvl n l k
  simp
 |j + 1,k=>by
  have h:=C5 (n:=n) (l:=l) j (k + 1)
  rw[show k + 1 + j=k + (j + 1) by omega] at h
  rw[<-h]
  show _=((lvl n l k).flatMap (ext n l)).flatMap (rf n l j)
  rw[List.flatMap_assoc]
  congr 1
  funext q
  show (aN l q n).flatMap (λx=>rf n l j (q ++ [x]))=((aN l q n).map λx=>q ++ [x]).flatMap (rf n l j)
  rw[List.flatMap_map]
def vL (n:Nat)(l:List Pr):lvl n l n=rf n l n []:=by
 have h:=C5 (n:=n) (l:=l) n 0
 rw[P0] at h
 rw[<-h]
 show [[]].flatMap (rf n l n)=_
 simp
theorem qp {f:Int->List (List Int)}{g:Int->Int}:∀{L:List Int},(∀x,x∈L->((f x).length:Int)=g x)->((L.flatMap f).length:Int)=(L.map g).sum
 | [],_=>rfl
 |x :: L,h=>by
  rw[List.flatMap_cons,OX,PH,List.sum_cons,<-h x (OU ..),<-qp λy hy=>h y (OS _ hy)]
  omega
theorem zf {n:Nat}{l:List Pr}{T:List Int}(W:Wt n l 0 T):∀(k:Nat) (q:List Int),q.length + k=n->rL n l q->((rf n l k q).length:Int)=cD n T q
 | 0,q,hk,B=>by
  unfold cD
  rw[(qz B).mpr (by omega),W.top];rfl
 |k + 1,q,hk,B=>by
  rw[W.at B (by omega)]
  exact qp λx hx=>zf W k (q ++ [x]) (by rw[OX,Pe];omega) (yr B hx)
theorem Ex {n:Nat}{l:List Pr}{T:List Int}(W:Wt n l 0 T):∀(s q:List Int),Row n l (q ++ s)->∃i:Nat,(i:Int)=A8 n l T q s/\(rf n l s.length q)[i]? =some (q ++ s)
 | [],q,h=>⟨0,rfl,by rw[P2];rfl⟩
 |x :: s,q,h=>by
  have hl:=h.1.length_eq
  rw[cp,OX,Pf] at hl
  have B:=zW h
  have h':Row n l ((q ++ [x]) ++ s):=by rw[PD];exact h
  obtain⟨i,e1,e2⟩:=Ex W s (q ++ [x]) h'
  obtain⟨j,hj⟩:=PV.mp (wB h)
  have ej:=B9 (show (aN l q n).Nodup from (fE n).sublist QM) hj
  have hjl:=(OQ.mp hj).1
  have hs:aN l q n=(aN l q n).take j ++ x :: (aN l q n).drop (j + 1):=by
   rw[show x :: (aN l q n).drop (j + 1)=(aN l q n).drop j by
    rw[Qx hjl]
    rw[OJ hjl] at hj
    rw[Option.some.inj hj],List.take_append_drop]
  have hlen:((((aN l q n).take j).flatMap λx=>rf n l s.length (q ++ [x])).length:Int)=EA n l T q x:=by
   rw[EA,ej]
   exact qp λy hy=>zf W _ (q ++ [y]) (by rw[OX,Pe];omega) (yr B (List.mem_of_mem_take hy))
  refine⟨(((aN l q n).take j).flatMap λx=>rf n l s.length (q ++ [x])).length + i,?_,?_⟩
  ·show _=EA n l T q x + A8 n l T (q ++ [x]) s
   omega
  ·show ((aN l q n).flatMap λx=>rf n l s.length (q ++ [x]))[_]? =_
   have ef:((aN l q n).flatMap λx=>rf n l s.length (q ++ [x]))=(((aN l q n).take j).flatMap λx=>rf n l s.length (q ++ [x])) ++ (rf n l s.length (q ++ [x]) ++ ((aN l q n).drop (j + 1)).flatMap λx=>rf n l s.length (q ++ [x])):=by
    conv=>lhs;rw[hs]
    rw[List.flatMap_append,List.flatMap_cons]
   rw[ef,Pj (by omega),Nat.add_sub_cancel_left,Pg (OQ.mp e2).1,e2,PD];rfl
def Js (n:Nat):(dN n).Pairwise (· < ·):=by
 unfold dN
 exact List.Pairwise.map _ (λa b h=>by omega) List.pairwise_lt_range
def LC (l:List Pr)(q:List Int)(n:Nat):(aN l q n).Pairwise (· < ·):=(Js n).sublist QM
theorem wO {x:Int}:∀{L:List Int},L.Pairwise (· < ·)->x∈L->L.filter (λy=>decide (y < x))=L.take (L.idxOf x)
 |a :: L,p,hx=>by
  have hp:=List.pairwise_cons.mp p
  by_cases c:a=x
  ·subst c
   rw[List.idxOf_cons_self,List.take_zero,List.filter_cons,OV (by simp)]
   exact List.filter_eq_nil_iff.mpr λy hy=>by have:=hp.1 y hy;simp;omega
  ·have hx:x∈L:=(OR.mp hx).resolve_left λz=>c z.symm
   have:=hp.1 x hx
   rw[List.filter_cons,OO (by simpa using this),List.idxOf_cons,show (a == x)=false by simpa using c,wO hp.2 hx];rfl
theorem Hl {n:Nat}{l:List Pr}{T:List Int}:∀(s q:List Int),Row n l (q ++ s)->GS n l T q s=A8 n l T q s
 | [],_,_=>rfl
 |x :: s,q,h=>by
  show (((aN l q n).filter λy=>decide (y < x)).map λy=>cD n T (q ++ [y])).sum + GS n l T (q ++ [x]) s=EA n l T q x + A8 n l T (q ++ [x]) s
  rw[Hl s (q ++ [x]) (by rw[PD];exact h),wO (LC l q n) (wB h)];rfl
def E1 {n:Nat}{l:List Pr}{a:Int}(O:OM.Ord n l)(h0:0<=a)(h1:a < uB n l):∃r,ki ((lvl n l n).map tupI) a=some (tupI r)/\LS [ao n l,.int a]=.ok (tupI r) false/\Oh [ao n l,tupI r]=.ok (.int a) false/\Row n l r:=by
 have W:=(ll O).2
 obtain⟨r,e,hR,ho⟩:=L8 O h0 h1
 obtain⟨i,e1,e2⟩:=Ex W r [] hR
 have hl:r.length=n:=by rw[hR.1.length_eq,cp]
 rw[hl,Q8,<-vL] at e2
 have ea:a=(i:Int):=by omega
 refine⟨r,?_,e,?_,hR⟩
 ·rw[ea];exact jz (by rw[OW,e2];rfl)
 ·rw[Nd O hR,Hl r [] hR,ho]
def Fh {n:Nat}{l:List Pr}(O:OM.Ord n l):((lvl n l n).length:Int)=uB n l:=by
 rw[vL]
 exact zf (ll O).2 n [] (by simp) (zX n l)
def Tells (n:Nat)(l:List Pr)(d:D):Prop:=∃rs:List (List Int),d=.list (rs.map tupI)/\rs≠ []/\(∀r,r∈rs->Row n l r)/\(OM.bN n).filter (pL rs)=l
noncomputable def Ai (n:Nat)(l:List Pr)(d:D):Bool:=@decide (Tells n l d) (Classical.propDecidable _)
def JA {n:Nat}{l:List Pr}{d:D}(h:Tells n l d):Ai n l d=true:=@OP _ (Classical.propDecidable _) h
def DY {n:Nat}{l:List Pr}{d:D}(h:¬Tells n l d):Ai n l d=false:=@OY _ (Classical.propDecidable _) h
theorem wR:∀{rs qs:List (List Int)},rs.map tupI=qs.map tupI->rs=qs
 | [],[],_=>rfl
 | [],_ :: _,h=>by cases h
 |_ :: _,[],h=>by cases h
 |r :: rs,q :: qs,h=>by
  rw[PH,PH,List.cons.injEq] at h
  rw[oy h.1,wR h.2]
def tE {n:Nat}{l:List Pr}{rs:List (List Int)}(h1:rs≠ [])(h:∀r,r∈rs->Row n l r):Ai n l (.list (rs.map tupI))=decide ((OM.bN n).filter (pL rs)=l):=by
 by_cases c:(OM.bN n).filter (pL rs)=l
 ·rw[OP c];exact JA ⟨rs,rfl,h1,h,c⟩
 ·rw[OY c]
  refine DY λ⟨qs,e,_,_,c'⟩=>c ?_
  have:=wR (PyData.list.inj e)
  rw[this];exact c'
noncomputable def tR:List D->FR:=aR 2 2 (yq eN MS MG)
theorem Ka {n:Nat}{l:List Pr}{d:D}(O:OM.Ord n l)(h:Gt d):tR [d,ao n l]=.ok (.bool (Ai n l d)) false:=by
 show fin (yq eN MS MG [.fz d,.fz (ao n l)] 0)=_
 refine gi (pW (aq (ds:=[ao n l]) rfl (lI O)) ?_)
 have ea:=NS O h
 cases c:xr n l d with
 |false=>
  rw[c] at ea
  rw[DY λ⟨rs,e,h1,h2,_⟩=>by rw[e,sY h1 h2] at c;cases c]
  exact gJ (HE (aq (ds:=[d,ao n l]) rfl ea)) rfl
 |true=>
  rw[c] at ea
  obtain⟨rs,rfl,h1,h2⟩:=Ip c
  rw[tE h1 h2]
  have hz:rs.length<=100:=by have:=(h.2 _ rfl).1;rw[OK] at this;exact this
  exact gJ (HV (aq (ds:=[.list (rs.map tupI),ao n l]) rfl ea) (aF (aq (ds:=[.int n,.list (rs.map tupI)]) (ac (Ha (n:=n) (l:=l) rfl) (ac rfl an)) (KI O.lo O.hi hz λr hr=>(h2 r hr).1)) (Hx (n:=n) (l:=l) rfl) (qO false _ _))) rfl
noncomputable def Ja:List D->FR:=aR 6 1 c8
def Ls {n:Nat}{l:List Pr}(O:OM.Ord n l)(h6:n<=6):∃b,Ja [ao n l]=.ok (.list ((lvl n l n).map tupI)) b:=by
 show ∃b,fin (c8 [.fz (ao n l),.no,.no,.no,.no,.no] 0)=_
 have hl:=n8 O
 have bd:∀k,k<=n->(lvl n l k).length<=720:=λk hk=>Pz (uT k) (KU n (by omega) k (by omega))
 suffices h:WP (c8 [.fz (ao n l),.no,.no,.no,.no,.no] 0) λs=>∃b,fin s=.ok (.list ((lvl n l n).map tupI)) b from h.out
 unfold c8
 refine df (lp (ds:=[tupI []]) (ac (tp an) an)) ?_
 refine uw (λk env _=>∃s2 s3 s4 s5,env= [.fz (ao n l),.fz (.list ((lvl n l k).map tupI)),s2,s3,s4,s5]) (dE (n:=n) (Ha (n:=n) (l:=l) rfl) (by omega)) ⟨_,_,_,_,rfl⟩ ?_ ?_
 ·rintro k d env β hk ⟨s2,s3,s4,s5,rfl⟩
  obtain⟨hkn,rfl⟩:=ip hk
  refine⟨[.fz (ao n l),.fz (.list ((lvl n l k).map tupI)),.fz (.int (0 + k)),s3,s4,s5],rfl,?_⟩
  refine uJ (lp (ds:=[]) an) ?_
  generalize Sl.fz (int (0 + (k:Int)))=u2
  refine uw (ds:=(lvl n l k).map tupI) (λj env _=>∃s4 s5,env= [.fz (ao n l),.fz (.list ((lvl n l k).map tupI)),u2,.ow (.list ((((lvl n l k).take j).flatMap (ext n l)).map tupI)),s4,s5]) rfl ⟨s4,s5,rfl⟩ ?_ ?_
  ·rintro j d env β hj ⟨s4,s5,rfl⟩
   rw[OW] at hj
   cases hr:(lvl n l k)[j]? with
   |none=>rw[hr] at hj;cases hj
   |some r=>
    rw[hr] at hj
    cases hj
    have hm:=Pb hr
    obtain⟨B,hb⟩:=oo hm
    have hA:(((lvl n l k).take j).flatMap (ext n l)).length<=720:=Pz (BS _ _) (bd (k + 1) (by omega))
    rw[Bj hr]
    generalize ((lvl n l k).take j).flatMap (ext n l)=A at hA
    refine⟨[.fz (ao n l),.fz (.list ((lvl n l k).map tupI)),u2,.ow (.list (A.map tupI)),.fz (tupI r),s5],rfl,?_⟩
    refine oJ (uw (λt env _=>∃s5,env= [.fz (ao n l),.fz (.list ((lvl n l k).map tupI)),u2,.ow (.list ((A ++ (aN l r t).map λx=>r ++ [x]).map tupI)),.fz (tupI r),s5]) (dE (n:=n) (Ha (n:=n) (l:=l) rfl) (by omega)) ⟨s5,by have e0:A ++ (aN l r 0).map (λx=>r ++ [x])=A:=P2 A;rw[e0];rfl⟩ ?_ ?_)
    ·rintro t d env β ht ⟨s5,rfl⟩
     obtain⟨htn,rfl⟩:=ip ht
     rw[Qe]
     have hz:=iw l r t
     have hzA:(A ++ (aN l r t).map λx=>r ++ [x]).length<=800:=by rw[OX,OK];omega
     have es:A ++ (aN l r (t + 1)).map (λx=>r ++ [x])=(A ++ (aN l r t).map λx=>r ++ [x]) ++ if cV l r (t:Int)=true then [r ++ [(t:Int)]] else []:=by
      rw[o1,Pq,<-PD]
      congr 1
      split <;> rfl
     rw[es]
     generalize (A ++ (aN l r t).map λx=>r ++ [x])=A' at hzA
     refine⟨[.fz (ao n l),.fz (.list ((lvl n l k).map tupI)),u2,.ow (.list (A'.map tupI)),.fz (tupI r),.fz (.int t)],rfl,?_⟩
     have et:BU (dv (f2 (gv 5) (gv 4) (lW true))) (gu (f1 (aK 2 [5,4] (.two 0 1) (ba (f2 (gv 0) (cst (.int 1)) bh)) (dv (f2 (gv 1) (gv 2) (eh false))) (f2 (gv 0) (gv 3) (lW false))) (bo λbs=>bs.all id))) (vl [.fz (ao n l),.fz (.list ((lvl n l k).map tupI)),u2,.ow (.list (A'.map tupI)),.fz (tupI r),.fz (.int t)]) β=.ok (cV l r t) β:=by
      have e9:cV l r (t:Int)=(!decide ((t:Int)∈r) && (l.filter λp=>decide (p.2=(t:Int))).all λp=>decide (p.1∈r)):=by
       unfold cV z7
       congr 1
       rw[Px,O5,List.map_eq_nil_iff,List.filter_eq_nil_iff,O9]
       constructor
       ·intro h p hp
        obtain⟨h1,h2⟩:=OI.mp hp
        have:=h p h1
        rw[h2] at this
        simpa using this
       ·intro h p hp
        by_cases c:p.2=(t:Int)
        ·have:=h p (OI.mpr ⟨hp,OP c⟩)
         have:=Po this
         simp[this]
        ·simp[c]
      rw[e9]
      refine ya (dJ _ _ _ _ (aF (x:=.int t) (y:=tupI r) rfl rfl (Am true t r))) (dI (vF (l:=l.filter λp=>decide (p.2=(t:Int))) (f:=λp=>decide (p.1∈r)) ?_))
      exact bY (l:=l) (e:=aC) (λp=>decide (p.2=(t:Int))) (λp=>PyData.bool (decide (p.1∈r))) (by unfold ba;rw[Hx (n:=n) (l:=l) rfl];rfl) (by omega) λp hp=>⟨[.da (.int p.1),.da (.int p.2),.da (.int t),.da (tupI r)],rfl,gk (neg:=false) (i:=p.2) (j:=t) rfl rfl,λ_=>aF (x:=.int p.1) (y:=tupI r) rfl rfl (Am false p.1 r)⟩
     cases c:cV l r (t:Int) with
     |true=>
      rw[c] at et
      have hrl:=B.len
      refine GR et (oJ (zh (ds:=A'.map tupI) (d:=tupI (r ++ [(t:Int)])) (β1:=β) rfl ?_ rfl (by rw[OK];omega) (lr ⟨_,_,rfl,.fz (.int t),?_⟩)))
      ·exact Nx (r:=r) (q:=[(t:Int)]) rfl (tp (ds:=[.int t]) (ac rfl an)) (by simp;omega)
      ·rw[OO rfl,Pq];rfl
     |false=>
      rw[c] at et
      refine Bw et (lr ⟨_,_,rfl,.fz (.int t),?_⟩)
      rw[OV (by simp),P2 A'];rfl
    ·rintro env β ⟨s5,rfl⟩
     rw[dO]
     exact lr ⟨_,_,rfl,_,_,rfl⟩
  ·rintro env β ⟨s4,s5,rfl⟩
   refine oJ (df (d:=.list ((lvl n l (k + 1)).map tupI)) (β1:=β) ?_ (lr ⟨_,_,rfl,_,_,_,_,rfl⟩))
   rw[OK,List.take_length]
   rfl
 ·rintro env β ⟨s2,s3,s4,s5,rfl⟩
  rw[dO]
  exact⟨⟨_,rfl⟩⟩
section
variable {m m':SF}{env:En}{β β1:Int}{Q:SO->Prop}{L:List Nat}
def E5 {t:Tg}{fi:VF (List D)}{ds:List D}(g:D->Option (D×Bool))(I:En->Int->Prop)(hi:fi (vl env) β=.ok ds β1)(h0:I (a9 L env) β1)
  (hs:∀d,d∈ds->∀env β,I env β->∃env1,fL t d env=some env1/\WP (m env1 β) λs=>(∃v b β2,g d=some (v,b)/\s=.rt v b β2)\/(g d=none/\∃env2 β2,s=.nx env2 β2/\I env2 β2))
  (kr:∀v b β,ds.findSome? g=some (v,b)->Q (.rt v b β)) (k:ds.findSome? g=none->∀env β,I env β->WP (m' env β) Q):WP (aG (cW t L fi m) m' env β) Q:=by
 have key:∀(es:List D),(∀d,d∈es->d∈ds)->∀env β,I env β->(∃v b β2,es.findSome? g=some (v,b)/\eY t m es env β=.rt v b β2)\/(es.findSome? g=none/\∃env2 β2,eY t m es env β=.nx env2 β2/\I env2 β2):=by
  intro es
  induction es with
  |nil=>exact λ_ env β h=>.inr ⟨rfl,env,β,rfl,h⟩
  |cons d es ih=>
   intro hd env β h
   obtain⟨env1,e1,⟨h1⟩⟩:=hs d (hd d (OU ..)) env β h
   rcases h1 with⟨v,b,β2,hg,e2⟩ | ⟨hg,env2,β2,e2,h2⟩
   ·exact .inl ⟨v,b,β2,by rw[Qk,hg],by unfold eY;rw[e1];dsimp only;rw[e2]⟩
   ·have e3:eY t m (d :: es) env β=eY t m es env2 β2:=by conv=>lhs;unfold eY;rw[e1];dsimp only;rw[e2]
    rw[e3,Qk,hg]
    exact ih (λd h=>hd d (OS _ h)) env2 β2 h2
 rcases key ds (λ_ h=>h) _ _ h0 with⟨v,b,β2,hg,e⟩ | ⟨hg,env2,β2,e,h2⟩
 ·exact⟨by rw[hW ((cB hi).trans e)];exact kr v b β2 hg⟩
 ·exact wp_seq ((cB hi).trans e) (k hg _ _ h2)
end
noncomputable def Nl:List D->FR:=aR 1 1 (jE Mf LS)
def Hj {n:Nat}{l:List Pr}(h4:n<=4):(lvl n l n).length<=24:=Pz (uT n) ((show ∀n,n < 5->KH n n<=24 by decide +kernel) n (by omega))
def M5 {n:Nat}{l:List Pr}(O:OM.Ord n l)(h4:n<=4):Nl [ao n l]=.ok (.list ((lvl n l n).map tupI)) true:=by
 show fin (jE Mf LS [.fz (ao n l)] 0)=_
 unfold jE
 have hc:=Fh O
 have h24:=Hj (l:=l) h4
 have e1:ai Mf (aa (gv 0) ag) (vl [.fz (ao n l)]) 0=.ok (.int ((lvl n l n).length:Nat)) 0:=by
  rw[hc];exact aq (ds:=[ao n l]) rfl (M8 O)
 have ec:aK 1 [0] (.nm 0) (dM (ai Mf (aa (gv 0) ag))) iB (ai LS (aa (gv 1) (aa (gv 0) ag))) (vl [.fz (ao n l)]) 0=.ok (.list ((List.range (lvl n l n).length).map λk=>tupI ((lvl n l n).getD k []))) 0:=by
  refine bI (l:=List.range (lvl n l n).length) (e:=λ(k:Nat)=>int (0 + (k:Int))) (λk=>tupI ((lvl n l n).getD k [])) ?_ (by rw[Qb];omega) λk hk=>⟨[.da (.int (0 + (k:Int))),.da (ao n l)],rfl,?_⟩
  ·rw[dE (n:=(lvl n l n).length) e1 (by omega)];rfl
  ·have hk:=PL.mp hk
   rw[Qe]
   obtain⟨r,h1,h2,_⟩:=E1 O (a:=(k:Int)) (by omega) (by omega)
   have h3:ki ((lvl n l n).map tupI) (k:Int)=some (tupI ((lvl n l n).getD k [])):=jz (by rw[OW,Pa,OJ hk];rfl)
   rw[h1] at h3
   rw[oy (Option.some.inj h3)] at h2
   exact aq (ds:=[ao n l,.int (k:Int)]) rfl h2
 have e3:(List.range (lvl n l n).length).map (λk=>tupI ((lvl n l n).getD k []))=(lvl n l n).map tupI:=by
  refine QD (by simp) λi h1 h2=>?_
  have hi:i < (lvl n l n).length:=by simpa using h1
  simp[Pa,OJ hi]
 rw[e3] at ec
 exact gi (vq ec rfl)
def Fy {n:Nat}{l:List Pr}{r:List Int}(O:OM.Ord n l)(h:Row n l r):r∈lvl n l n:=by
 obtain⟨i,_,e⟩:=Ex (ll O).2 r [] h
 have hl:r.length=n:=by rw[h.1.length_eq,cp]
 rw[hl,Q8,<-vL] at e
 exact Pb e
open Classical in
noncomputable def cQ (n:Nat)(l:List Pr):Nat->List (List Int)->Option (List (List Int))
 | 0,ch=>if (OM.bN n).filter (pL ch)=l then some ch else none
 |k + 1,ch=>(lvl n l n).findSome? λr=>cQ n l k (ch ++ [r])
def oQ:Option (List (List Int))->D
 |none=>.none
 |some rs=>.list (rs.map tupI)
noncomputable def GD (F:List D->FR):List D->FR:=aR 6 4 (dP F tR)
theorem Ca {α:Type}{f:α->D}{g:D->Option (D×Bool)}{h:α->Option (List (List Int))}:∀{as:List α},(∀a,a∈as->g (f a)=(h a).map λrs=>(oQ (some rs),false))->(as.map f).findSome? g=(as.findSome? h).map λrs=>(oQ (some rs),false)
 | [],_=>rfl
 |a :: as,hh=>by
  rw[PH,Qk,Qk,hh a (OU ..)]
  cases h a with
  |some rs=>rfl
  |none=>exact Ca λa ha=>hh a (OS _ ha)
theorem JQ {n:Nat}{l:List Pr}(O:OM.Ord n l)(h4:n<=4):∀(k:Nat) (ch:List (List Int)) (m:Nat),k < m->1<=ch.length + k->ch.length + k<=10->(∀r,r∈ch->Row n l r)->j6 GD m [ao n l,.list ((lvl n l n).map tupI),.list (ch.map tupI),.int ((ch.length + k:Nat):Int)]=.ok (oQ (cQ n l k ch)) false:=by
 intro k
 induction k with
 |zero=>
  intro ch m hm h1 h10 hr
  obtain⟨m,rfl⟩:∃m',m=m' + 1:=⟨m - 1,by omega⟩
  show fin (dP (j6 GD m) tR [.fz (ao n l),.fz (.list ((lvl n l n).map tupI)),.fz (.list (ch.map tupI)),.fz (.int ((ch.length + 0:Nat):Int)),.no,.no] 0)=_
  unfold dP
  have hlen:=jV (fa:=gv 2) (vs:=vl [.fz (ao n l),.fz (.list ((lvl n l n).map tupI)),.fz (.list (ch.map tupI)),.fz (.int ((ch.length + 0:Nat):Int)),.no,.no]) (β:=0) (ds:=ch.map tupI) rfl
  rw[OK] at hlen
  have t1:=gk (neg:=false) hlen (fb:=gv 3) (j:=((ch.length + 0:Nat):Int)) rfl
  rw[OV O8,OP (by omega)] at t1
  have hne:ch≠ []:=λz=>by rw[z] at h1;simp at h1
  have e1:tR [.list (ch.map tupI),ao n l]=.ok (.bool (decide ((OM.bN n).filter (pL ch)=l))) false:=by
   rw[Ka O ⟨rfl,λes e=>by
    cases e
    refine⟨by rw[OK];omega,λx hx=>?_⟩
    obtain⟨q,hq,rfl⟩:=Pp.mp hx
    obtain⟨hl,hrb⟩:=Kv (by omega) (hr q hq).1
    exact (IT (by omega) hrb).1⟩,tE hne hr]
  refine gi (pX t1 ?_)
  have et:=dI (aq (F:=tR) (fr:=aa (gv 2) (aa (gv 0) ag)) (vs:=vl [.fz (ao n l),.fz (.list ((lvl n l n).map tupI)),.fz (.list (ch.map tupI)),.fz (.int ((ch.length + 0:Nat):Int)),.no,.no]) (β:=0) (ds:=[.list (ch.map tupI),ao n l]) rfl e1)
  unfold cQ
  by_cases c:(OM.bN n).filter (pL ch)=l
  ·rw[OO c]
   rw[OP c] at et
   exact pN (d:=.list (ch.map tupI)) (β1:=0) (by unfold Iu;rw[show a9 ([] ++ []) [.fz (ao n l),.fz (.list ((lvl n l n).map tupI)),.fz (.list (ch.map tupI)),.fz (.int ((ch.length + 0:Nat):Int)),.no,.no]= [.fz (ao n l),.fz (.list ((lvl n l n).map tupI)),.fz (.list (ch.map tupI)),.fz (.int ((ch.length + 0:Nat):Int)),.no,.no] from rfl,et];rfl) rfl
  ·rw[OV c]
   rw[OY c] at et
   exact pN (d:=.none) (β1:=0) (by unfold Iu;rw[show a9 ([] ++ []) [.fz (ao n l),.fz (.list ((lvl n l n).map tupI)),.fz (.list (ch.map tupI)),.fz (.int ((ch.length + 0:Nat):Int)),.no,.no]= [.fz (ao n l),.fz (.list ((lvl n l n).map tupI)),.fz (.list (ch.map tupI)),.fz (.int ((ch.length + 0:Nat):Int)),.no,.no] from rfl,et];rfl) rfl
 |succ k ih=>
  intro ch m hm h1 h10 hr
  obtain⟨m,rfl⟩:∃m',m=m' + 1:=⟨m - 1,by omega⟩
  obtain⟨c,hc⟩:∃c,c=ch.length + (k + 1):=⟨_,rfl⟩
  rw[<-hc]
  show fin (dP (j6 GD m) tR [.fz (ao n l),.fz (.list ((lvl n l n).map tupI)),.fz (.list (ch.map tupI)),.fz (.int (c:Int)),.no,.no] 0)=_
  unfold dP
  have hlen:=jV (fa:=gv 2) (vs:=vl [.fz (ao n l),.fz (.list ((lvl n l n).map tupI)),.fz (.list (ch.map tupI)),.fz (.int (c:Int)),.no,.no]) (β:=0) (ds:=ch.map tupI) rfl
  rw[OK] at hlen
  have t1:=gk (neg:=false) hlen (fb:=gv 3) (j:=(c:Int)) rfl
  rw[OV O8,OY (by omega)] at t1
  have h24:=Hj (l:=l) h4
  refine gi (nW t1 ?_)
  let g:D->Option (D×Bool):=λd=>match j6 GD m [ao n l,.list ((lvl n l n).map tupI),.list (ch.map tupI ++ [d]),.int (c:Int)] with
   | .ok .none _=>none
   | .ok v _=>some (v,false)
   |_=>none
  have one:∀r,r∈lvl n l n->j6 GD m [ao n l,.list ((lvl n l n).map tupI),.list (ch.map tupI ++ [tupI r]),.int (c:Int)]=.ok (oQ (cQ n l k (ch ++ [r]))) false:=λr hm'=>by
   have:=ih (ch ++ [r]) m (by omega) (by rw[OX,Pe];omega) (by rw[OX,Pe];omega) λq hq=>by
    rcases O4.mp hq with h |h
    ·exact hr q h
    ·rw[O3] at h;subst h;exact nU O hm'
   rw[Pq,OX,Pe,show ch.length + 1 + k=c by omega] at this
   exact this
  have hg:((lvl n l n).map tupI).findSome? g=(cQ n l (k + 1) ch).map λrs=>(oQ (some rs),false):=by
   refine Ca λr hm'=>?_
   show (match j6 GD m [ao n l,.list ((lvl n l n).map tupI),.list (ch.map tupI ++ [tupI r]),.int (c:Int)] with | .ok .none _=>none | .ok v _=>some (v,false) |_=>none)=_
   rw[one r hm']
   cases cQ n l k (ch ++ [r]) <;> rfl
  refine E5 (ds:=(lvl n l n).map tupI) (β1:=0) g (λenv b=>b=0/\∃s4 s5,env= [.fz (ao n l),.fz (.list ((lvl n l n).map tupI)),.fz (.list (ch.map tupI)),.fz (.int (c:Int)),s4,s5]) rfl ⟨rfl,_,_,rfl⟩ ?_ ?_ ?_
  ·rintro d hd env b ⟨rfl,s4,s5,rfl⟩
   obtain⟨r,hm',rfl⟩:=Pp.mp hd
   refine⟨[.fz (ao n l),.fz (.list ((lvl n l n).map tupI)),.fz (.list (ch.map tupI)),.fz (.int (c:Int)),.fz (tupI r),s5],rfl,?_⟩
   refine df (d:=oQ (cQ n l k (ch ++ [r]))) (β1:=0) (aq (ds:=[ao n l,.list ((lvl n l n).map tupI),.list (ch.map tupI ++ [tupI r]),.int (c:Int)]) (ac rfl (ac rfl (ac (Es (a:=ch.map tupI) (b:=[tupI r]) rfl (lp (ac rfl an)) (by rw[OK];simp;omega)) (ac rfl an)))) (one r hm')) (wp_at [.fz (ao n l),.fz (.list ((lvl n l n).map tupI)),.fz (.list (ch.map tupI)),.fz (.int (c:Int)),.fz (tupI r),.fz (oQ (cQ n l k (ch ++ [r])))] rfl ?_)
   have e2:g (tupI r)=(cQ n l k (ch ++ [r])).map λrs=>(oQ (some rs),false):=by
    show (match j6 GD m [ao n l,.list ((lvl n l n).map tupI),.list (ch.map tupI ++ [tupI r]),.int (c:Int)] with | .ok .none _=>none | .ok v _=>some (v,false) |_=>none)=_
    rw[one r hm']
    cases cQ n l k (ch ++ [r]) <;> rfl
   rw[e2]
   cases cQ n l k (ch ++ [r]) with
   |none=>exact Bw rfl (lr (.inr ⟨rfl,_,_,rfl,rfl,_,_,rfl⟩))
   |some rs=>exact GR rfl ⟨.inl ⟨_,_,_,rfl,rfl⟩⟩
  ·intro v b β h
   rw[hg] at h
   cases q:cQ n l (k + 1) ch with
   |none=>rw[q] at h;cases h
   |some rs=>rw[q] at h;cases h;rfl
  ·rintro h env b ⟨rfl,s4,s5,rfl⟩
   rw[hg] at h
   cases q:cQ n l (k + 1) ch with
   |none=>exact gJ rfl rfl
   |some rs=>rw[q] at h;cases h
section
variable {m m':SF}{env:En}{β β1:Int}{Q:SO->Prop}{L:List Nat}
def rh {α:Type}{t:Tg}{fi:VF (List D)}(e:α->D)(as:List α)(g:α->Option (D×Bool))(I:En->Int->Prop)(hi:fi (vl env) β=.ok (as.map e) β1)(h0:I (a9 L env) β1)
  (hs:∀a,a∈as->∀env β,I env β->∃env1,fL t (e a) env=some env1/\WP (m env1 β) λs=>(∃v b β2,g a=some (v,b)/\s=.rt v b β2)\/(g a=none/\∃env2 β2,s=.nx env2 β2/\I env2 β2))
  (kr:∀v b β,as.findSome? g=some (v,b)->Q (.rt v b β)) (k:as.findSome? g=none->∀env β,I env β->WP (m' env β) Q):WP (aG (cW t L fi m) m' env β) Q:=by
 have key:∀(es:List α),(∀d,d∈es->d∈as)->∀env β,I env β->(∃v b β2,es.findSome? g=some (v,b)/\eY t m (es.map e) env β=.rt v b β2)\/(es.findSome? g=none/\∃env2 β2,eY t m (es.map e) env β=.nx env2 β2/\I env2 β2):=by
  intro es
  induction es with
  |nil=>exact λ_ env β h=>.inr ⟨rfl,env,β,rfl,h⟩
  |cons d es ih=>
   intro hd env β h
   obtain⟨env1,e1,⟨h1⟩⟩:=hs d (hd d (OU ..)) env β h
   rcases h1 with⟨v,b,β2,hg,e2⟩ | ⟨hg,env2,β2,e2,h2⟩
   ·exact .inl ⟨v,b,β2,by rw[Qk,hg],by rw[PH];unfold eY;rw[e1];dsimp only;rw[e2]⟩
   ·have e3:eY t m ((d :: es).map e) env β=eY t m (es.map e) env2 β2:=by rw[PH];conv=>lhs;unfold eY;rw[e1];dsimp only;rw[e2]
    rw[e3,Qk,hg]
    exact ih (λd h=>hd d (OS _ h)) env2 β2 h2
 rcases key as (λ_ h=>h) _ _ h0 with⟨v,b,β2,hg,e⟩ | ⟨hg,env2,β2,e,h2⟩
 ·exact⟨by rw[hW ((cB hi).trans e)];exact kr v b β2 hg⟩
 ·exact wp_seq ((cB hi).trans e) (k hg _ _ h2)
end
theorem tZ {α β γ:Type}{f:β->γ}{h:α->Option β}:∀{as:List α},as.findSome? (λa=>(h a).map f)=(as.findSome? h).map f
 | []=>rfl
 |a :: as=>by
  rw[Qk,Qk]
  cases h a with
  |some rs=>rfl
  |none=>exact tZ
noncomputable def Ms:List D->FR:=aR 5 1 (iV Ja lN)
def D0 {n:Nat}{l:List Pr}(O:OM.Ord n l)(h4:n<=4){rs:List (List Int)}{env:En}{β:Int}{fa fb fo:VF D}(hne:rs≠ [])(hz:rs.length<=100)(hp:∀r,r∈rs->Row n l r)
  (ha:fa (vl env) β=.ok (.int n) β) (hb:fb (vl env) β=.ok (.list (rs.map tupI)) β) (ho:fo (vl env) β=.ok (.tuple (l.map aC)) β) :
  dv (f2 (ai lN (aa fa (aa fb ag))) fo (eh false)) (vl env) β=.ok (decide ((OM.bN n).filter (pL rs)=l)) β:=by
 have:=dJ _ _ _ _ (aF (aq (F:=lN) (ds:=[.int n,.list (rs.map tupI)]) (ac ha (ac hb an)) (zy (n:=n) (rows:=rs) (by omega) hz λr hr=>(hp r hr).1)) ho (qO false _ _))
 rw[OV O8,DU hne] at this
 exact this
def NO {n:Nat}{l:List Pr}(O:OM.Ord n l)(h4:n<=4):∃b,Ms [ao n l]=.ok (oQ ((cQ n l 1 []).or (cQ n l 2 []))) b:=by
 suffices h:WP (iV Ja lN [.fz (ao n l),.no,.no,.no,.no] 0) λs=>∃b,fin s=.ok (oQ ((cQ n l 1 []).or (cQ n l 2 []))) b from h.out
 unfold iV
 obtain⟨b,e⟩:=Ls O (by omega)
 refine df (aq (ds:=[ao n l]) rfl e) (wp_at [.fz (ao n l),.fz (.list ((lvl n l n).map tupI)),.no,.no,.no] rfl ?_)
 refine rh tupI (lvl n l n) (λr=>(cQ n l 0 [r]).map λrs=>(oQ (some rs),true)) (λenv b=>∃s2,env= [.fz (ao n l),.fz (.list ((lvl n l n).map tupI)),s2,.no,.no]) rfl ⟨_,rfl⟩ ?_ ?_ ?_
 ·rintro r hr env β ⟨s2,rfl⟩
  refine⟨[.fz (ao n l),.fz (.list ((lvl n l n).map tupI)),.fz (tupI r),.no,.no],rfl,?_⟩
  have t:=D0 O h4 (rs:=[r]) (env:=[.fz (ao n l),.fz (.list ((lvl n l n).map tupI)),.fz (tupI r),.no,.no]) (β:=β) (fa:=f2 (gv 0) (cst (.int 0)) bh) (fb:=cy (aa (gv 2) ag)) (fo:=f2 (gv 0) (cst (.int 1)) bh) (by simp) (by simp) (λq hq=>by rw[O3.mp hq];exact nU O hr) (Ha (n:=n) (l:=l) rfl) (lp (ac rfl an)) (Hx (n:=n) (l:=l) rfl)
  unfold cQ
  by_cases c:(OM.bN n).filter (pL [r])=l
  ·rw[OP c] at t
   rw[OO c]
   exact GR t (vq (d:=.list [tupI r]) (lp (ac rfl an)) (.inl ⟨_,_,_,rfl,rfl⟩))
  ·rw[OY c] at t
   rw[OV c]
   exact Bw t (lr (.inr ⟨rfl,_,_,rfl,_,rfl⟩))
 ·intro v b β h
  rw[tZ] at h
  have e1:cQ n l 1 []=(lvl n l n).findSome? λr=>cQ n l 0 [r]:=rfl
  rw[e1]
  cases q:(lvl n l n).findSome? λr=>cQ n l 0 [r] with
  |none=>rw[q] at h;cases h
  |some rs=>rw[q] at h;cases h;exact⟨_,rfl⟩
 ·rintro h env β ⟨s2,rfl⟩
  rw[tZ] at h
  have e1:cQ n l 1 []=none:=by
   show ((lvl n l n).findSome? λr=>cQ n l 0 [r])=none
   cases q:(lvl n l n).findSome? λr=>cQ n l 0 [r] with
   |none=>rfl
   |some rs=>rw[q] at h;cases h
  rw[e1,Option.none_or]
  refine rh tupI (lvl n l n) (λr=>((lvl n l n).findSome? λq=>cQ n l 0 [r,q]).map λrs=>(oQ (some rs),true)) (λenv b=>∃s2 s3 s4,env= [.fz (ao n l),.fz (.list ((lvl n l n).map tupI)),s2,s3,s4]) rfl ⟨_,_,_,rfl⟩ ?_ ?_ ?_
  ·rintro r hr env β ⟨s2,s3,s4,rfl⟩
   refine⟨[.fz (ao n l),.fz (.list ((lvl n l n).map tupI)),s2,.fz (tupI r),s4],rfl,?_⟩
   rw[<-tZ]
   refine oJ (rh tupI (lvl n l n) (λq=>(cQ n l 0 [r,q]).map λrs=>(oQ (some rs),true)) (λenv b=>∃s2 s4,env= [.fz (ao n l),.fz (.list ((lvl n l n).map tupI)),s2,.fz (tupI r),s4]) rfl ⟨_,_,rfl⟩ ?_ ?_ ?_)
   ·rintro q hq env β ⟨s2,s4,rfl⟩
    refine⟨[.fz (ao n l),.fz (.list ((lvl n l n).map tupI)),s2,.fz (tupI r),.fz (tupI q)],rfl,?_⟩
    have t:=D0 O h4 (rs:=[r,q]) (env:=[.fz (ao n l),.fz (.list ((lvl n l n).map tupI)),s2,.fz (tupI r),.fz (tupI q)]) (β:=β) (fa:=f2 (gv 0) (cst (.int 0)) bh) (fb:=cy (aa (gv 3) (aa (gv 4) ag))) (fo:=f2 (gv 0) (cst (.int 1)) bh) (by simp) (by simp) (λz hz=>by
     rcases OR.mp hz with h |h
     ·rw[h];exact nU O hr
     ·rw[O3.mp h];exact nU O hq) (Ha (n:=n) (l:=l) rfl) (lp (ac rfl (ac rfl an))) (Hx (n:=n) (l:=l) rfl)
    unfold cQ
    by_cases c:(OM.bN n).filter (pL [r,q])=l
    ·rw[OP c] at t
     rw[OO c]
     exact GR t (vq (d:=.list [tupI r,tupI q]) (lp (ac rfl (ac rfl an))) (.inl ⟨_,_,_,rfl,rfl⟩))
    ·rw[OY c] at t
     rw[OV c]
     exact Bw t (lr (.inr ⟨rfl,_,_,rfl,_,_,rfl⟩))
   ·intro v b β h
    exact .inl ⟨v,b,β,h,rfl⟩
   ·rintro h env β ⟨s2,s4,rfl⟩
    exact lr (.inr ⟨h,_,_,rfl,_,_,_,rfl⟩)
  ·intro v b β h
   rw[tZ] at h
   have e2:cQ n l 2 []=(lvl n l n).findSome? λr=>(lvl n l n).findSome? λq=>cQ n l 0 [r,q]:=rfl
   rw[e2]
   cases q:(lvl n l n).findSome? λr=>(lvl n l n).findSome? λq=>cQ n l 0 [r,q] with
   |none=>rw[q] at h;cases h
   |some rs=>rw[q] at h;cases h;exact⟨_,rfl⟩
  ·rintro h env β ⟨s2,s3,s4,rfl⟩
   rw[tZ] at h
   have e2:cQ n l 2 []=none:=by
    show ((lvl n l n).findSome? λr=>(lvl n l n).findSome? λq=>cQ n l 0 [r,q])=none
    cases q:(lvl n l n).findSome? λr=>(lvl n l n).findSome? λq=>cQ n l 0 [r,q] with
    |none=>rfl
    |some rs=>rw[q] at h;cases h
   rw[e2]
   exact gJ (d:=.none) rfl ⟨_,rfl⟩
theorem tw {n:Nat}{l:List Pr}(O:OM.Ord n l):∀(k:Nat) (ch qs:List (List Int)),qs.length=k->(∀q,q∈qs->Row n l q)->(OM.bN n).filter (pL (ch ++ qs))=l->∃rs,cQ n l k ch=some rs
 | 0,ch,qs,hl,_,h=>by
  rw[QO.mp hl,P2] at h
  exact⟨ch,OO h⟩
 |k + 1,ch,[],hl,_,_=>by cases hl
 |k + 1,ch,q :: qs,hl,hr,h=>by
  obtain⟨rs,e⟩:=tw O k (ch ++ [q]) qs (by simpa using hl) (λx hx=>hr x (OS _ hx)) (by rw[PD];exact h)
  have hm:=Fy O (hr q (OU ..))
  cases z:cQ n l (k + 1) ch with
  |some rs=>exact⟨rs,rfl⟩
  |none=>
   have z:((lvl n l n).findSome? λr=>cQ n l k (ch ++ [r]))=none:=z
   rw[List.findSome?_eq_none_iff] at z
   rw[z q hm] at e;cases e
theorem oY {n:Nat}{l:List Pr}(O:OM.Ord n l):∀(k:Nat) (ch rs:List (List Int)),cQ n l k ch=some rs->(∀q,q∈ch->Row n l q)->rs.length=ch.length + k/\(OM.bN n).filter (pL rs)=l/\∀q,q∈rs->Row n l q
 | 0,ch,rs,h,hr=>by
  unfold cQ at h
  split at h
  ·cases h;exact⟨rfl,by assumption,hr⟩
  ·cases h
 |k + 1,ch,rs,h,hr=>by
  have h:((lvl n l n).findSome? λr=>cQ n l k (ch ++ [r]))=some rs:=h
  obtain⟨r,hm,e⟩:=List.exists_of_findSome?_eq_some h
  have:=oY O k (ch ++ [r]) rs e λq hq=>by
   rcases O4.mp hq with z |z
   ·exact hr q z
   ·rw[O3.mp z];exact nU O hm
  rw[OX,Pe] at this
  exact⟨by omega,this.2⟩
theorem xi:∀l:List Pr,bP (l.map aC)=true
 | []=>rfl
 |p :: l=>by
  show (l9 (aC p) && bP (l.map aC))=true
  rw[xi l];rfl
theorem tK:∀g:List Int,bP (g.map int)=true
 | []=>rfl
 |p :: l=>by
  show (l9 (.int p) && bP (l.map int))=true
  rw[tK l];rfl
def Cz (n:Nat)(l:List Pr):bP [ao n l]=true:=by
 show (l9 (.tuple [.int n,.tuple (l.map aC)]) && true)=true
 simp only[l9,bP,xi,QQ]
theorem t9:∀rs:List (List Int),bP (rs.map tupI)=true
 | []=>rfl
 |r :: rs=>by
  show (bP (r.map int) && bP (rs.map tupI))=true
  rw[tK,t9 rs];rfl
noncomputable def JO:List D->FR:=aR 1 1 (du eN)
def Ku {n:Nat}{l:List Pr}(O:OM.Ord n l)(h4:n<=4):JO [ao n l]=.ok .none false:=by
 show fin (du eN [.fz (ao n l)] 0)=_
 unfold du
 have t:dv (f2 (f2 (gv 0) (cst (.int 0)) bh) (cst (.int 4)) N5) (vl [.fz (ao n l)]) 0=.ok (decide ((n:Int) > 4)) 0:=dJ _ _ _ _ (aF (x:=.int n) (y:=.int 4) (Ha (n:=n) (l:=l) rfl) rfl rfl)
 rw[OY (by omega)] at t
 exact gi (pW (aq (ds:=[ao n l]) rfl (lI O)) (Bw t (lr rfl)))
noncomputable def L5:List D->FR:=aR 1 1 (iY JO (j6 GD 40) Nl Ny)
noncomputable def Ij:List D->FR:=oM L5
def N1 {n:Nat}{l:List Pr}(O:OM.Ord n l)(h4:n<=4)(D2:Dm n l 2):∃rs:List (List Int),Ij [ao n l]=.ok (.list (rs.map tupI)) true/\(∃b,Ms [ao n l]=.ok (.list (rs.map tupI)) b)/\rs.length<=2:=by
 have hs:(zv n l).length<=39:=by have:=Iw (l:=l) (n:=n) (by omega);omega
 obtain⟨ws,_,ew,hF⟩:=MI O hs
 have h2:ws.length<=2:=(hF.iff O (by omega)).mp D2
 have h1:1<=ws.length:=hF.pos
 obtain⟨rs,er⟩:=tw O ws.length [] ws rfl hF.row (hF.tell O)
 obtain⟨hz,_,_⟩:=oY O _ _ _ er λq hq=>(by cases hq)
 have e1:L5 [ao n l]=.ok (.list (rs.map tupI)) false:=by
  show fin (iY JO (j6 GD 40) Nl Ny [.fz (ao n l)] 0)=_
  unfold iY
  have:=JQ O h4 ws.length [] 40 (by omega) (by simp;omega) (by simp;omega) λr hr=>(by cases hr)
  rw[er,show ([]:List (List Int)).length + ws.length=ws.length by simp] at this
  exact gi (pW (aq (ds:=[ao n l]) rfl (Ku O h4)) (gJ (aq (ds:=[ao n l,.list ((lvl n l n).map tupI),.list [],.int ((ws.length:Nat):Int)]) (ac rfl (ac (aq (ds:=[ao n l]) rfl (M5 O h4)) (ac (lp an) (ac (aq (ds:=[ao n l]) rfl ew) an)))) this) rfl))
 refine⟨rs,uP e1 (Cz n l) (t9 rs),?_,by rw[hz];simp;omega⟩
 obtain⟨b,el⟩:=NO O h4
 refine⟨b,?_⟩
 rw[el]
 rcases (show ws.length=1\/ws.length=2 by omega) with c |c
 ·rw[c] at er
  rw[er];rfl
 ·rw[c] at er
  have:cQ n l 1 []=none:=by
   cases z:cQ n l 1 [] with
   |none=>rfl
   |some qs=>
    obtain⟨y1,y2,y3⟩:=oY O _ _ _ z λq hq=>(by cases hq)
    have y1:qs.length=1:=by simpa using y1
    have:=z6 O (λy=>by rw[y] at y1;cases y1) y3 y2
    rw[y1] at this
    exact absurd this (hF.least 1 (by omega) (by omega))
  rw[this,er];rfl
def MD {fa:VF D}{fr:VF (List D)}{vs:List Nv}{β β1 β2:Int}{d:D}{ds:List D}(h:fa vs β=.ok d β1)(h':fr vs β1=.ok ds β2):aa fa fr vs β=.ok (d :: ds) β2:=by rw[ie,h];dsimp only[R.bnd];rw[h']
noncomputable def IB:List D->FR:=aR 7 1 (zE DX lN Ms Ij ku uk)
abbrev le (ns:List Int)(i n:Nat)(s4 s5 s6:Sl):En:=[.fz (c6 ns),.fz (.int i),.bx,.fz (.int n),s4,s5,s6]
def KO (ns:List Int):IB [c6 ns]=.ok (.bool true) false:=by
 show fin (zE DX lN Ms Ij ku uk [.fz (c6 ns),.no,.no,.no,.no,.no,.no] 0)=_
 refine gi ?_
 obtain⟨m0,hm0,em⟩:=Ep 2 (by omega) ns (vl [.fz (c6 ns),.no,.no,.no,.no,.no,.no]) 0 rfl
 unfold zE
 refine uw (λ_ env _=>∃s1 s2 s3 s4 s5 s6,env= [.fz (c6 ns),s1,s2,s3,s4,s5,s6]) em ⟨_,_,_,_,_,_,rfl⟩ ?_ λenv β ⟨s1,s2,s3,s4,s5,s6,e⟩=>gJ (d:=.bool true) rfl rfl
 rintro i d env β hi ⟨s1,s2,s3,s4,s5,s6,rfl⟩
 obtain⟨_,rfl⟩:=ip hi
 rw[Qe]
 refine⟨[.fz (c6 ns),.fz (.int i),s2,s3,s4,s5,s6],rfl,?_⟩
 obtain⟨z,ez⟩:=JX ns i
 obtain⟨t3,t4,t5,t6,hcl⟩:∃t3 t4 t5 t6:Sl,(sQ (a9 ([0] ++ ([1] ++ [])) [.fz (c6 ns),.fz (.int i),s2,s3,s4,s5,s6])).set 2 .bx= [.fz (c6 ns),.fz (.int i),.bx,t3,t4,t5,t6]:=⟨_,_,_,_,rfl⟩
 refine FE (wj (ds:=[c6 ns,.int i]) rfl ez) (wp_at _ hcl ?_)
 obtain⟨j,hj,ej⟩:=Cd (m:=4) (by omega) (by omega) z
 generalize hβ1:z / ((4:Nat):Int)=β1 at ej
 have e1:f2 (cst (.int 1)) (xY 2 ku (aa (cst (.int 4)) ag)) cJ (vl [.fz (c6 ns),.fz (.int i),.bx,t3,t4,t5,t6]) z=.ok (.int ((1 + j:Nat):Int)) β1:=by
  refine aF (x:=.int 1) rfl (zl (ds:=[.int 4]) (by rfl) rfl ej) ?_
  show some (int (1 + (j:Int)))=_
  rw[show ((1 + j:Nat):Int)=1 + (j:Int) by omega]
 have h4:1 + j<=4:=by omega
 have n1:1<=1 + j:=by omega
 generalize 1 + j=n at e1 h4 n1
 refine df e1 (wp_at (le ns i n t4 t5 t6) rfl ?_)
 obtain⟨rows,β2,ec,hl,hP⟩:=qD (t:=.nm 0) (fe:=xY 1 uk (aa (f1 (gv 2) iq) ag)) (vs:=iu 1 [2,3] (vl (le ns i n t4 t5 t6))) tupI (λr:List Int=>r.Perm (dN n)) (ds:=fX 0 2) (β:=β1) (by
  intro d hd
  refine⟨[.da d,.bx,.da (.int n)],rfl,λb=>?_⟩
  obtain⟨ms,b',em,pm⟩:=JT (dN n) (by rw[cp];omega) b
  refine⟨ms,b',zl (ds:=[.list ((dN n).map int)]) (β1:=b) (by rfl) ?_ em,pm⟩
  rw[ie,dZ (x:=.int n) (d:=.list ((dN n).map int)) (β1:=b) rfl (xE (by omega))];rfl)
 rw[dO] at hl
 have ef:aK 1 [2,3] (.nm 0) (dM (cst (.int 2))) iB (xY 1 uk (aa (f1 (gv 2) iq) ag)) (vl (le ns i n t4 t5 t6)) β1=.ok (.list (rows.map tupI)) β2:=by
  unfold aK
  rw[dE (n:=2) (β1:=β1) rfl (by omega)]
  dsimp only[R.bnd]
  rw[OO (sz _ (by rw[dO];omega)),ec];rfl
 have hne:rows≠ []:=λz=>by rw[z] at hl;simp at hl
 have O:=AH n1 (by omega:n<=8) hne
 have hr:∀r,r∈rows->Row n ((OM.bN n).filter (oA rows)) r:=λr hr=>⟨hP r hr,by
  unfold sx
  exact O9.mpr λp hp=>OP ((ot.mp (OI.mp hp).2).2 r hr)⟩
 have D2:=z6 O hne hr (DU hne).symm
 rw[hl] at D2
 have e4:cC (aa (gv 3) (aa (ai lN (aa (gv 3) (aa (aK 1 [2,3] (.nm 0) (dM (cst (.int 2))) iB (xY 1 uk (aa (f1 (gv 2) iq) ag))) ag))) ag)) (vl (le ns i n t4 t5 t6)) β1=.ok (ao n ((OM.bN n).filter (oA rows))) β2:=
  jF (MD rfl (MD (aq (ds:=[.int n,.list (rows.map tupI)]) (MD rfl (MD ef an)) (zy (by omega) (by omega) hP)) an)) (by simp)
 generalize (OM.bN n).filter (oA rows)=l at O hr D2 e4
 refine df e4 (wp_at (le ns i n (.fz (ao n l)) t5 t6) rfl ?_)
 obtain⟨rs,f1',⟨b,f2'⟩,hz⟩:=N1 O h4 D2
 refine df (aq (ds:=[ao n l]) rfl f2') (wp_at (le ns i n (.fz (ao n l)) (.fz (.list (rs.map tupI))) t6) rfl ?_)
 refine uJ (wj (ds:=[ao n l]) rfl f1') (wp_at (le ns i n (.fz (ao n l)) (.fz (.list (rs.map tupI))) (.ow (.list (rs.map tupI)))) rfl ?_)
 have k1:gu (f1 (gv 6) (ib "list")) (vl (le ns i n (.fz (ao n l)) (.fz (.list (rs.map tupI))) (.ow (.list (rs.map tupI))))) β2=.ok true β2:=dI (HL (d:=.list (rs.map tupI)) rfl rfl)
 have k2:dv (f2 (gv 6) (gv 5) (eh true)) (vl (le ns i n (.fz (ao n l)) (.fz (.list (rs.map tupI))) (.ow (.list (rs.map tupI))))) β2=.ok false β2:=dJ _ _ _ _ (aF (x:=.list (rs.map tupI)) (y:=.list (rs.map tupI)) rfl rfl (by rw[xW,OO rfl,OP rfl];rfl))
 have k3:gu (f1 (aK 1 [] (.nm 0) (ba (gv 6)) iB (f1 (gv 0) (ib "tuple"))) (bo λbs=>bs.all id)) (vl (le ns i n (.fz (ao n l)) (.fz (.list (rs.map tupI))) (.ow (.list (rs.map tupI))))) β2=.ok true β2:=by
  have:=vF (l:=rs) (f:=λ_=>true) (bI (own:=1) (ixs:=[]) (t:=.nm 0) (fi:=ba (gv 6)) (fe:=f1 (gv 0) (ib "tuple")) (vs:=vl (le ns i n (.fz (ao n l)) (.fz (.list (rs.map tupI))) (.ow (.list (rs.map tupI))))) (β:=β2) (l:=rs) (e:=tupI) (λ_=>PyData.bool true) rfl (by omega) λr hr=>⟨[.da (tupI r)],rfl,dZ (x:=tupI r) rfl rfl⟩)
  rw[O9.mpr λ_ _=>rfl] at this
  exact dI this
 refine nW (tY (eB k1) (tY k2 (eB k3))) (wp_at (le ns i n (.fz (ao n l)) (.fz (.list (rs.map tupI))) (.ow (.list (rs.map tupI)))) rfl ?_)
 refine zh (ds:=rs.map tupI) (d:=.int 0) (β1:=β2) rfl rfl rfl (by rw[OK];omega) (wp_at (le ns i n (.fz (ao n l)) (.fz (.list (rs.map tupI))) (.ow (.list (rs.map tupI ++ [.int 0])))) rfl ?_)
 exact Bw (dJ _ _ _ _ (aF (x:=.list (rs.map tupI)) (y:=.list (rs.map tupI)) (aq (ds:=[ao n l]) rfl f1') rfl (by rw[xW,OO rfl,OP rfl];rfl))) (lr ⟨_,_,rfl,_,_,_,_,_,_,rfl⟩)
end RM
namespace RO
open PySem L2
abbrev kE:Stmt:=RQ.gn
abbrev nK:Stmt:=RQ.top 15
abbrev Fn (K:Frag)(mg:Str->Option Value)(x:Str)(st:Stmt)(ps:List Str)(f:Addr)(fd:FuncData):Prop:=gx K mg x st ps f fd
abbrev Bt (mg:Str->Option Value):Prop:=hX mg
end RO
section
namespace L2
open PySem PySem.Spec PyProof.Rows
section
variable {K:Frag}{H H':Hp}{a:Addr}
theorem bS.snoc {x y:Int}(q:gA K H a [.int x,.int y]):∀{vs:List V} {ps:List (Int×Int)},bS K H vs ps->bS K H (vs ++ [.ref a]) (ps ++ [(x,y)])
 |_,_,.nil=>.cons ⟨a,rfl,q⟩ .nil
 |_,_,.cons r t=>.cons r (bS.snoc q t)
def bS.len {vs:List V}{ps:List (Int×Int)}(h:bS K H vs ps):vs.length=ps.length:=Paired.length h
def bS.same {vs:List V}{ps:List (Int×Int)}(h:bS K H vs ps)(s:av H H'):bS K H' vs ps:=h.grow s.grow
def bS.at {vs:List V}{ps:List (Int×Int)}{i:Nat}{v:V}(h:bS K H vs ps)(e:vs[i]? =some v):∃p:Int×Int,ps[i]? =some p/\∃b,v=.ref b/\gA K H b [.int p.1,.int p.2]:=Paired.getP h e
def av.put {o:HO}(s:av H H')(h:H a=none)(hf:∀x y,H' a≠some (.a9 x y)):av H (L2.upd H' a o):=λb u e=>lR (s b u e) (aM e h) hf
def Hw (h:H a=none):∀x y,H a≠some (.a9 x y):=λx y z=>by rw[h] at z;cases z
def KD {xs:List V}(h:H a=some (.lst xs)):∀x y,H a≠some (.a9 x y):=λx y z=>by rw[h] at z;cases z
end
end L2
namespace RO
open PySem L2
def Cg (N:List Str)(sc:Scope)(NB:List Str)(own:Nat)(ixs:List Nat)(scope:Scope):Bool:=
 decide (scope.kind=.function) && (scope.names.all λy=>decide (scope.names.lookup y.1=some y.2)) &&
 (scope.names.all λy=>decide (y.2=.free->(sc.names.lookup y.1=some .cell\/sc.names.lookup y.1=some .free))) && decide NB.Nodup && decide (NB.length=own + ixs.length) &&
 ((List.range ixs.length).all λk=>decide (NB[own + k]? =N[ixs.getD k 0]?) && (match NB[own + k]? with |some x=>decide ((x,NameKind.free)∈scope.names) |none=>true))
def oC {X:Cx}{NB:List Str}{own:Nat}{ixs:List Nat}{scope:Scope}(h:Cg X.N X.env.scope NB own ixs scope=true):cg X NB own ixs scope:=by
 unfold Cg at h
 simp only[O2,O9,O5,PL] at h
 obtain⟨⟨⟨⟨⟨h1,h3⟩,h4⟩,h5⟩,h6⟩,h7⟩:=h
 refine⟨h1,h3,h4,h5,h6,λk hk=>⟨(h7 k hk).1,λx hx=>?_⟩⟩
 have:=(h7 k hk).2
 rw[hx] at this
 simpa using this
section
variable {X:Cx}{tg l:Expr}{tl:TE}{K:Frag}{H H1:Hp}{a:Addr}{xs:List V}{σ:St}
def ML (K:Frag)(tl:TE):TI:=λσ H R=>tl σ H λx H1=>∃a xs,x=.ref a/\((iF K H1 a xs/\R (AX K a) H1)\/(gA K H1 a xs/\R (HA K a) H1))
end
def Oa (K:Frag){X:Cx}(h:X.K=K:=by rfl):CU X (IV K):=by subst h;exact iW
def J0 (K:Frag)(i j:Nat){X:Cx}{x y:Str}{px py pos:Pos}{k:Nat}(hN:X.N.Nodup)(hi:X.N[i]? =some x)(hj:X.N[j]? =some y)(hx:X.env.scope.names.lookup x=some .local)(hy:X.env.scope.names.lookup y=some .local)(hc:X.calm=true)(hK:X.K=K) :
  PG X (.Tuple [.Name x px,.Name y py] k pos) (EM K 2 (qX (mY i) (qX (mY j) GF))):=by
 subst hK
 exact qW hc (eO (dq hN hi (Or.inl hx) (Or.inr hx)) (eO (dq hN hj (Or.inl hy) (Or.inr hy)) nJ))
section
open PySem.Spec PyProof.Rows
variable {X:Cx}{tg l:Expr}{tl:TE}
def Kd (hl:PE X l tl):PI X tg l (ML X.K tl):=by
 intro pins s σ H R I h
 refine cO (hl pins s σ H _ I h) λv s1 ⟨x,H1,I1,r1,q1⟩=>?_
 obtain⟨a,xs,e,q⟩:=q1
 subst e
 cases r1
 rcases q with⟨hq,q⟩ | ⟨hq,q⟩
 ·obtain⟨its,rv,p,hz⟩:=I1.list hq
  refine QJ p.isList ?_
  refine⟨s1.heap.objs.size,[s1.heap.objs.size],_,_,H1,rfl,I1.kept (t':=s1.toks) λb o e=>OL _ e,oK a _,⟨_,O0 _ rfl,rfl,rfl⟩,λb hb=>?_,q⟩
  have e:b=s1.heap.objs.size:=by simpa using hb
  subst e
  exact I1.fpOk (ON _) (I1.hok.fresh (ON _))
 ·obtain⟨its,rv,p,hz⟩:=I1.tuple hq
  refine QR (show s1.heap.IsTuple a its.toArray from p) ?_
  refine⟨s1.heap.objs.size,[s1.heap.objs.size],_,_,H1,rfl,I1.kept (t':=s1.toks) λb o e=>OL _ e,qS a _,⟨_,O0 _ rfl,rfl,rfl⟩,λb hb=>?_,q⟩
  have e:b=s1.heap.objs.size:=by simpa using hb
  subst e
  exact I1.fpOk (ON _) (I1.hok.fresh (ON _))
end
section
variable {K:Frag}{H H1 H':Hp}{a:Addr}{xs:List V}{σ:St}
abbrev LP (J:It)(g:TG)(tb:TS)(D:Ends)(σ:St)(H:Hp):Prop:=∃W:Nat->Nat->St->Hp->Prop,(∃m,W 0 m σ H)/\∀i m σ H,W i m σ H->
   (J.stop i H/\D.nx σ H)\/(J.go i H/\∃N:St->Hp->Prop,(∀σ' H',N σ' H'->∃m',m' < m/\W (i + 1) m' σ' H')/\∀x H',J.yld i H x H'->g x σ H' λσ2 H2=>tb {D with nx:=N,ct:=N,bk:=D.nx} σ2 H2)
def E9 (s:av H1 H')(hq:iF K H1 a xs\/gA K H1 a xs):iF K H' a xs\/gA K H' a xs:=hq.elim (λq=>.inl (s.seq q)) λq=>.inr (q.grow s.grow)
def E8 {g:TG}{tb:TS}{D:Ends}(hq:iF K H1 a xs\/gA K H1 a xs)(Pv:Nat->St->Hp->Prop)(h0:Pv 0 σ H)(hl:∀i σ H',Pv i σ H'->av H1 H')
  (hs:∀i x σ H,xs[i]? =some x->Pv i σ H->g x σ H λσ2 H2=>tb {D with nx:=Pv (i + 1),ct:=Pv (i + 1),bk:=D.nx} σ2 H2) (hd:∀σ H,Pv xs.length σ H->D.nx σ H) :
  (iF K H a xs/\LP (AX K a) g tb D σ H)\/(gA K H a xs/\LP (HA K a) g tb D σ H):=
 hq.elim (λq=>.inl ⟨(hl _ _ _ h0).seq q,wM Pv h0 (λi σ H' _ p=>(hl i σ H' p).seq q) hs hd⟩) λq=>.inr ⟨q.grow (hl _ _ _ h0).grow,EJ Pv h0 (λi σ H' _ p=>q.grow (hl i σ H' p).grow) hs hd⟩
def zV (J:It)(own:Nat)(ixs:List Nat)(g:TG)(tt:TT)(te:TE)(Q:VK)(D:Addr)(σ:St)(H:Hp):Prop:=∃W:Nat->Nat->St->Hp->Prop,(∃m,W 0 m (bO own ixs σ) (upd H D (.lst [])))/\∀i m σ' H',W i m σ' H'->
   (J.stop i H'/\(∃acc,H' D=some (.lst acc))/\Q (.ref D) H')\/
   (J.go i H'/\∃N:St->Hp->Prop,(∀σ2 H2,N σ2 H2->∃m',m' < m/\W (i + 1) m' σ2 H2)/\∀x H2,J.yld i H' x H2->gm g tt te D x σ' H2 N)
structure wd (own:Nat)(ixs:List Nat)(wi:TI)(g:TG)(tt:TT)(te:TE)(σ:St)(H:Hp)(Q:VK):Prop where
 out:wi σ H λJ H1=>∀D,H1 D=none->zV J own ixs g tt te Q D σ H1
def yt {own:Nat}{ixs:List Nat}{wi:TI}{g:TG}{tt:TT}{te:TE}{Q:VK}(h:wi σ H λJ H1=>∀D,H1 D=none->zV J own ixs g tt te Q D σ H1):wd own ixs wi g tt te σ H Q:=⟨h⟩
def uH {X:Cx}{NB:List Str}{own:Nat}{ixs:List Nat}{scope:Scope}{tg iter elt:Expr}{ifs:List Expr}{wi:TI}{g:TG}{tt:TT}{te:TE}{pos:Pos}(hc:X.calm=true)(S:cg X NB own ixs scope)(hi:PI X tg iter wi)
  (hg:∀C ex s3 H3 pn,PG (jq X NB scope C ex s3 H3 pn) tg g) (ht:∀C ex s3 H3 pn,DW (jq X NB scope C ex s3 H3 pn) ifs tt) (he:∀C ex s3 H3 pn,PE (jq X NB scope C ex s3 H3 pn) elt te)
  (hs:∀x,foldedSetIterable iter X.env x=pure x:=by intro _;rfl):PE X (.ListComp elt [⟨tg,iter,ifs,0⟩] scope pos) (wd own ixs wi g tt te):=
 λpins s σ H Q I h=>xg hc S hi hg ht he hs pins s σ H Q I h.out
section
variable {own:Nat}{ixs:List Nat}{g:TG}{tt:TT}{te:TE}{Q:VK}{D:Addr}
def EN (Pv:Nat->St->Hp->Prop)(h0:Pv 0 (bO own ixs σ) (upd H D (.lst [])))(hl:∀i σ H,i<=xs.length->Pv i σ H->iF K H a xs)
  (hs:∀i x σ H,xs[i]? =some x->Pv i σ H->gm g tt te D x σ H (Pv (i + 1))) (hd:∀σ H,Pv xs.length σ H->(∃acc,H D=some (.lst acc))/\Q (.ref D) H):zV (AX K a) own ixs g tt te Q D σ H:=AZ Pv h0 hl hs hd
def wo {lo:Int}{n:Nat}(Pv:Nat->St->Hp->Prop)(h0:Pv 0 (bO own ixs σ) (upd H D (.lst [])))
  (hs:∀i σ H,i < n->Pv i σ H->gm g tt te D (.int (lo + i)) σ H (Pv (i + 1))) (hd:∀σ H,Pv n σ H->(∃acc,H D=some (.lst acc))/\Q (.ref D) H):zV (Ea lo n) own ixs g tt te Q D σ H:=yY Pv h0 hs hd
end
def xl {i:Nat}{te:TE}{D:Addr}{x:V}{N:St->Hp->Prop}(h:te (σ.set i (some x)) H λv H5=>∃acc,H5 D=some (.lst acc)/\acc.length < sizeLine/\N (σ.set i (some x)) (upd H5 D (.lst (acc ++ [v])))):gm (mY i) HZ te D x σ H N:=by
 unfold gm mY HZ
 exact sP h
def Dj {i j:Nat}{x y:V}{Q:St->Hp->Prop}(h:gA K H a [x,y])(q:Q ((σ.set i (some x)).set j (some y)) H):EM K 2 (qX (mY i) (qX (mY j) GF)) (.ref a) σ H Q:=⟨a,_,rfl,h,rfl,x,_,rfl,y,_,rfl,rfl,q⟩
def MQ {c A B:Prop}[Decidable c](h:c)(a:A):if c then A else B:=by rw[OO h];exact a
def NK {c A B:Prop}[Decidable c](h:¬c)(b:B):if c then A else B:=by rw[OV h];exact b
def take_snoc {α:Type}{l:List α}{i:Nat}{x:α}(h:l[i]? =some x):l.take (i + 1)=l.take i ++ [x]:=by
 rw[List.take_add_one,h];rfl
def take_all {α:Type}(l:List α):l.take l.length=l:=QU (ON _)
end
def eV (n:Nat):(OM.bN n).length=n * n:=by unfold OM.bN;simp
def GL {n i:Nat}(h:i < n * n):(OM.bN n)[i]? =some (((i / n:Nat):Int),((i % n:Nat):Int)):=by
 unfold OM.bN
 rw[OW,Qj h];rfl
def Ob {n:Nat}(h:n<=8):n * n<=64:=Qf h h
section
variable {P:Program}{w:World}{K:Frag}{mg:Str->Option Value}{base:Heap}
def AB (K:Frag):Sp:=λvs H Q _=>∃n:Nat,vs= [.int n]/\1<=n/\n<=8/\∀H' l ws,av H H'->H l=none->H' l=some (.lst ws)->bS K H' ws (OM.bN n)->Q (.ref l) H'
def Fe:aH ["many"] ["many"] (ar kE):=⟨rfl,rfl,rfl,by decide +kernel,rfl,by decide +kernel,by decide +kernel⟩
def Lg:(["number","many"]:List Str).Nodup:=by decide +kernel
def Dk {f:Addr}{fd:FuncData}(F:Fn K mg "every_pair" kE ["many"] f fd)(B:Bt mg):fA P w K mg base JF 1 f fd ["many"] (AB K):=by
 refine F.F.ok Fe (λvs H Q E h=>?_) (λcdv A outer s H vs Q E hr h=>?_)
 ·obtain⟨n,rfl,_⟩:=h;rfl
 ·obtain⟨n,rfl,h1,h8,k⟩:=h
  refine⟨_,jt (oP (uH (NB:=["number","many"]) (own:=1) (ixs:=[0]) rfl (oC (by kernel_rfl)) (mH rfl B.range (a8 (tT l5 (pv 0) (pv 0)) bV))
   (λC ex s3 H3 pn=>dq (i:=0) Lg rfl (Or.inl rfl) (hf:=Or.inr rfl)) (λC ex s3 H3 pn=>ux)
   (λC ex s3 H3 pn=>yH (a8 (tT uY (pv 0) (pv 1)) (a8 (tT nC (pv 0) (pv 1)) bV))))),?_⟩
  have hn:=Ob h8
  have e0:((n:Int) * (n:Int))=((n * n:Nat):Int):=by rw[Int.natCast_mul]
  refine yt ⟨_,rfl,_,rfl,_,_,rfl,rfl,.inl ⟨by omega,by omega⟩,_,rfl,by rw[e0];omega,by rw[e0];omega,λD hD=>?_⟩
  rw[e0,Pu]
  refine wo (λi σ' H'=>(∃v,σ'= [v,some (.int n)])/\av H H'/\∃vs,H' D=some (.lst vs)/\bS K H' vs ((OM.bN n).take i)) ⟨⟨none,rfl⟩,(av.refl H).put hD (Hw hD),[],aE,.nil⟩ ?_ ?_
  ·rintro i σ' H' hi ⟨⟨v,rfl⟩,s1,vs,hv,hp⟩
   have hn0:(0:Int) < (n:Int):=by omega
   refine xl ⟨_,rfl,_,rfl,_,_,rfl,rfl,⟨hn0,by omega⟩,_,rfl,_,rfl,_,_,rfl,rfl,hn0,by show 2<=sizeLine;rw[PJ];omega,λp hp0=>?_⟩
   have hpD:D≠p:=aM hv hp0
   have hl:=hp.len
   refine⟨vs,by rw[aA hpD];exact hv,?_,⟨_,rfl⟩,?_,vs ++ [.ref p],aE,?_⟩
   ·rw[hl,PZ,PJ];rw[eV];omega
   ·exact (s1.put (s1.free hp0) (Hw hp0)).put hD (KD (xs:=vs) (by rw[aA hpD];exact hv))
   ·rw[take_snoc (GL hi)]
    have g1:jr H' (upd H' p (.tup [.int ((0 + (i:Int)) / n),.int ((0 + (i:Int)) % n)])):=jr.new hp0
    have g2:∀o,jr (upd H' p (.tup [.int ((0 + (i:Int)) / n),.int ((0 + (i:Int)) % n)])) (upd (upd H' p (.tup [.int ((0 + (i:Int)) / n),.int ((0 + (i:Int)) % n)])) D o):=λo=>jr.list (by rw[aA hpD];exact hv)
    refine bS.snoc ?_ (hp.grow (g1.trans (g2 _)))
    refine (gA.grow ?_ (g2 _))
    refine .inl (.inl ?_)
    rw[aE,Qe];rfl
  ·rintro σ' H' ⟨_,s1,vs,hv,hp⟩
   refine⟨⟨_,hv⟩,k H' D vs s1 hD hv ?_⟩
   rw[<-eV n,take_all] at hp
   exact hp
end
end RO
end
namespace RO
open PySem L2
structure TabAt (n:Nat)(M:OM.Tb)(L:Addr)(r:Nat->Addr)(H:Hp):Prop where
 top:H L=some (.lst ((List.range n).map λi=>V.ref (r i)))
 row:∀i,i < n->H (r i)=some (.lst ((List.range n).map λj=>V.bl (M i j)))
 inj:∀i j,i < n->j < n->r i=r j->i=j
 ne:∀i,i < n->r i≠L
def zI {n x:Nat}(h:x < n):tD n (x:Int)=some x:=by
 unfold tD;rw[OO (by omega),OO (by omega)];simp
def Eg {α:Type}{xs:List α}{x:Nat}(h:x < xs.length):ki xs (x:Int)=xs[x]?:=by
 unfold ki;rw[zI h];rfl
def iy {f:Nat->V}{n x:Nat}(h:x < n):ki ((List.range n).map f) (x:Int)=some (f x):=by
 rw[Eg (by simpa using h),OW,Qj h];rfl
def tm {f:Nat->V}{n x:Nat}(h:x < n):tD ((List.range n).map f).length (x:Int)=some x:=by
 rw[OK,Qb];exact zI h
def BZ {f:Nat->V}{n y:Nat}{v:V}:((List.range n).map f).set y v=(List.range n).map λj=>if j=y then v else f j:=by
 apply List.ext_getElem?
 intro i
 by_cases hi:i < n
 ·by_cases e:y=i
  ·subst e;simp[List.getElem?_set,hi]
  ·have e':¬i=y:=λz=>e z.symm
   simp[List.getElem?_set,hi,e,e']
 ·rw[Ql (by simp;omega),Ql (by simp;omega)]
section
variable {n:Nat}{M:OM.Tb}{L:Addr}{r:Nat->Addr}{H H':Hp}
def TabAt.set (T:TabAt n M L r H){x y:Nat}(hx:x < n):TabAt n (M.set x y) L r (upd H (r x) (.lst (((List.range n).map λj=>V.bl (M x j)).set y (.bl true)))):=by
 refine⟨by rw[aA (T.ne x hx).symm];exact T.top,λi hi=>?_,T.inj,T.ne⟩
 by_cases e:i=x
 ·subst e
  rw[aE,BZ]
  refine congrArg _ (congrArg _ (P5 λj _=>?_))
  unfold OM.Tb.set
  by_cases c:j=y
  ·simp[c]
  ·simp[c]
 ·rw[aA (λz=>e (T.inj i x hi hx z)),T.row i hi]
  refine congrArg _ (congrArg _ (P5 λj _=>?_))
  unfold OM.Tb.set;simp[e]
def TabAt.same (T:TabAt n M L r H)(s:av H H'):TabAt n M L r H':=⟨s _ _ T.top,λi hi=>s _ _ (T.row i hi),T.inj,T.ne⟩
end
def uq {n:Nat}{ps:List (Int×Int)}(w:OM.Wn n ps){p:Int×Int}(h:p∈ps):∃u v:Nat,p=((u:Int),(v:Int))/\u < n/\v < n:=by
 obtain⟨x,y⟩:=p
 have q:=w _ h
 simp only at q
 exact⟨x.toNat,y.toNat,by rw[Int.toNat_of_nonneg q.1.1,Int.toNat_of_nonneg q.2.1],by omega,by omega⟩
def jC {M0 M:OM.Tb}{m:Nat}{D D':Nat->Nat->Prop}(P:OM.Phase M0 M m D)(h:∀a b,D a b↔D' a b):OM.Phase M0 M m D':=λa b=>by rw[P a b,h a b]
def mD {l:List (Int×Int)}{u v a b:Nat}:(((a:Int),(b:Int))∈l\/(a=u/\b=v))↔((a:Int),(b:Int))∈l ++ [((u:Int),(v:Int))]:=by
 rw[O4,O3,Prod.mk.injEq]
 constructor
 ·rintro (h | ⟨h1,h2⟩)
  ·exact .inl h
  ·exact .inr ⟨by omega,by omega⟩
 ·rintro (h | ⟨h1,h2⟩)
  ·exact .inl h
  ·exact .inr ⟨by omega,by omega⟩
def Gx {M:OM.Tb}{u v a b:Nat}:M.set u v a b=true↔M a b=true\/(a=u/\b=v):=by
 unfold OM.Tb.set
 by_cases c:a=u/\b=v
 ·simp[c]
 ·rw[OV c];exact⟨.inl,λh=>h.resolve_right c⟩
def KC (n:Nat)(x:V):(List.replicate n [x]).flatten=(List.range n).map λ_=>x:=by
 rw[List.flatten_replicate_singleton,List.map_const',Qb]
section
variable {P:Program}{w:World}{K:Frag}{mg:Str->Option Value}{base:Heap}
def D4 (K:Frag):Sp:=λvs H Q _=>∃(n:Nat) (a:Addr) (xs:List V) (ps:List (Int×Int)),vs= [.int n,.ref a]/\1<=n/\n<=8/\(iF K H a xs\/gA K H a xs)/\bS K H xs ps/\OM.Wn n ps/\
 ∀H' t ws,av H H'->H t=none->H' t=some (.tup ws)->bS K H' ws (OM.mR n (OM.Tr (OM.Mem ps)))->Q (.ref t) H'
def ig:aH ["many","pairs","corners","leads","a","b","middle"] ["many","pairs"] (ar nK):=⟨rfl,rfl,rfl,by decide +kernel,rfl,by decide +kernel,by decide +kernel⟩
def Kz:(["start","many"]:List Str).Nodup:=by decide +kernel
def Ih:(["a","b","leads"]:List Str).Nodup:=by decide +kernel
set_option maxHeartbeats 1000000 in
theorem BM {f g:Addr}{fd gd:FuncData}(F:Fn K mg "closed" nK ["many","pairs"] f fd)(G:Fn K mg "every_pair" kE ["many"] g gd)(GE:fA P w K mg base JF 1 g gd ["many"] (AB K))(B:Bt mg):fA P w K mg base JF 2 f fd ["many","pairs"] (D4 K):=by
 refine F.F.ok ig (λvs H Q E h=>?_) (λcdv A outer s H vs Q E hr h=>?_)
 ·obtain⟨n,a,xs,ps,rfl,_⟩:=h;rfl
 ·obtain⟨n,a,xs,ps,rfl,h1,h8,hq,hp,wn,k⟩:=h
  refine⟨_,jd (qq (i:=2) ig.nd rfl (Or.inl rfl) (mP GE hr rfl G.mg G.F.kp G.b .nil K4 (a8 (pv 0) bV)))
   (jd (qq (i:=3) ig.nd rfl (Or.inr rfl) (uH (NB:=["start","many"]) (own:=1) (ixs:=[0]) rfl (oC (by kernel_rfl)) (mH rfl B.range (a8 (pv 0) bV))
    (λC ex s3 H3 pn=>dq (i:=0) Kz rfl (Or.inl rfl) (hf:=Or.inr rfl)) (λC ex s3 H3 pn=>ux) (λC ex s3 H3 pn=>tT CP (C1 (a8 Av bV)) (pv 1))))
   (jd (vp PassesOwn.never rfl (Kd (pv 1)) (qW rfl (eO (dq (i:=4) ig.nd rfl (Or.inl rfl)) (eO (dq (i:=5) ig.nd rfl (Or.inl rfl)) nJ)))
    (jt (rg Av (uM (m6 iW (pv 3) (pv 4) (λ_ _=>rfl)) (pv 5) set_list))))
   (jd (vp PassesOwn.never rfl (mH rfl B.range (a8 (pv 0) bV)) (dq (i:=6) ig.nd rfl (Or.inl rfl))
    (jt (vp PassesOwn.never rfl (zT (pv 2)) (qW rfl (eO (dq (i:=4) ig.nd rfl (Or.inl rfl)) (eO (dq (i:=5) ig.nd rfl (Or.inl rfl)) nJ)))
     (jt (HK (PW.pt (CC (zi (m6 iW (m6 iW (pv 3) (pv 4) (λ_ _=>rfl)) (pv 6) (λ_ _=>rfl))) (Aj (zi (m6 iW (m6 iW (pv 3) (pv 6) (λ_ _=>rfl)) (pv 5) (λ_ _=>rfl))))))
      (jt (rg Av (uM (m6 iW (pv 3) (pv 4) (λ_ _=>rfl)) (pv 5) set_list))) zM)))))
   (jt (oP (j9 cL rfl B.tuple (by decide +kernel) (a8 (uH (NB:=["a","b","leads"]) (own:=2) (ixs:=[3]) rfl (oC (by kernel_rfl)) (zT (pv 2))
    (λC ex s3 H3 pn=>J0 K 0 1 Ih rfl rfl rfl rfl rfl rfl)
    (λC ex s3 H3 pn=>Ak (zi (m6 (Oa K) (m6 (Oa K) (pv 2) (pv 0) (λ_ _=>rfl)) (pv 1) (λ_ _=>rfl)))) (λC ex s3 H3 pn=>yH (a8 (pv 0) (a8 (pv 1) bV)))) bV))))))),?_⟩
  have hn:=Ob h8
  have hn0:(0:Int)<=(n:Int):=by omega
  refine⟨_,rfl,n,rfl,h1,h8,λH1 c ws s1 hc0 hc hw=>?_⟩
  have hwl:ws.length=n * n:=by rw[hw.len,eV]
  have gw:OM.Wn n (OM.bN n):=λp hp=>OM.bD.mp hp
  refine yt ?_
  refine⟨_,rfl,n,rfl,by omega,by omega,λD hD=>?_⟩
  rw[Pu]
  refine wo (λi σ' H'=>(∃v,σ'= [v,some (.int n)])/\av H1 H'/\∃r:Nat->Addr,H' D=some (.lst ((List.range i).map λk=>V.ref (r k)))/\
   (∀k,k < i->H' (r k)=some (.lst ((List.range n).map λ_=>V.bl false))/\H1 (r k)=none/\r k≠D)/\∀j k,j < i->k < i->r j=r k->j=k)
   ?_ ?_ ?_
  ·exact⟨⟨none,rfl⟩,(av.refl H1).put hD (Hw hD),λ_=>0,aE,λk hk=>absurd hk (Nat.not_lt_zero _),λj k hj=>absurd hj (Nat.not_lt_zero _)⟩
  ·rintro i σ' H' hi ⟨⟨v,rfl⟩,s2,r,hr0,hr1,hr2⟩
   refine xl ⟨by show 1<=sizeLine;rw[PJ];omega,λp hp0=>⟨_,rfl,p,n,[.bl false],rfl,rfl,aE,by omega,by omega,by show 1 * (n:Int).toNat<=sizeLine;rw[PJ];omega,λq hq0=>?_⟩⟩
   have hqp:q≠p:=by intro e;subst e;rw[aE] at hq0;cases hq0
   have hq1:H' q=none:=by rw[aA hqp] at hq0;exact hq0
   have hDp:D≠p:=aM hr0 hp0
   have hDq:D≠q:=aM hr0 hq1
   rw[Pu,KC]
   refine⟨_,by rw[aA hDq,aA hDp];exact hr0,by rw[OK,Qb,PJ];omega,⟨_,rfl⟩,((s2.put (s2.free hp0) (Hw hp0)).put (s2.free hq1) (Hw hq0)).put hD (KD (by rw[aA hDq,aA hDp];exact hr0)),λk=>if k=i then q else r k,?_,λk hk=>?_,λj k hj hk e=>?_⟩
   ·have e:(List.range i).map (λk=>V.ref (r k))=(List.range i).map (λk=>V.ref (if k=i then q else r k)):=P5 λk hk=>by
     have:=PL.mp hk
     rw[OV (by omega)]
    rw[aE,List.range_succ,Pq,e]
    simp
   ·dsimp only
    by_cases e:k=i
    ·rw[OO e]
     exact⟨by rw[aA hDq.symm,aE],s2.free hq1,hDq.symm⟩
    ·rw[OV e]
     obtain⟨a1,a2,a3⟩:=hr1 k (by omega)
     exact⟨by rw[aA a3,aA (aM a1 hq1),aA (aM a1 hp0)];exact a1,a2,a3⟩
   ·dsimp only at e
    by_cases ej:j=i
    ·by_cases ek:k=i
     ·omega
     ·rw[OO ej,OV ek] at e
      exact absurd e.symm (aM (hr1 k (by omega)).1 hq1)
    ·by_cases ek:k=i
     ·rw[OV ej,OO ek] at e
      exact absurd e (aM (hr1 j (by omega)).1 hq1)
     ·rw[OV ej,OV ek] at e
      exact hr2 j k (by omega) (by omega) e
  rintro σ2 H2 ⟨_,s2,r,hr0,hr1,hr2⟩
  refine⟨⟨_,hr0⟩,?_⟩
  have sep:∀i,i < n->H1 (r i)=none:=λi hi=>(hr1 i hi).2.1
  have T0:TabAt n (λ_ _=>false) D r H2:=⟨hr0,λi hi=>(hr1 i hi).1,hr2,λi hi=>(hr1 i hi).2.2⟩
  refine⟨_,rfl,a,xs,rfl,E8 (H1:=H1) (E9 s1 hq) (λi σ' H'=>(∃x y,σ'= [some (.int n),some (.ref a),some (.ref c),some (.ref D),x,y,none])/\av H1 H'/\∃M,TabAt n M D r H'/\∀u v:Nat,M u v=true↔((u:Int),(v:Int))∈ps.take i)
   ⟨⟨none,none,rfl⟩,s2,_,T0,λu v=>by simp⟩ (λi σ' H' q=>q.2.1) ?_ ?_⟩
  ·rintro i x σ' H' hx ⟨⟨_,_,rfl⟩,s3,M,T,hM⟩
   obtain⟨p,hpi,b,rfl,hb⟩:=(hp.same (s1.trans s3)).at hx
   obtain⟨u,v,rfl,hu,hv⟩:=uq wn (Pb hpi)
   refine Dj hb ?_
   refine⟨_,rfl,_,rfl,D,_,u,_,rfl,rfl,.inl (.inl T.top),iy hu,_,rfl,r u,_,v,v,rfl,rfl,T.row u hu,tm hv,⟨_,_,rfl⟩,s3.put (sep u hu) (KD (T.row u hu)),_,T.set hu,λx y=>?_⟩
   rw[take_snoc hpi,<-mD,Gx,hM]
  rintro σ3 H3 ⟨⟨x3,y3,rfl⟩,s3,M3,T3,hM3⟩
  rw[hp.len,take_all] at hM3
  refine⟨_,rfl,n,rfl,by omega,by omega,?_⟩
  rw[Pu]
  refine AN (λm σ' H'=>(∃x y z,σ'= [some (.int n),some (.ref a),some (.ref c),some (.ref D),x,y,z])/\av H1 H'/\∃M,TabAt n M D r H'/\OM.Tab n ps M/\OM.Gh M m)
   ⟨⟨_,_,_,rfl⟩,s3,M3,T3,⟨λa b h=>by have:=wn _ ((hM3 a b).mp h);simp only at this;omega,λa b h=>(hM3 a b).mpr h,λa b h=>.one ((hM3 a b).mp h)⟩,λk a b hk=>absurd hk (Nat.not_lt_zero _)⟩ ?_ ?_
  ·rintro m σ' H' hm ⟨⟨_,_,_,rfl⟩,s4,M,T,TT,Th⟩
   rw[Qe]
   refine⟨_,rfl,c,rfl,⟨ws,.inl (.inl (s4 _ _ hc))⟩,wM (xs:=ws) (λi σ' H'=>(∃x y,σ'= [some (.int n),some (.ref a),some (.ref c),some (.ref D),x,y,some (.int m)])/\av H1 H'/\∃M',TabAt n M' D r H'/\OM.Phase M M' m λu v=>((u:Int),(v:Int))∈(OM.bN n).take i)
    ⟨⟨_,_,rfl⟩,s4,M,T,jC (OM.Phase.start M m) λa b=>by simp⟩ (λi σ' H' _ q=>.inl (.inl (q.2.1 _ _ hc))) ?_ ?_⟩
   ·rintro i x σ' H' hx ⟨⟨_,_,rfl⟩,s5,M',T',Ph⟩
    obtain⟨p,hpi,b,rfl,hb⟩:=(hw.same s5).at hx
    obtain⟨u,v,rfl,hu,hv⟩:=uq gw (Pb hpi)
    refine Dj hb ?_
    have st:=Ph.step u v
    refine⟨_,rfl,_,rfl,D,_,u,_,rfl,rfl,.inl (.inl T'.top),iy hu,_,rfl,r u,_,m,_,rfl,rfl,.inl (.inl (T'.row u hu)),iy hm,_,rfl,?_⟩
    by_cases c1:M' u m=true
    ·refine MQ c1 ?_
     refine⟨_,rfl,_,rfl,D,_,m,_,rfl,rfl,.inl (.inl T'.top),iy hm,_,rfl,r m,_,v,_,rfl,rfl,.inl (.inl (T'.row m hm)),iy hv,_,rfl,?_⟩
     by_cases c2:M' m v=true
     ·refine MQ c2 ?_
      rw[OO ⟨c1,c2⟩] at st
      refine⟨_,rfl,_,rfl,D,_,u,_,rfl,rfl,.inl (.inl T'.top),iy hu,_,rfl,r u,_,v,v,rfl,rfl,T'.row u hu,tm hv,⟨_,_,rfl⟩,s5.put (sep u hu) (KD (T'.row u hu)),_,T'.set hu,jC st λa b=>?_⟩
      rw[take_snoc hpi];exact mD
     ·refine NK c2 ?_
      rw[OV λz=>c2 z.2] at st
      refine⟨⟨_,_,rfl⟩,s5,_,T',jC st λa b=>?_⟩
      rw[take_snoc hpi];exact mD
    ·refine NK c1 ?_
     rw[OV λz=>c1 z.1] at st
     refine sv ⟨⟨_,_,rfl⟩,s5,_,T',jC st λa b=>?_⟩
     rw[take_snoc hpi];exact mD
   ·rintro σ' H' ⟨⟨_,_,rfl⟩,s5,M',T',Ph⟩
    rw[hw.len,take_all] at Ph
    have dn:=Ph.done (n:=n) (λa b ha hb=>OM.bD.mpr ⟨⟨by simp,by simp;omega⟩,by simp,by simp;omega⟩) TT.inn Th
    exact⟨⟨_,_,_,rfl⟩,s5,M',T',TT.phase Ph,dn.1⟩
  rintro σ4 H4 ⟨⟨x4,y4,z4,rfl⟩,s4,M,T,TT,Th⟩
  refine yt ⟨_,rfl,c,rfl,⟨ws,.inl (.inl (s4 _ _ hc))⟩,λD' hD'=>EN (xs:=ws) (λi σ' H'=>(∃x y,σ'= [x,y,some (.ref D)])/\av H4 H'/\∃vs,H' D'=some (.lst vs)/\bS K H' vs (((OM.bN n).take i).filter λp=>M p.1.toNat p.2.toNat))
   ⟨⟨_,_,rfl⟩,(av.refl H4).put hD' (Hw hD'),[],aE,.nil⟩ (λi σ' H' _ q=>.inl (.inl (q.2.1 _ _ (s4 _ _ hc)))) ?_ ?_⟩
  ·rintro i x σ' H' hx ⟨⟨_,_,rfl⟩,s5,vs,hv,hpv⟩
   obtain⟨p,hpi,b,rfl,hb⟩:=(hw.same (s4.trans s5)).at hx
   obtain⟨u,v,rfl,hu,hv'⟩:=uq gw (Pb hpi)
   refine Dj hb ?_
   have T':=T.same s5
   refine⟨_,rfl,_,rfl,D,_,u,_,rfl,rfl,.inl (.inl T'.top),iy hu,_,rfl,r u,_,v,_,rfl,rfl,.inl (.inl (T'.row u hu)),iy hv',_,rfl,?_⟩
   by_cases c1:M u v=true
   ·refine MQ c1 ?_
    refine⟨_,rfl,_,rfl,by show 2<=sizeLine;rw[PJ];omega,λp hp0=>?_⟩
    have hpD:D'≠p:=aM hv hp0
    refine⟨vs,by rw[aA hpD];exact hv,?_,⟨_,_,rfl⟩,(s5.put (s5.free hp0) (Hw hp0)).put hD' (KD (by rw[aA hpD];exact hv)),_,aE,?_⟩
    ·rw[hpv.len]
     refine Nat.lt_of_le_of_lt (PF ..) ?_
     rw[PZ,eV,PJ];omega
    ·rw[take_snoc hpi,List.filter_append,List.filter_cons_of_pos (by simpa using c1),List.filter_nil]
     have g1:jr H' (upd H' p (.tup [.int u,.int v])):=jr.new hp0
     have g2:∀o,jr (upd H' p (.tup [.int u,.int v])) (upd (upd H' p (.tup [.int u,.int v])) D' o):=λo=>jr.list (by rw[aA hpD];exact hv)
     refine bS.snoc ?_ (hpv.grow (g1.trans (g2 _)))
     exact gA.grow (.inl (.inl aE)) (g2 _)
   ·refine NK c1 ?_
    refine⟨⟨_,_,rfl⟩,s5,vs,hv,?_⟩
    rw[take_snoc hpi,List.filter_append,List.filter_cons_of_neg (by simpa using c1),List.filter_nil,P2]
    exact hpv
  ·rintro σ' H' ⟨_,s5,vs,hv,hpv⟩
   rw[hw.len,take_all] at hpv
   refine⟨⟨_,hv⟩,D',vs,rfl,.inl ⟨.inl (.inl hv),λt ht=>?_⟩⟩
   have sA:av H H':=(s1.trans s4).trans s5
   refine k _ t vs (sA.put (sA.free ht) (Hw ht)) (sA.free ht) aE ?_
   have e:((OM.bN n).filter λp=>M p.1.toNat p.2.toNat)=OM.mR n (OM.Tr (OM.Mem ps)):=by
    unfold OM.mR
    refine Qz λp hp=>?_
    obtain⟨u,v,rfl,hu,hv⟩:=uq gw hp
    have:=TT.all wn Th u v
    simp only[Pu]
    rw[Px,this]
    simp
   rw[e] at hpv
   exact hpv.grow (jr.new ht)
end
end RO
namespace RO
open PySem L2 RM
section
variable {P:Program}{w:World}{K:Frag}{mg:Str->Option Value}{base:Heap}{ca:Str->Addr}
def Ox {k:Nat}{f:Addr}{fd:FuncData}{ps:List Str}{sp:Sp}(F:fA P w K mg base JF k f fd ps sp):fA P w K mg base (l4 P w) k f fd ps sp:=
 ⟨F.len,λA outer s H args us vs Q E hr he hb hv hs=>Rb (F.run A outer s H args us vs Q E hr he hb hv hs) λr s' h=>by
  cases r with
  |ok x=>cases x <;> exact h
  |error e=>exact h.elim⟩
def yV {G H:Hp}(s:av G H){ws:List V}{ps:List Pr}(h:bS K H ws ps):bS K (gL G H) ws ps:=Paired.mapP h λv p ⟨a,e,q⟩=>⟨a,e,qJ s q⟩
def qM {ds:List D}(h:dS ds≠.bad):∃(n:Nat) (d:D) (ps:List Pr),ds= [.int n,d]/\lH d=some (ps.map aC)/\1<=n/\n<=8/\OM.Wn n ps/\dS ds=.ok (.tuple ((OM.mR n (OM.Tr (OM.Mem ps))).map aC)) false:=by
 unfold dS at h
 split at h
 ·rename_i n d
  cases q:lH d with
  |none=>rw[q] at h;exact absurd rfl h
  |some es=>
   rw[q] at h
   dsimp only at h
   cases q2:j7 es with
   |none=>rw[q2] at h;exact absurd rfl h
   |some ps=>
    rw[q2] at h
    dsimp only at h
    by_cases c:1<=n/\n<=8/\OM.Wn n.toNat ps
    ·have e:((n.toNat:Nat):Int)=n:=by omega
     refine⟨n.toNat,d,ps,by rw[e],by rw[q,o3 q2],by omega,by omega,c.2.2,?_⟩
     unfold dS
     dsimp only
     rw[q]
     dsimp only
     rw[q2]
     dsimp only
     rw[OO c]
    ·rw[OV c] at h;exact absurd rfl h
 ·exact absurd rfl h
def yE {f g:Addr}{fd gd:FuncData}(F:gx K mg "closed" nK ["many","pairs"] f fd)(E:gx K mg "every_pair" kE ["many"] g gd)(B:hX mg):bM P w K mg base ca "closed" ["many","pairs"] 3 dS:=by
 refine⟨⟨f,fd,F.mg,F.F.kp,F.b,((Ox (BM F E (Dk E B) B)).mono (by decide)).imp ?_⟩,λds h=>?_⟩
 ·rintro vs H Q X ⟨G,ds,s,hl,r,h⟩
  have hb:dS ds≠.bad:=λz=>by rw[z] at h;exact h
  obtain⟨n,d,ps,rfl,hd,h1,h8,wn,e⟩:=qM hb
  rw[e] at h
  cases r with
  |cons r1 r=>
   cases r with
   |cons r2 r=>
    cases r
    cases r1
    obtain⟨a,xs,rfl,hq,hr⟩:=(mj.seq (B:=none) (G:=G) (H:=G) (.inl r2) hd (av.refl _))
    refine⟨n,a,xs,ps,rfl,h1,h8,hq.elim (λq=>.inl (s.seq q)) (λq=>.inr (q.grow s.grow)),(hr.pairs).grow s.grow,wn,λH' t ws hh ht ht' hp=>?_⟩
    have s2:=s.trans hh
    refine h (.ref t) (gL G H') H' hh oN (kg s2) (λb m hb=>by rw[u4 hh m];exact hb) ?_
    exact .tup (qJ s2 (.inl (.inl ht'))) (bS.rps (yV s2 hp))
 ·obtain⟨n,d,ps,rfl,_⟩:=qM h
  rfl
end
end RO
namespace HD
open PySem PySem.W
noncomputable abbrev Cu:=@PySem.W.Fast.tw10156331382660048174
noncomputable abbrev JB:=@PySem.W.Fast.tw11892475500146522536
noncomputable abbrev NZ:=@PySem.W.Fast.tw6613529449190102663
noncomputable abbrev Ji:=@PySem.W.Fast.tw14364793385576792824
noncomputable abbrev Hn:=@PySem.W.Fast.tw17154629097778926822
noncomputable abbrev Ew:=@PySem.W.Fast.tw12822647523644345616
noncomputable def Cw (p:Program):Thread:=
 ⟨do
  let code <-Hn p.main
  let frame <-Ew code mainNs mainNs
  let _ <-run (.body (behindTheImports p) {scope:=p.main.scope,locals:=mainNs,globals:=mainNs,cells:=[],code,frame:=some frame})
  ret .none,
  .builtin "claim.caller" {},default,[]⟩
def Du (p:Program):topStub p=Cw p:=by
 unfold topStub Cw Hn Ew
 rw[<-PySem.W.Fast.te17154629097778926822,<-PySem.W.Fast.te12822647523644345616]
noncomputable def pU (p:Program)(w:World)(n₀:Nat)(ann:Option Value):Nat->SharedT->Thread->Option SharedT
 | 0,_,_=>none
 |n + 1,s,t=>match through t with
  |true=>some s
  |false=>match NZ n₀ ann t with
   |false=>none
   |true=>match Cu (JB Ji) p w s t with
    |some (s',t')=>pU p w n₀ ann n s' t'
    |none=>none
theorem tJ {p:Program}{w:World}{n₀:Nat}{ann:Option Value}:∀{n:Nat} {s s':SharedT} {t:Thread},pU p w n₀ ann n s t=some s'->topRun treeTable p w n₀ ann n s.abs t=some s'.abs
 | 0,_,_,_,h=>by cases h
 |n + 1,s,s',t,h=>by
  unfold pU at h
  unfold topRun
  cases ht:through t with
  |true=>rw[ht] at h;cases h;rfl
  |false=>
   rw[ht] at h
   have hq:NZ n₀ ann t=stepOk n₀ ann t:=by unfold NZ;rw[<-PySem.W.Fast.te6613529449190102663]
   dsimp only at h
   rw[hq] at h
   cases hk:stepOk n₀ ann t with
   |false=>rw[hk] at h;cases h
   |true=>
    rw[hk] at h
    have hq:Cu (JB Ji) p w s t=stepT (denote treeTable) p w s t:=by unfold Cu JB Ji;rw[<-PySem.W.Fast.te10156331382660048174,<-PySem.W.Fast.te11892475500146522536,<-PySem.W.Fast.te14364793385576792824]
    dsimp only at h
    rw[hq] at h
    cases hs:stepT (denote treeTable) p w s t with
    |none=>rw[hs] at h;cases h
    |some r=>obtain⟨s₂,t₂⟩:=r;rw[hs] at h;rw[stepT_spec hs];exact tJ h
def treeOf (l:List Obj):BT:=(l.foldl (λ(x:BT×Nat) o=>(x.1.ins x.2 o,x.2 + 1)) (.nil,0)).1
noncomputable def Cj (P:Params):BT:=treeOf (boot_heap P).objs.toList
abbrev wH:Nat:=11
abbrev Ee:Life:={}
def boot_abs (P:Params):absHeap (Cj P) wH Ee=boot_heap P:=by kernel_rfl
def BW (w:World):((boot_heap w.params).isNs mainGlobals && (Array.mk ([]:List GenState)).size == 0,(boot_heap w.params).objs.size,(boot_heap w.params).nsMap mainGlobals "__annotations__")=(true,wH,some (.ref 6)):=by kernel_rfl
noncomputable def Et (w:World)(os:OsState):SharedT:=⟨Cj w.params,wH,Ee,Array.mk [],boot_drawn,boot_toks,os⟩
noncomputable def HH (p:Program)(w:World)(s:Shared):Bool:=staticsOk (importedModules p.main.body) (boot_heap w.params) s.heap && namesBound p s.heap && gensDone s && laidKept (boot_heap w.params) s.heap
def Gb {p q:Program}{loose:List Str}{Xt:Shared->Bool}{α:Type}{Yf:Shared->α}{Ya:World->α}{N:Nat}{g0:Bool}
  (e:opening p=plainProg p.main.scope.names) (hN:Nat.ble 600 N=true) (f:∀s,fenceModules? p s=some s)
  (run:∀(w:World) (os:OsState),(pU p w wH (some (.ref 6)) N (Et w os) (Cw p)).map (λs=>(HH p w s.abs,openSeen q loose (importedModules p.main.body) Xt g0 s.abs,Yf s.abs))=some (true,openGood q loose,Ya w)):LeftO p q loose Xt Yf Ya N g0:=λw=>by
 obtain⟨⟨h,gs,d,k,os⟩,e,e'⟩:=Option.map_eq_some_iff.mp (boot_open e hN f w)
 obtain⟨rfl,rfl,rfl,rfl⟩:h=boot_heap w.params/\gs=Array.mk []/\d=boot_drawn/\k=boot_toks:=by simpa using e'
 obtain⟨z1,z2,z3⟩:_/\_/\_:=by simpa only [Prod.mk.injEq] using BW w
 obtain⟨s',r,ls⟩:=Option.map_eq_some_iff.mp (run w os)
 obtain⟨l1,l2,l3⟩:_/\_/\_:=by simpa only [Prod.mk.injEq] using ls
 have r:=tJ r
 have ha:(Et w os).abs=⟨boot_heap w.params,Array.mk [],boot_drawn,boot_toks,os⟩:=by
  show Shared.mk (absHeap (Cj w.params) wH Ee) _ _ _ _=_
  rw[boot_abs]
  rfl
 rw[ha,<-Du] at r
 have t:topFrom treeTable p w N ⟨boot_heap w.params,Array.mk [],boot_drawn,boot_toks,os⟩=some s'.abs:=by
  unfold topFrom
  dsimp only
  rw[z1,z2,z3,r]
  show (match HH p w s'.abs with |true=>_ |false=>_)=_
  rw[l1]
 unfold openEnds
 rw[e]
 show (topFrom treeTable p w N _).map _=_
 rw[t]
 exact congrArg some (Prod.ext l2 l3)
end HD
section
namespace RO
open PySem L2 RM
def Ia {T:Addr}{K:Frag}{ca:Str->Addr}(vs:List V)(H:Hp)(Q:VK)(E:XK)(h:uW T K vs H Q E):spT T K ca 1 IB vs H Q E:=by
 obtain⟨a,ns,rfl,hT,hS,q⟩:=h
 refine⟨H,[c6 ns],Nw hT,av.refl _,rfl,.cons (.scr hS) .nil,?_⟩
 rw[KO]
 intro v G' H' s1 s2 s3 s4 fv
 have fv:Rp K G' v (.bool true):=fv
 cases fv
 exact q H' s1
def zq:aP "is_whole" RQ.lb ["thing"]:=λ_ _ _ _ _ _=>tO λ_=>rfl
def yb:aP "is_below" RQ.kQ ["thing","bound"]:=λ_ _ _ _ _ _=>ln2 λ_ _=>rfl
def AJ:aP "is_many" RQ.mQ ["thing"]:=λ_ _ _ _ _ _=>tO λ_=>rfl
def BK:aP "is_pair" RQ.mr ["thing","many"]:=λ_ _ _ _ _ _=>ln2 λ_ _=>rfl
def BF:aP "is_line" RQ.mL ["thing","many"]:=λ_ _ _ _ _ _=>ln2 λ_ _=>rfl
def uU:aP "every_pair" RQ.gn ["many"]:=λ_ _ _ _ _ _=>tO λ_=>rfl
def CI:aP "closed" nK ["many","pairs"]:=λ_ _ _ _ _ _=>ln2 λ_ _=>rfl
def x9:aP "has_ring" RQ.lg ["pairs"]:=λ_ _ _ _ _ _=>tO λ_=>rfl
def y6:aP "is_order" RQ.kT ["thing"]:=λ_ _ _ _ _ _=>tO λ_=>rfl
def vA:aP "need_order" RQ.iG ["thing"]:=λ_ _ _ _ _ _=>tO λ_=>rfl
def xK:aP "are_apart" RQ.jK ["order","a","b"]:=λ_ _ _ _ _ _=>IH λ_ _ _=>rfl
def Di:aP "places" RQ.nO ["row"]:=λ_ _ _ _ _ _=>tO λ_=>rfl
def su:aP "keeps_order" RQ.g8 ["thing","order"]:=λ_ _ _ _ _ _=>ln2 λ_ _=>rfl
def vv:aP "with_thing" RQ.iH ["placed","thing"]:=λ_ _ _ _ _ _=>ln2 λ_ _=>rfl
def sk:aP "free_things" RQ.g7 ["masks","placed"]:=λ_ _ _ _ _ _=>ln2 λ_ _=>rfl
def Bp:aP "ways_on" RQ.mK ["masks"]:=λ_ _ _ _ _ _=>tO λ_=>rfl
def rO:aP "masks_ahead" RQ.g9 ["order"]:=λ_ _ _ _ _ _=>tO λ_=>rfl
def wY:aP "rows_many" RQ.js ["order"]:=λ_ _ _ _ _ _=>tO λ_=>rfl
def Dv:aP "choose" RQ.n0 ["masks","ways","placed","left"]:=λ_ _ _ _ _ _=>Ol λ_ _ _ _=>rfl
def Bu:aP "nth_row" RQ.mz ["order","number"]:=λ_ _ _ _ _ _=>ln2 λ_ _=>rfl
def wz:aP "row_along" RQ.jI ["masks","late"]:=λ_ _ _ _ _ _=>ln2 λ_ _=>rfl
def ql:aP "stands_ahead" RQ.gp ["tables","a","b"]:=λ_ _ _ _ _ _=>IH λ_ _ _=>rfl
def rH:aP "shared_pairs" RQ.gq ["many","rows"]:=λ_ _ _ _ _ _=>ln2 λ_ _=>rfl
def yi:aP "are_rows" RQ.kA ["thing","order"]:=λ_ _ _ _ _ _=>ln2 λ_ _=>rfl
def IF:aP "tell" RQ.uN ["thing","order"]:=λ_ _ _ _ _ _=>ln2 λ_ _=>rfl
def Fb:aP "turns" RQ.pR ["order"]:=λ_ _ _ _ _ _=>tO λ_=>rfl
def ym:aP "is_sharp" RQ.la ["order","a","b"]:=λ_ _ _ _ _ _=>IH λ_ _ _=>rfl
def sI:aP "sharp_turns" RQ.gZ ["order"]:=λ_ _ _ _ _ _=>tO λ_=>rfl
def x6:aP "leads_on" RQ.lh ["order","turn","other"]:=λ_ _ _ _ _ _=>IH λ_ _ _=>rfl
def zo:aP "is_ahead" RQ.kI ["masks","a","b"]:=λ_ _ _ _ _ _=>IH λ_ _ _=>rfl
def xB:aP "is_turned" RQ.jN ["masks","turn"]:=λ_ _ _ _ _ _=>ln2 λ_ _=>rfl
def xA:aP "is_barred" RQ.jH ["masks","turn"]:=λ_ _ _ _ _ _=>ln2 λ_ _=>rfl
def yw:aP "put_turn" RQ.k9 ["masks","turn"]:=λ_ _ _ _ _ _=>ln2 λ_ _=>rfl
def xD:aP "ring_with" RQ.jy ["order","put","turn"]:=λ_ _ _ _ _ _=>IH λ_ _ _=>rfl
def A5:aP "case_of" RQ.mM ["order","left","rows","number","turn"]:=λ_ _ _ _ _ _=>Ov λ_ _ _ _ _=>rfl
def wV:aP "free_rows" RQ.jw ["rows","turn"]:=λ_ _ _ _ _ _=>ln2 λ_ _=>rfl
def yX:aP "cases_on" RQ.kC ["order","left","rows"]:=λ_ _ _ _ _ _=>IH λ_ _ _=>rfl
def GB:aP "cases" RQ.p7 ["order","count"]:=λ_ _ _ _ _ _=>ln2 λ_ _=>rfl
def rN:aP "fewest_rows" RQ.gX ["order"]:=λ_ _ _ _ _ _=>tO λ_=>rfl
def Dt:aP "fewest" RQ.nR ["order"]:=λ_ _ _ _ _ _=>tO λ_=>rfl
def ox:aP "need_few_things" RQ.dh ["order"]:=λ_ _ _ _ _ _=>tO λ_=>rfl
def wg:aP "every_row" RQ.jO ["order"]:=λ_ _ _ _ _ _=>tO λ_=>rfl
def vk:aP "first_from" RQ.iP ["order","every","chosen","few"]:=λ_ _ _ _ _ _=>Ol λ_ _ _ _=>rfl
def uX:aP "first_list" RQ.iI ["order"]:=λ_ _ _ _ _ _=>tO λ_=>rfl
def x8:aP "_law_box" RQ.k6 ["script","k"]:=λ_ _ _ _ _ _=>ln2 λ_ _=>rfl
def xP:aP "_law_take" RQ.jv ["box","many"]:=λ_ _ _ _ _ _=>ln2 λ_ _=>rfl
def pG:aP "_law_shuffled" RQ.e8 ["box","some"]:=λ_ _ _ _ _ _=>ln2 λ_ _=>rfl
def wX:aP "_law_told" RQ.jP ["many","rows"]:=λ_ _ _ _ _ _=>ln2 λ_ _=>rfl
def pM:aP "_law_rows_all" RQ.fm ["order"]:=λ_ _ _ _ _ _=>tO λ_=>rfl
def vt:aP "_law_first" RQ.iR ["order"]:=λ_ _ _ _ _ _=>tO λ_=>rfl
def all_mk {T c0:Addr}{l:PySem.W.OpenLaw}{w:World}{K:Frag}{h:Heap}{mg:Str->Option Value}{fa f51 x0 x1 x2:Addr}(X:K.In h)(G:h.Ns mainGlobals mg)(hfa:mg "law"=some (.ref fa))
  {od51 an51:Option Addr} {sl51:Array (Option Value)} {oc51 kV51 dc51 pm51 cd51 ct51:Value} {tFEW:Tok} {tMOST_THINGS:Tok}
  (F1:Fo K mg "is_whole" RQ.lb ["thing"])
  (F2:Fo K mg "is_below" RQ.kQ ["thing","bound"])
  (F3:Fo K mg "is_many" RQ.mQ ["thing"])
  (F4:Fo K mg "is_pair" RQ.mr ["thing","many"])
  (F5:Fo K mg "is_line" RQ.mL ["thing","many"])
  (F6:Fo K mg "every_pair" RQ.gn ["many"])
  (F7:Fo K mg "closed" nK ["many","pairs"])
  (F8:Fo K mg "has_ring" RQ.lg ["pairs"])
  (F9:Fo K mg "is_order" RQ.kT ["thing"])
  (F10:Fo K mg "need_order" RQ.iG ["thing"])
  (F11:Fo K mg "are_apart" RQ.jK ["order","a","b"])
  (F12:Fo K mg "places" RQ.nO ["row"])
  (F13:Fo K mg "keeps_order" RQ.g8 ["thing","order"])
  (F14:Fo K mg "with_thing" RQ.iH ["placed","thing"])
  (F15:Fo K mg "free_things" RQ.g7 ["masks","placed"])
  (F16:Fo K mg "ways_on" RQ.mK ["masks"])
  (F17:Fo K mg "masks_ahead" RQ.g9 ["order"])
  (F18:Fo K mg "rows_many" RQ.js ["order"])
  (F19:Fo K mg "choose" RQ.n0 ["masks","ways","placed","left"])
  (F20:Fo K mg "nth_row" RQ.mz ["order","number"])
  (F21:Fo K mg "row_along" RQ.jI ["masks","late"])
  (F22:Fo K mg "stands_ahead" RQ.gp ["tables","a","b"])
  (F23:Fo K mg "shared_pairs" RQ.gq ["many","rows"])
  (F24:Fo K mg "are_rows" RQ.kA ["thing","order"])
  (F25:Fo K mg "tell" RQ.uN ["thing","order"])
  (F26:Fo K mg "turns" RQ.pR ["order"])
  (F27:Fo K mg "is_sharp" RQ.la ["order","a","b"])
  (F28:Fo K mg "sharp_turns" RQ.gZ ["order"])
  (F29:Fo K mg "leads_on" RQ.lh ["order","turn","other"])
  (F30:Fo K mg "is_ahead" RQ.kI ["masks","a","b"])
  (F31:Fo K mg "is_turned" RQ.jN ["masks","turn"])
  (F32:Fo K mg "is_barred" RQ.jH ["masks","turn"])
  (F33:Fo K mg "put_turn" RQ.k9 ["masks","turn"])
  (F34:Fo K mg "ring_with" RQ.jy ["order","put","turn"])
  (F35:Fo K mg "case_of" RQ.mM ["order","left","rows","number","turn"])
  (F36:Fo K mg "free_rows" RQ.jw ["rows","turn"])
  (F37:Of K mg "cases_on" RQ.kC ["order","left","rows"] c0)
  (F38:Fo K mg "cases" RQ.p7 ["order","count"])
  (F39:Fo K mg "fewest_rows" RQ.gX ["order"])
  (F40:Fo K mg "fewest" RQ.nR ["order"])
  (F41:Fo K mg "need_few_things" RQ.dh ["order"])
  (F42:Fo K mg "every_row" RQ.jO ["order"])
  (F43:Fo K mg "first_from" RQ.iP ["order","every","chosen","few"])
  (F44:Fo K mg "first_list" RQ.iI ["order"])
  (F45:Fo K mg "_law_box" RQ.k6 ["script","k"])
  (F46:Fo K mg "_law_take" RQ.jv ["box","many"])
  (F47:Fo K mg "_law_shuffled" RQ.e8 ["box","some"])
  (F48:Fo K mg "_law_told" RQ.jP ["many","rows"])
  (F49:Fo K mg "_law_rows_all" RQ.fm ["order"])
  (F50:Fo K mg "_law_first" RQ.iR ["order"])
  (a51:PySem.W.nsIn K mainGlobals "law"=some (some (.ref f51))) (l51:K.lookup f51=some ⟨oc51,od51,.func (PySem.W.fnOf "law" "law" (i2 RQ.mX) (cZ RQ.mX) (ar RQ.mX) .none kV51 dc51 pm51 an51 cd51 ct51),sl51⟩) (c51:PySem.W.codeIn K cd51 "law"=true) (k51:PySem.W.keepIn K (.ref f51)=true)
  (zB:NW K=true)
  (yFEW:PySem.W.nsIn K mainGlobals "FEW"=some (some (.int 4 tFEW)))
  (yMOST_THINGS:PySem.W.nsIn K mainGlobals "MOST_THINGS"=some (some (.int 8 tMOST_THINGS)))
  (m0:PySem.W.nsIn K mainGlobals "NoNumber"=some (some (.ref x0)))
  (e0:PySem.W.excIn K x0 [.type "ValueError",.type "Exception",.type "BaseException",.type "object"] "ValueError.__new__"=true)
  (m1:PySem.W.nsIn K mainGlobals "NoOrder"=some (some (.ref x1)))
  (e1:PySem.W.excIn K x1 [.type "ValueError",.type "Exception",.type "BaseException",.type "object"] "ValueError.__new__"=true)
  (m2:PySem.W.nsIn K mainGlobals "TooMany"=some (some (.ref x2)))
  (e2:PySem.W.excIn K x2 [.type "ValueError",.type "Exception",.type "BaseException",.type "object"] "ValueError.__new__"=true)
  :∃fd:FuncData,(∀(s:Shared) (v:Value),BindsTo s fd ⟨[v],[]⟩ [("script",v)])/\∀base:Heap,K.In base->base.Ns mainGlobals mg->Bm mg base c0 T->fA l.prog w K mg base (l4 l.prog w) 92 fa fd ["script"] (uW T K):=by
 have e:=hfa.symm.trans (QB X G a51)
 cases e
 have B:hX mg:=Lu X G zB
 have D7:=QB X G yFEW
 have jR:=QB X G yMOST_THINGS
 obtain⟨f1,d1,cz⟩:=F1.ex
 obtain⟨f2,d2,bA⟩:=F2.ex
 obtain⟨f3,d3,i5⟩:=F3.ex
 obtain⟨f4,d4,i4⟩:=F4.ex
 obtain⟨f5,d5,i7⟩:=F5.ex
 obtain⟨f6,d6,bG⟩:=F6.ex
 obtain⟨f7,d7,kh⟩:=F7.ex
 obtain⟨f8,d8,gQ⟩:=F8.ex
 obtain⟨f9,d9,gH⟩:=F9.ex
 obtain⟨f10,d10,aB⟩:=F10.ex
 obtain⟨f11,d11,fM⟩:=F11.ex
 obtain⟨f12,d12,dC⟩:=F12.ex
 obtain⟨f13,d13,cu⟩:=F13.ex
 obtain⟨f14,d14,au⟩:=F14.ex
 obtain⟨f15,d15,aW⟩:=F15.ex
 obtain⟨f16,d16,cw⟩:=F16.ex
 obtain⟨f17,d17,aV⟩:=F17.ex
 obtain⟨f18,d18,fW⟩:=F18.ex
 obtain⟨f19,d19,kj⟩:=F19.ex
 obtain⟨f20,d20,i6⟩:=F20.ex
 obtain⟨f21,d21,fT⟩:=F21.ex
 obtain⟨f22,d22,cT⟩:=F22.ex
 obtain⟨f23,d23,cU⟩:=F23.ex
 obtain⟨f24,d24,gP⟩:=F24.ex
 obtain⟨f25,d25,oD⟩:=F25.ex
 obtain⟨f26,d26,mJ⟩:=F26.ex
 obtain⟨f27,d27,gO⟩:=F27.ex
 obtain⟨f28,d28,de⟩:=F28.ex
 obtain⟨f29,d29,fD⟩:=F29.ex
 obtain⟨f30,d30,bE⟩:=F30.ex
 obtain⟨f31,d31,fH⟩:=F31.ex
 obtain⟨f32,d32,b9⟩:=F32.ex
 obtain⟨f33,d33,gF⟩:=F33.ex
 obtain⟨f34,d34,fO⟩:=F34.ex
 obtain⟨f35,d35,i9⟩:=F35.ex
 obtain⟨f36,d36,fQ⟩:=F36.ex
 obtain⟨f37,d37,cj,hcode⟩:=F37.ex
 obtain⟨f38,d38,kU⟩:=F38.ex
 obtain⟨f39,d39,c9⟩:=F39.ex
 obtain⟨f40,d40,kx⟩:=F40.ex
 obtain⟨f41,d41,cf⟩:=F41.ex
 obtain⟨f42,d42,fF⟩:=F42.ex
 obtain⟨f43,d43,bH⟩:=F43.ex
 obtain⟨f44,d44,c5⟩:=F44.ex
 obtain⟨f45,d45,gB⟩:=F45.ex
 obtain⟨f46,d46,b8⟩:=F46.ex
 obtain⟨f47,d47,cG⟩:=F47.ex
 obtain⟨f48,d48,bR⟩:=F48.ex
 obtain⟨f49,d49,cF⟩:=F49.ex
 obtain⟨f50,d50,dQ⟩:=F50.ex
 have U51:=qY (st:=RQ.mX) l51 c51 k51
 have LB:gx K mg "law" RQ.mX ["script"] fa _:=⟨QB X G a51,U51,U51.binds (ps:=["script"]) λ_ _ _ _ _ _=>tO λ_=>rfl⟩
 obtain⟨ca,hca⟩:∃ca:Str->Addr,ca "NoNumber"=x0/\ca "NoOrder"=x1/\ca "TooMany"=x2:=⟨λs=>if s="NoNumber" then x0 else if s="NoOrder" then x1 else if s="TooMany" then x2 else 0,by first |rfl |decide |simp,by first |rfl |decide |simp,by first |rfl |decide |simp⟩
 have jk:Exc K mg ca "NoNumber":=⟨by rw[hca.1];exact QB X G m0,by rw[hca.1];exact e0⟩
 have kn:Exc K mg ca "NoOrder":=⟨by rw[hca.2.1];exact QB X G m1,by rw[hca.2.1];exact e1⟩
 have kb:Exc K mg ca "TooMany":=⟨by rw[hca.2.2];exact QB X G m2,by rw[hca.2.2];exact e2⟩
 refine⟨PySem.W.fnOf "law" "law" (i2 RQ.mX) (cZ RQ.mX) (ar RQ.mX) .none kV51 dc51 pm51 an51 cd51 ct51,λs v=>.of_eq rfl,λbase _ _ LT=>?_⟩
 have gK:=(RQ.vc (P:=l.prog) (w:=w) (base:=base) (ca:=ca) cz B).imp GA
 have cN:=(RQ.vY (P:=l.prog) (w:=w) (base:=base) (ca:=ca) bA B gK).imp FG
 have oW:=(RQ.wL (P:=l.prog) (w:=w) (base:=base) (ca:=ca) i5 B gK jR).imp J8
 have oZ:=(RQ.xf (P:=l.prog) (w:=w) (base:=base) (ca:=ca) i4 B cN).imp Jd
 have o8:=RQ.xJ (P:=l.prog) (w:=w) (base:=base) (ca:=ca) i7 B cN
 have dX:=RQ.qG (P:=l.prog) (w:=w) (base:=base) (ca:=ca) bG B
 have qc:=yE (P:=l.prog) (w:=w) (base:=base) (ca:=ca) kh bG B
 have nz:=(RQ.uE (P:=l.prog) (w:=w) (base:=base) (ca:=ca) gQ B).imp Jn
 have nF:=(RQ.uQ (P:=l.prog) (w:=w) (base:=base) (ca:=ca) gH B oW oZ qc nz).imp yW
 have aZ:=(RQ.qd (P:=l.prog) (w:=w) (base:=base) (ca:=ca) aB B nF kn).imp EO
 have lL:=RQ.rQ (P:=l.prog) (w:=w) (base:=base) (ca:=ca) fM B
 have ka:=RQ.yS (P:=l.prog) (w:=w) (base:=base) (ca:=ca) dC B
 have j0:=RQ.pB (P:=l.prog) (w:=w) (base:=base) (ca:=ca) cu B o8 ka
 have aL:=RQ.rE (P:=l.prog) (w:=w) (base:=base) (ca:=ca) au B
 have b7:=RQ.pE (P:=l.prog) (w:=w) (base:=base) (ca:=ca) aW B aL
 have i3:=RQ.wC (P:=l.prog) (w:=w) (base:=base) (ca:=ca) cw B b7 aL
 have bZ:=RQ.pH (P:=l.prog) (w:=w) (base:=base) (ca:=ca) aV B aL
 have lQ:=RQ.sD (P:=l.prog) (w:=w) (base:=base) (ca:=ca) fW B aZ i3 bZ
 have qy:=RQ.yo (P:=l.prog) (w:=w) (base:=base) (ca:=ca) kj B b7 aL
 have o6:=RQ.wK (P:=l.prog) (w:=w) (base:=base) (ca:=ca) i6 B aZ bZ i3 cN qy aL jk
 have lM:=RQ.rT (P:=l.prog) (w:=w) (base:=base) (ca:=ca) fT B b7 aL
 have jg:=RQ.oF (P:=l.prog) (w:=w) (base:=base) (ca:=ca) cT B
 have je:=RQ.oR (P:=l.prog) (w:=w) (base:=base) (ca:=ca) cU B ka dX jg
 have nj:=RQ.vT (P:=l.prog) (w:=w) (base:=base) (ca:=ca) gP B j0
 have yD:=RQ.D5 (P:=l.prog) (w:=w) (base:=base) (ca:=ca) oD B aZ nj je
 have uy:=RQ.AL (P:=l.prog) (w:=w) (base:=base) (ca:=ca) mJ B aZ dX lL
 have ny:=RQ.vE (P:=l.prog) (w:=w) (base:=base) (ca:=ca) gO B
 have j3:=RQ.pI (P:=l.prog) (w:=w) (base:=base) (ca:=ca) de B uy ny
 have kz:=RQ.uD (P:=l.prog) (w:=w) (base:=base) (ca:=ca) fD B
 have c4:=RQ.vX (P:=l.prog) (w:=w) (base:=base) (ca:=ca) bE B aL
 have l6:=RQ.sO (P:=l.prog) (w:=w) (base:=base) (ca:=ca) fH B c4
 have fK:=RQ.sM (P:=l.prog) (w:=w) (base:=base) (ca:=ca) b9 B c4
 have nq:=RQ.vH (P:=l.prog) (w:=w) (base:=base) (ca:=ca) gF B c4 aL
 have lZ:=RQ.so (P:=l.prog) (w:=w) (base:=base) (ca:=ca) fO B kz
 have l8:=RQ.rV (P:=l.prog) (w:=w) (base:=base) (ca:=ca) fQ B fK
 have jf:=xQ (T:=T) (P:=l.prog) (w:=w) (base:=base) (ca:=ca) (j:=7) cj (λk F' hk h=>RQ.vn (by omega) cj B hcode LT (RQ.xV (by omega) i9 B h fK lZ nq) l6 lM l8) 40
 have p0:=RQ.Bs (P:=l.prog) (w:=w) (base:=base) (ca:=ca) kU B bZ jf j3
 have jZ:=RQ.pJ (P:=l.prog) (w:=w) (base:=base) (ca:=ca) c9 B aZ p0
 have qg:=RQ.yL (P:=l.prog) (w:=w) (base:=base) (ca:=ca) kx B jZ
 have gf:=RQ.mS (P:=l.prog) (w:=w) (base:=base) (ca:=ca) cf B aZ kb D7
 have l7:=RQ.r0 (P:=l.prog) (w:=w) (base:=base) (ca:=ca) fF B lQ o6
 have gr:=zw (P:=l.prog) (w:=w) (base:=base) (ca:=ca) (j:=6) bH (λk F' hk h=>RQ.q8 hk bH B h yD) 40
 have iK:=(RQ.qk (P:=l.prog) (w:=w) (base:=base) (ca:=ca) c5 B gf gr l7 qg).new
 have nt:=RQ.vB (P:=l.prog) (w:=w) (base:=base) (ca:=ca) gB B
 have fR:=RQ.r6 (P:=l.prog) (w:=w) (base:=base) b8 B
 have iD:=RQ.n6 (P:=l.prog) (w:=w) (base:=base) cG B fR
 have dG:=RQ.sJ (P:=l.prog) (w:=w) (base:=base) (ca:=ca) bR B
 have iC:=RQ.ou (P:=l.prog) (w:=w) (base:=base) (ca:=ca) cF B
 have ky:=RQ.rl (P:=l.prog) (w:=w) (base:=base) (ca:=ca) dQ B iC dG
 have LF:=RQ.Fl (P:=l.prog) (w:=w) (base:=base) (ca:=ca) LB B nt dG ky iK fR iD
 exact fA.imp (sp:=spT T K ca 1 IB) LF Ia
def walk {l:PySem.W.OpenLaw}{q:Program}{loose:List Str}{XP:(Str->Option Value)->Heap->Prop}{YP:World->Heap->Prop}{d:DefRec}{K:Params->Frag}(hn:l.most=some 63)(hdf:d.params.defaults= [])(hi:PyProof.Rows.importsNone q=true)
  {T c:Addr} (hY:∀(w:World) (h:Heap),YP w h->(K w.params).In h) (hYT:∀(w:World) (h:Heap),YP w h->h.get? T=some (PySem.W.tabObj #[])) (hKT:∀p,(K p).lookup T=none) (hcd:∀p,PySem.W.codeHdIn (K p) c T=true)
  (F:∀(w:World) (mg:Str->Option Value) (fa:Addr) (h:Heap),(K w.params).In h->h.Ns mainGlobals mg->mg d.name=some (.ref fa)->
   ∃fd:FuncData,(∀(s:Shared) (u:Value),BindsTo s fd ⟨[u],[]⟩ [("script",u)])/\∀base:Heap,(K w.params).In base->base.Ns mainGlobals mg->Bm mg base c T->fA l.prog w (K w.params) mg base (l4 l.prog w) 92 fa fd ["script"] (uW T (K w.params))) :
  PySem.W.WalkO q loose XP YP l.row.toRowW d [] (λf vs=>PySem.call f vs):=
 L2.DK (n:=63) (k:=92) hn (by decide) hdf hi ⟨rfl,by decide,by decide,rfl⟩ hY hYT hKT hcd F
end RO
namespace HD
noncomputable def vw:PySem.Program:=PySem.W.view PySem.Challenge.pw_rowsorder_k74_first_lists [1,2,3,4,5,6,7,9,10,11,12,14,15,16,17,18,20,21,22,23,24,25,26,27,28,29,30,31,32,33,35,36,37,38,39,40,41,42,43,45,46,47,48,49,50,52,53,54,55,56,58,59,60,61,62,63,64]
def Lk:PySem.Challenge.rw_rowsorder_k74_first_lists.wellSaid=true:=by kernel_rfl
end HD
local macro_rules | `(tactic|o_head $H)=>`(tactic| (
 refine PySem.W.holds_open (q:=HD.vw) (loose:=[]) (Xt:=λs=>PySem.W.xlAt HD.vw [] s && PySem.W.recOk (PySem.W.RowW.records _) s) (XP:=PySem.W.XL HD.vw []) (Yf:=PySem.W.Hook.obs $H) (Ya:=PySem.W.Hook.val $H) (YP:=PySem.W.Hook.says $H) (N:=4912) ?hl (PySem.W.Hook.of $H) (PySem.W.Hook.keeps $H) (λs e=>PySem.W.xl_of s (Bool.and_eq_true_iff.mp e).1) PySem.W.XL.keeps (by rfl) (by rfl) (by rfl) (λs e=>PySem.W.recFacts_of (Bool.and_eq_true_iff.mp e).2) (by rfl) (by first |assumption |decide +kernel) (by decide +kernel) ⟨rfl,rfl,rfl,rfl,rfl,by decide +kernel⟩ ?hw ?hc
 case hl=>exact HD.Gb (by kernel_rfl) (by kernel_rfl) (λs=>by kernel_rfl) (λw os=>by kernel_rfl)))
open PySem PySem.W PyProof.Rows L2
set_option maxRecDepth 100000 in
set_option maxHeartbeats 0 in
theorem PySem.Challenge.cw_rowsorder_k74_first_lists_holds : PySem.Challenge.rw_rowsorder_k74_first_lists.Holds := by
 w_on;(refine holds_law HD.Lk λLk=>?_);k_head;(case hw=>w_witness2)
 k_fill
 refine RO.walk (l:=PySem.Challenge.rw_rowsorder_k74_first_lists) (c:=294) (T:=292) rfl rfl ?hi (λw h Y=>PySem.W.km_in_of Y) (λw h Y=>PySem.W.km_tabs_of Y _ (OU ..)) ?hKT ?hcd ?F
 case hi=>kernel_rfl
 case hKT=>exact λp=>by kernel_rfl
 case hcd=>exact λp=>by kernel_rfl
 case F=>
  intro w mg fa h KX G hmg
  refine' RO.all_mk KX G hmg ?F1 ?F2 ?F3 ?F4 ?F5 ?F6 ?F7 ?F8 ?F9 ?F10 ?F11 ?F12 ?F13 ?F14 ?F15 ?F16 ?F17 ?F18 ?F19 ?F20 ?F21 ?F22 ?F23 ?F24 ?F25 ?F26 ?F27 ?F28 ?F29 ?F30 ?F31 ?F32 ?F33 ?F34 ?F35 ?F36 ?F37 ?F38 ?F39 ?F40 ?F41 ?F42 ?F43 ?F44 ?F45 ?F46 ?F47 ?F48 ?F49 ?F50 ?a51 ?l51 ?c51 ?k51 ?zB ?yFEW ?yMOST_THINGS ?m0 ?e0 ?m1 ?e1 ?m2 ?e2
  case F1=>refine' bj KX G RO.zq ?a ?l ?c ?k;(case a=>k_is);(case l=>k_is);(case c=>k_is);(case k=>k_is)
  case F2=>refine' bj KX G RO.yb ?a ?l ?c ?k;(case a=>k_is);(case l=>k_is);(case c=>k_is);(case k=>k_is)
  case F3=>refine' bj KX G RO.AJ ?a ?l ?c ?k;(case a=>k_is);(case l=>k_is);(case c=>k_is);(case k=>k_is)
  case F4=>refine' bj KX G RO.BK ?a ?l ?c ?k;(case a=>k_is);(case l=>k_is);(case c=>k_is);(case k=>k_is)
  case F5=>refine' bj KX G RO.BF ?a ?l ?c ?k;(case a=>k_is);(case l=>k_is);(case c=>k_is);(case k=>k_is)
  case F6=>refine' bj KX G RO.uU ?a ?l ?c ?k;(case a=>k_is);(case l=>k_is);(case c=>k_is);(case k=>k_is)
  case F7=>refine' bj KX G RO.CI ?a ?l ?c ?k;(case a=>k_is);(case l=>k_is);(case c=>k_is);(case k=>k_is)
  case F8=>refine' bj KX G RO.x9 ?a ?l ?c ?k;(case a=>k_is);(case l=>k_is);(case c=>k_is);(case k=>k_is)
  case F9=>refine' bj KX G RO.y6 ?a ?l ?c ?k;(case a=>k_is);(case l=>k_is);(case c=>k_is);(case k=>k_is)
  case F10=>refine' bj KX G RO.vA ?a ?l ?c ?k;(case a=>k_is);(case l=>k_is);(case c=>k_is);(case k=>k_is)
  case F11=>refine' bj KX G RO.xK ?a ?l ?c ?k;(case a=>k_is);(case l=>k_is);(case c=>k_is);(case k=>k_is)
  case F12=>refine' bj KX G RO.Di ?a ?l ?c ?k;(case a=>k_is);(case l=>k_is);(case c=>k_is);(case k=>k_is)
  case F13=>refine' bj KX G RO.su ?a ?l ?c ?k;(case a=>k_is);(case l=>k_is);(case c=>k_is);(case k=>k_is)
  case F14=>refine' bj KX G RO.vv ?a ?l ?c ?k;(case a=>k_is);(case l=>k_is);(case c=>k_is);(case k=>k_is)
  case F15=>refine' bj KX G RO.sk ?a ?l ?c ?k;(case a=>k_is);(case l=>k_is);(case c=>k_is);(case k=>k_is)
  case F16=>refine' bj KX G RO.Bp ?a ?l ?c ?k;(case a=>k_is);(case l=>k_is);(case c=>k_is);(case k=>k_is)
  case F17=>refine' bj KX G RO.rO ?a ?l ?c ?k;(case a=>k_is);(case l=>k_is);(case c=>k_is);(case k=>k_is)
  case F18=>refine' bj KX G RO.wY ?a ?l ?c ?k;(case a=>k_is);(case l=>k_is);(case c=>k_is);(case k=>k_is)
  case F19=>refine' bj KX G RO.Dv ?a ?l ?c ?k;(case a=>k_is);(case l=>k_is);(case c=>k_is);(case k=>k_is)
  case F20=>refine' bj KX G RO.Bu ?a ?l ?c ?k;(case a=>k_is);(case l=>k_is);(case c=>k_is);(case k=>k_is)
  case F21=>refine' bj KX G RO.wz ?a ?l ?c ?k;(case a=>k_is);(case l=>k_is);(case c=>k_is);(case k=>k_is)
  case F22=>refine' bj KX G RO.ql ?a ?l ?c ?k;(case a=>k_is);(case l=>k_is);(case c=>k_is);(case k=>k_is)
  case F23=>refine' bj KX G RO.rH ?a ?l ?c ?k;(case a=>k_is);(case l=>k_is);(case c=>k_is);(case k=>k_is)
  case F24=>refine' bj KX G RO.yi ?a ?l ?c ?k;(case a=>k_is);(case l=>k_is);(case c=>k_is);(case k=>k_is)
  case F25=>refine' bj KX G RO.IF ?a ?l ?c ?k;(case a=>k_is);(case l=>k_is);(case c=>k_is);(case k=>k_is)
  case F26=>refine' bj KX G RO.Fb ?a ?l ?c ?k;(case a=>k_is);(case l=>k_is);(case c=>k_is);(case k=>k_is)
  case F27=>refine' bj KX G RO.ym ?a ?l ?c ?k;(case a=>k_is);(case l=>k_is);(case c=>k_is);(case k=>k_is)
  case F28=>refine' bj KX G RO.sI ?a ?l ?c ?k;(case a=>k_is);(case l=>k_is);(case c=>k_is);(case k=>k_is)
  case F29=>refine' bj KX G RO.x6 ?a ?l ?c ?k;(case a=>k_is);(case l=>k_is);(case c=>k_is);(case k=>k_is)
  case F30=>refine' bj KX G RO.zo ?a ?l ?c ?k;(case a=>k_is);(case l=>k_is);(case c=>k_is);(case k=>k_is)
  case F31=>refine' bj KX G RO.xB ?a ?l ?c ?k;(case a=>k_is);(case l=>k_is);(case c=>k_is);(case k=>k_is)
  case F32=>refine' bj KX G RO.xA ?a ?l ?c ?k;(case a=>k_is);(case l=>k_is);(case c=>k_is);(case k=>k_is)
  case F33=>refine' bj KX G RO.yw ?a ?l ?c ?k;(case a=>k_is);(case l=>k_is);(case c=>k_is);(case k=>k_is)
  case F34=>refine' bj KX G RO.xD ?a ?l ?c ?k;(case a=>k_is);(case l=>k_is);(case c=>k_is);(case k=>k_is)
  case F35=>refine' bj KX G RO.A5 ?a ?l ?c ?k;(case a=>k_is);(case l=>k_is);(case c=>k_is);(case k=>k_is)
  case F36=>refine' bj KX G RO.wV ?a ?l ?c ?k;(case a=>k_is);(case l=>k_is);(case c=>k_is);(case k=>k_is)
  case F37=>refine' Jv KX G RO.yX ?a ?l ?c ?k;(case a=>k_is);(case l=>k_is);(case c=>k_is);(case k=>k_is)
  case F38=>refine' bj KX G RO.GB ?a ?l ?c ?k;(case a=>k_is);(case l=>k_is);(case c=>k_is);(case k=>k_is)
  case F39=>refine' bj KX G RO.rN ?a ?l ?c ?k;(case a=>k_is);(case l=>k_is);(case c=>k_is);(case k=>k_is)
  case F40=>refine' bj KX G RO.Dt ?a ?l ?c ?k;(case a=>k_is);(case l=>k_is);(case c=>k_is);(case k=>k_is)
  case F41=>refine' bj KX G RO.ox ?a ?l ?c ?k;(case a=>k_is);(case l=>k_is);(case c=>k_is);(case k=>k_is)
  case F42=>refine' bj KX G RO.wg ?a ?l ?c ?k;(case a=>k_is);(case l=>k_is);(case c=>k_is);(case k=>k_is)
  case F43=>refine' bj KX G RO.vk ?a ?l ?c ?k;(case a=>k_is);(case l=>k_is);(case c=>k_is);(case k=>k_is)
  case F44=>refine' bj KX G RO.uX ?a ?l ?c ?k;(case a=>k_is);(case l=>k_is);(case c=>k_is);(case k=>k_is)
  case F45=>refine' bj KX G RO.x8 ?a ?l ?c ?k;(case a=>k_is);(case l=>k_is);(case c=>k_is);(case k=>k_is)
  case F46=>refine' bj KX G RO.xP ?a ?l ?c ?k;(case a=>k_is);(case l=>k_is);(case c=>k_is);(case k=>k_is)
  case F47=>refine' bj KX G RO.pG ?a ?l ?c ?k;(case a=>k_is);(case l=>k_is);(case c=>k_is);(case k=>k_is)
  case F48=>refine' bj KX G RO.wX ?a ?l ?c ?k;(case a=>k_is);(case l=>k_is);(case c=>k_is);(case k=>k_is)
  case F49=>refine' bj KX G RO.pM ?a ?l ?c ?k;(case a=>k_is);(case l=>k_is);(case c=>k_is);(case k=>k_is)
  case F50=>refine' bj KX G RO.vt ?a ?l ?c ?k;(case a=>k_is);(case l=>k_is);(case c=>k_is);(case k=>k_is)
  case a51=>k_is
  case l51=>k_is
  case c51=>k_is
  case k51=>k_is
  case zB=>kernel_rfl
  case yFEW=>k_is
  case yMOST_THINGS=>k_is
  case m0=>k_is
  case e0=>kernel_rfl
  case m1=>k_is
  case e1=>kernel_rfl
  case m2=>k_is
  case e2=>kernel_rfl
end
